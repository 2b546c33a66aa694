import PyProof.Rows.All
import Wide.All
import OpenK.AllK
import Wide.FinOn
import KE.KExcLine
import KE.KIsAll
import HandS.ForExc
import HandS.ForMost
import HandS.ExcInit
import HandS.IsInst
import KE.KExcIs
import HandS.Evl
import HandS.WordsExc
import HandS.WideBits
import HandS.Wide
import HandS.ExcOwn
import HandS.Walk
import HandS.TupSets
import HandS.Lambda
import HandS.DictSubView
import KE.DataMinMax
import PyProof.ReprBulk
import PyProof.Rows.RegStrFacts
import KE.GoesEnum
import KE.GoesMore
import HandS.SetBool
import HandS.Ends
import HandS.Gcd
import HandS.Deep
import KE.KMathGC
import HandS.Style
import HandS.Property
import HandS.SortRule
import KE.DatumIndex
import PyProof.Rows.InDataRows
import HandS.Conv
import HandS.TupAny
import PyProof.EnumMake
import PyProof.StrLawsTight
import KE.KCallOwn
import HandS.Zip
import KE.KRevSl
import HandS.Comp
import KE.LtSeq
import HandS.SortOrd
import PyProof.FactsAll.set_2
import PyProof.FactsAll.subtypes_5
import PyProof.FactsAll.tuple
import PySem.Challenge.RW_shovefloors_k40_whole_copies_in_turned_f
import HandS.ExcField
import KE.KExcInit
import KE.KExcSuper
import HandS.HotCalls
import HandS.Exc
import HandS.TryMany
import KE.KTryMore
import PyProof.RulesAs
import HandS.SortInts
import KE.OsArith
import HandS.Star
import HandS.EndBits
import KE.KStateDown
import HandS.Head0
import HandS.Head1
import HandS.Head2
import HandS.HeadHook3
import HandS.HeadHook4
import HandS.EndTab
import KE.KNestM
import HandS.ForSpec
set_option Elab.async false
set_option linter.all false
set_option maxRecDepth 100000
set_option maxHeartbeats 0
namespace ErrX
open PySem PySem.W PySem.Calls PyProof.Rows PySem.Spec
/-- __init__ of an own class D that names super(): where it stands -/
structure SupFn (prog : Program) (K : Frag) (f D : Addr) (qual : Str) (params : Arguments) (body : List Stmt) (scope : Scope) : Prop where
  ex : ∃ oc od osl kV doc pm an ct cda cc ccl cdd vs ccs file tf cl cld csl cdD,
    K.lookup f = some ⟨oc, od, .func (ksFn "__init__" qual params body scope .none kV doc pm an (.ref cda) ct cc), osl⟩ ∧ codeIn K (.ref cda) qual = true ∧
    K.lookup cda = some ⟨ccl, cdd, .fields vs, ccs⟩ ∧ vs[2]? = some (.str file tf) ∧ ((prog.main.file : Str) == file) = true ∧
    K.lookup cc = some ⟨cl, cld, .cell (some (.ref D)), csl⟩ ∧ clsIn K D = some cdD
  top : (prog.main.scope.names.lookup ("super" : Str)).isSome = false
theorem mod_keeps {K : Frag} {mg : Str → Option Value} {h h' : Heap} (M : L2.Mod K mg h) (k : ∀ b o, h.get? b = some o → h'.get? b = some o) : L2.Mod K mg h' :=
  ⟨M.kin.keeps k, M.glob.keeps k, let ⟨mb, h1, h2⟩ := M.blt; ⟨mb, h1.keeps k, h2⟩, M.nolimit.keeps k⟩
section
variable {prog : Program} {w : World} {A : Around} {E : Value → Shared → Prop} {R : Result → Shared → Prop} {s : Shared} {K : Frag} {mg : Str → Option Value} {C D x f cc cda L : Addr}
/-- super() at the beginning of a method's first statement -/
theorem sup_base {body : List Stmt} {q : Str} {scope : Scope} {p0 p1 : Pos} {attr : Str} {whole : Sem Value} {fd : FuncData} {ar : Arg} {vs : Array Value} {file : Str} {tf : Tok} {oc ccl cl : Value} {od cdd cld : Option Addr} {osl ccs csl : Array (Option Value)} {cdD : ClassData} {ox : Obj} {m : Str → Option Value} {Q : Value → Shared → Prop}
    (M : L2.Mod K mg s.heap) (hs : mg "super" = none) (hn : s.heap.Ns L m)
    (hf : K.lookup f = some ⟨oc, od, .func fd, osl⟩) (hp : (fd.params.posonlyargs ++ fd.params.args).head? = some ar) (hv : m ar.arg = some (.ref x))
    (hx : s.heap.get? x = some ox) (hxc : ox.cls = .ref C) (hnc : ∀ c, ox.data ≠ .cls c)
    (hcode : K.lookup cda = some ⟨ccl, cdd, .fields vs, ccs⟩) (hvs : vs[2]? = some (.str file tf)) (hfile : ((prog.main.file : Str) == file) = true)
    (hcell : K.lookup cc = some ⟨cl, cld, .cell (some (.ref D)), csl⟩) (hD : clsIn K D = some cdD) (hsub : mroIn K C (.ref D) = some true)
    (hat : (attr == ("__class__" : Str)) = false) (hks : scope.names.lookup ("super" : Str) = some .globalImplicit) (hkc : scope.names.lookup ("__class__" : Str) = some .free) (hka : scope.names.lookup ar.arg = some .local) (hk : scope.kind = .function)
    (htop : (prog.main.scope.names.lookup ("super" : Str)).isSome = false)
    (h : ∀ h', h'.get? s.heap.objs.size = some (ks_superObj D x C) → (∀ b o, s.heap.get? b = some o → h'.get? b = some o) → Q (.ref s.heap.objs.size) { s with heap := h' }) :
    _root_.PySem.wpAt (model prog w) A (.func body (ksEnv q scope L f (.ref cda) cc)) (attributeBase (.Call (.Name "super" p0) [] [] p1) attr (ksEnv q scope L f (.ref cda) cc) whole) Q E s := by
  have X : K.In s.heap := M.kin
  obtain ⟨mb, hb1, hb2⟩ := M.blt
  obtain ⟨hh, g, d, t, os⟩ := s
  obtain ⟨oD, hD1, hD2⟩ : ∃ oD, hh.get? D = some oD ∧ oD.data = .cls cdD := by
    unfold clsIn at hD
    split at hD
    · rename_i c d cd' sl ho
      cases hD
      exact ⟨_, X _ _ ho, rfl⟩
    · cases hD
  refine ks_wpAt_super_base (env := ksEnv q scope L f (.ref cda) cc) hks hkc hat rfl (X _ _ hf) rfl hp rfl (X _ _ hcode) rfl hvs hfile htop ?_
  refine ks_loadName_global hk hks (loadGlobal_builtin (env := ksEnv q scope L f (.ref cda) cc) M.glob hs hb1 ((hb2 _ (by decide +kernel)).trans PyProof.Rows.Boot.«super») ⟨rfl, ?_⟩)
  refine wpAny_loadName_free hk hkc rfl ⟨_, X _ _ hcell, rfl⟩ ?_
  refine wpAny_loadName_local hk hka hn hv ?_
  refine ks_wpAny_isType_cls hD1 hD2 ⟨rfl, ?_⟩
  refine ks_wpAny_call_super hD1 hD2 hx hxc hnc (looks_mroIn X hsub) (fun h' e k => ?_)
  exact h _ e k
/-- super().__init__: the built-in one, bound -/
theorem sup_builtin {B initId : String} (KF : KxsFacts B initId) {so : Addr} {ox : Obj} {cdC : ClassData} {pl : Sem Bool} {Q : Value × List Value → Shared → Prop}
    (X : K.In s.heap) (hso : s.heap.get? so = some (ks_superObj D x C)) (hx : s.heap.get? x = some ox) (hxc : ox.cls = .ref C) (hnc : ∀ c, ox.data ≠ .cls c) (hC : clsIn K C = some cdC) (ho : nsIn K cStatics "thirdparty.any" = some none)
    (hm : ks_superIn K C D "__init__" = some (some (.builtin initId))) (hB : subIn K (.ref C) (.type B) = some true)
    (h : ∀ h', h'.get? s.heap.objs.size = some (kxs_mw initId x) → (∀ b o, s.heap.get? b = some o → h'.get? b = some o) → h'.objs.size = s.heap.objs.size + 1 → Q (.ref s.heap.objs.size, []) { s with heap := h', toks := s.toks + 1 }) :
    wpAny (model prog w) A (getMethod (.ref so) "__init__" pl) Q E s := by
  obtain ⟨hh, g, d, t, os⟩ := s
  have hty : Looks (model prog w) hh (typeOf (.ref x)) (.ref C) := hxc ▸ (Looks.ld hx).andThen .now
  have hI : Looks (model prog w) hh (isInstance (.ref x) (.type B)) true := hty.andThen (looks_subIn X hB)
  unfold ks_superIn at hm
  rw [hC] at hm
  have hne : x ≠ C := by
    rintro rfl
    unfold clsIn at hC
    split at hC
    · rename_i c d cd' sl ho'
      have e := X _ _ ho'
      rw [hx] at e
      cases e
      exact hnc _ rfl
    · cases hC
  refine kxs_getMethod KF hso (looks_opaque X ho) (l₀ := cdC.mro) ?_ rfl X hm hI hne (by decide) ?_
  · exact fun A Q E s k q => wpAny_bind ((looks_clsIn X hC) A _ E s k (wpAny_pure q))
  · exact h _ (Heap.get?_push_at rfl rfl) (fun b o e => Heap.get?_push_of_some _ e) (Heap.size_push _ _)
theorem ne_cls {ox : Obj} {cdC : ClassData} {h : Heap} (X : K.In h) (hx : h.get? x = some ox) (hnc : ∀ c, ox.data ≠ .cls c) (hC : clsIn K C = some cdC) : x ≠ C := by
  rintro rfl
  unfold clsIn at hC
  split at hC
  · rename_i c d cd' sl ho'
    have e := X _ _ ho'
    rw [hx] at e
    cases e
    exact hnc _ rfl
  · cases hC
/-- super().__init__: a base's def, bound -/
theorem sup_def {so g : Addr} {ox : Obj} {cdC : ClassData} {pl : Sem Bool} {Q : Value × List Value → Shared → Prop}
    (X : K.In s.heap) (hso : s.heap.get? so = some (ks_superObj D x C)) (hx : s.heap.get? x = some ox) (hxc : ox.cls = .ref C) (hnc : ∀ c, ox.data ≠ .cls c) (hC : clsIn K C = some cdC) (ho : nsIn K cStatics "thirdparty.any" = some none)
    (hm : ks_superIn K C D "__init__" = some (some (.ref g))) (ht : typeIn K (.ref g) = some (.type "function"))
    (h : ∀ h', h'.get? s.heap.objs.size = some (methodObj (.ref g) (.ref x)) → (∀ b o, s.heap.get? b = some o → h'.get? b = some o) → Q (.ref s.heap.objs.size, []) { s with heap := h', toks := s.toks + 1 }) :
    wpAny (model prog w) A (getMethod (.ref so) "__init__" pl) Q E s := by
  obtain ⟨hh, gg, d, t, os⟩ := s
  have hne := ne_cls X hx hnc hC
  unfold ks_superIn at hm
  rw [hC] at hm
  obtain ⟨of, hof, hofc⟩ : ∃ of, hh.get? g = some of ∧ of.cls = .type "function" := by
    have ht' : (K.lookup g).map (·.cls) = some (.type "function") := ht
    cases z : K.lookup g with
    | none => rw [z] at ht'; cases ht'
    | some of => rw [z] at ht'; exact ⟨of, X _ _ z, Option.some.inj ht'⟩
  refine ks_wpAny_getMethod_super hso (looks_opaque X ho) (l₀ := cdC.mro) ?_ rfl X hm hof hofc hne (by decide) ?_
  · exact fun A Q E s k q => wpAny_bind ((looks_clsIn X hC) A _ E s k (wpAny_pure q))
  · exact h _ (Heap.get?_push_at rfl rfl) (fun b o e => Heap.get?_push_of_some _ e)
/-- the bound built-in __init__ called -/
theorem call_mw {B newId initId : String} {bmB : List Value} {u t0 : Addr} {rest : List Value} {Q : Value → Shared → Prop} (FB : ExcBaseFacts B newId initId bmB) (X : K.In s.heap) (q : excInitIn K C bmB newId = true)
    (hu : s.heap.get? u = some (kxs_mw initId x)) (hx : s.heap.get? x = some (excObj C t0 none .none)) (hz : rest.length ≤ sizeLine)
    (h : ∀ t' h', (∀ b o, b ≠ x → s.heap.get? b = some o → h'.get? b = some o) → h'.get? x = some (excObj C t' none .none) → Q .none { s with heap := h' }) :
    wpAny (model prog w) A (call (.ref u) rest) Q E s := by
  obtain ⟨nm, N', qn, bs, bm, hdct, sn, sub, ab, col, dd, k0, k1, k2, k3, k5, hC, hT⟩ := excInit_of X q
  obtain ⟨hh, g, d, tk, os⟩ := s
  refine wpAny_call (codeAny_of_tree ?_)
  show wpAny _ A.in1 (callAny (.ref u) ⟨rest, []⟩) _ _ _
  simp only [callAny]
  refine wpAny_bind (wpAny_load hu ?_)
  simp only [kxs_mw, show (Value.type "method-wrapper" == Value.type "method" || Value.type "method-wrapper" == Value.type "builtin_function_or_method" || Value.type "method-wrapper" == Value.type "method-wrapper") = true by decide, if_true]
  refine KFB.if_so (by decide) ?_
  refine wpAny_bind (check_bound_init FB.toExcCallFacts hC hx rfl ?_)
  refine wpAny_bind (wpAny_pure (wpAny_pure ?_))
  refine ⟨plainId_quiet FB.init.plain _, codeAny_builtin FB.initEntry ?_⟩
  exact exc_init_tree (cls := .ref C) (t0 := t0) (dv := none) (c2 := .none) (c3 := .none) (b4 := .bool false) hx hz fun h' k e t' => h _ h' k e
end
def aSelf (q1 : Pos) : Arguments := { posonlyargs := [], args := [{ arg := "self", annotation := none, pos := q1 }], vararg := none, kwonlyargs := [], kw_defaults := [], kwarg := none, defaults := [] }
def aField (q1 q2 : Pos) (fld : Str) : Arguments := { posonlyargs := [], args := [{ arg := "self", annotation := none, pos := q1 }, { arg := fld, annotation := none, pos := q2 }], vararg := none, kwonlyargs := [], kw_defaults := [], kwarg := none, defaults := [] }
def sSelf : Scope := { kind := .function, names := [(PySem.Str.ofString "self", .local), (PySem.Str.ofString "__class__", .free), (PySem.Str.ofString "super", .globalImplicit)], isGenerator := false, isCoroutine := false, more := [] }
def sField (fld : Str) : Scope := { kind := .function, names := [(PySem.Str.ofString "self", .local), (fld, .local), (PySem.Str.ofString "__class__", .free), (PySem.Str.ofString "super", .globalImplicit)], isGenerator := false, isCoroutine := false, more := [] }
/-- super().__init__(..) -/
def stSup (es : List Expr) (p0 p1 p2 p3 p4 : Pos) : Stmt := .Expr (.Call (.Attribute (.Call (.Name "super" p0) [] [] p1) "__init__" p2) es [] p3) p4
/-- how such a call is evaluated (by rfl where the places are written) -/
def SupCall (es : List Expr) (p0 p1 p2 p3 : Pos) : Prop := ∀ env : Env, ∃ pl : Sem Bool, eval (.Call (.Attribute (.Call (.Name "super" p0) [] [] p1) "__init__" p2) es [] p3) env = (do
      let ov ← attributeBase (.Call (.Name "super" p0) [] [] p1) "__init__" env (eval (.Call (.Name "super" p0) [] [] p1) env)
      standAt p2.atName
      let (f, first) ← holding [ov] (getMethod ov "__init__" pl)
      callWith p3 f first (backTo p3 (starEach es env)) [])
/-- what the written part says of an own error class C over the own base D over the built-in B -/
structure ErrC (K : Frag) (C : Addr) (B newId initId : String) (bmB : List Value) : Prop where
  fb : ExcBaseFacts B newId initId bmB
  kf : KxsFacts B initId
  q : excInitIn K C bmB newId = true
  cls : ∃ cd, clsIn K C = some cd
  hB : subIn K (.ref C) (.type B) = some true
  op : nsIn K cStatics "thirdparty.any" = some none
  sf : StoreFacts B bmB "object.__setattr__" "object"
  sa : findIn K (.ref C) "__setattr__" = some (some (.builtin "object.__setattr__"))
  over : excOver K C bmB = true
  hd : hasDictIn K C = true
section
variable {prog : Program} {w : World} {A : Around} {E : Value → Shared → Prop} {R : Result → Shared → Prop} {s : Shared} {K : Frag} {mg : Str → Option Value} {C D x f : Addr} {B newId initId : String} {bmB : List Value}
/-- a def that names super() is entered -/
theorem call_ks {name qual : Str} {params : Arguments} {body : List Stmt} {scope : Scope} {kV doc pm ct oc : Value} {an od : Option Addr} {osl : Array (Option Value)} {cda cc : Addr} {args : Args} {binds : List (Str × Value)} {R : Result → Shared → Prop}
    (X : K.In s.heap) (lim : s.heap.NoLimit) (hf : K.lookup f = some ⟨oc, od, .func (ksFn name qual params body scope .none kV doc pm an (.ref cda) ct cc), osl⟩) (hcd : codeIn K (.ref cda) qual = true) (hroom : A.depth < recursionLimit)
    (hbind : BindsTo s (ksFn name qual params body scope .none kV doc pm an (.ref cda) ct cc) args binds) (hcell : ∀ x ∈ scope.names, x.2 ≠ .cell) (hloc : ∀ y ∈ binds, scope.names.lookup y.1 = some .local)
    (h : ∀ h₁, h₁.Ns s.heap.objs.size (fun y => binds.reverse.lookup y) → (∀ b o, s.heap.get? b = some o → h₁.get? b = some o) →
      _root_.PySem.wpAt (model prog w) (A.deeper (ksEnv qual scope s.heap.objs.size f (.ref cda) cc)) (.func body (ksEnv qual scope s.heap.objs.size f (.ref cda) cc)) (execs body (ksEnv qual scope s.heap.objs.size f (.ref cda) cc))
        (fun fl s' => R (.ok (.ret (match fl with | .ret v => v | _ => .none))) s')
        (fun e s' => wpAny (model prog w) (A.deeper (ksEnv qual scope s.heap.objs.size f (.ref cda) cc)) (leaving (ksEnv qual scope s.heap.objs.size f (.ref cda) cc) e) (fun _ s'' => R (.error e) s'') (fun e' s'' => R (.error e') s'') s')
        { s with heap := h₁, toks := s.toks + binds.length })
    (hco : scope.isCoroutine = false := by rfl) (hgen : scope.isGenerator = false := by rfl) (hk : scope.kind = .function := by rfl) : codeAny (model prog w) A (.call (.ref f) args) R s := by
  refine ks_codeAny_call_defAt (fd := ksFn name qual params body scope .none kV doc pm an (.ref cda) ct cc) (body := body) (binds := binds) hroom (X _ _ hf) rfl lim (codeRec_of X hcd) rfl hbind hcell hloc (fun h₁ hns hk₁ => ?_) hco hgen hk
  exact h h₁ hns hk₁
/-- __init__ of the base D, for an object of the class C -/
theorem base_init {q1 p0 p1 p2 p3 p4 p5 : Pos} {txt qual : Str} {j : Nat} {t0 : Addr} (hsc : SupCall [.Constant (.str txt) j p5] p0 p1 p2 p3) (S : SupFn prog K f D qual (aSelf q1) [stSup [.Constant (.str txt) j p5] p0 p1 p2 p3 p4] sSelf) (Y : ErrC K C B newId initId bmB)
    (M : L2.Mod K mg s.heap) (hs : mg "super" = none) (hx : s.heap.get? x = some (excObj C t0 none .none)) (hsub : mroIn K C (.ref D) = some true) (hm : ks_superIn K C D "__init__" = some (some (.builtin initId))) (hroom : A.depth < recursionLimit)
    (hq : ∀ h' tk t1, (∀ b o, b ≠ x → s.heap.get? b = some o → h'.get? b = some o) → h'.get? x = some (excObj C t1 none .none) → R (.ok (.ret .none)) { s with heap := h', toks := tk }) :
    codeAny (model prog w) A (.call (.ref f) ⟨[.ref x], []⟩) R s := by
  obtain ⟨⟨oc, od, osl, kV, doc, pm, an, ct, cda, cc, ccl, cdd, vs, ccs, file, tf, cl, cld, csl, cdD, hf, hcd, hcode, hvs, hfile, hcell, hD⟩, htop⟩ := S
  obtain ⟨cdC, hC⟩ := Y.cls
  have X := M.kin
  refine call_ks (binds := [("self", .ref x)]) X M.nolimit hf hcd hroom (BindsTo.of_eq (by first | rfl | with_unfolding_all rfl)) (by decide) (locs rfl) (fun h₁ hns k₁ => ?_)
  have M₁ := mod_keeps M k₁
  have hx₁ := k₁ _ _ hx
  have nx : ∀ c, (excObj C t0 none .none).data ≠ .cls c := fun c z => by cases z
  unfold stSup
  obtain ⟨pl, hsc⟩ := hsc (ksEnv qual sSelf s.heap.objs.size f (.ref cda) cc)
  refine ks_wpAt_execs_cons (ks_wpAt_Expr_any (ks_wpAt_MethodCall ?_ hsc))
  refine sup_base (s := ⟨h₁, s.gens, s.drawn, _, s.os⟩) M₁ hs hns hf rfl (by first | rfl | with_unfolding_all rfl) hx₁ rfl nx hcode hvs hfile hcell hD hsub (by decide) (by decide) (by decide) (show sSelf.names.lookup ("self" : Str) = some .local by decide) rfl htop fun h₂ e₂ k₂ => ?_
  refine sup_builtin (s := ⟨h₂, s.gens, s.drawn, _, s.os⟩) Y.kf (M₁.kin.keeps k₂) e₂ (k₂ _ _ hx₁) rfl nx hC Y.op hm Y.hB fun h₃ e₃ k₃ z₃ => ?_
  have k₀₃ : ∀ b o, s.heap.get? b = some o → h₃.get? b = some o := fun b o e => k₃ _ _ (k₂ _ _ (k₁ _ _ e))
  show wpAny _ _ (callWith p3 (.ref h₂.objs.size) [] (backTo p3 (starEach [Expr.Constant (.str txt) j p5] (ksEnv qual sSelf s.heap.objs.size f (.ref cda) cc))) []) _ _ _
  refine kxs_callWith (i := initId) (x := x) rfl (evalArgs_plain (spliced_cons ?_))
  show wpAny _ _ (eval (.Constant (.str txt) j p5) _) _ _ _
  refine Calls.Constant_str (spliced_nil ⟨e₃, ?_⟩)
  refine call_mw (s := ⟨h₃, s.gens, s.drawn, _, s.os⟩) Y.fb (M.kin.keeps k₀₃) Y.q e₃ (k₀₃ _ _ hx) ?_ fun t' h₄ k₄ e₄ => ?_
  · rw [sizeLine_eq]
    exact (by decide : 1 ≤ 16777216)
  exact wpAt_of_wpAny (wpAny_execs_nil (hq h₄ _ t' (fun b o hb e => k₄ _ _ hb (k₀₃ _ _ e)) e₄))
/-- self.fld = v, the first store -/
theorem err_store {t : Addr} {fld : Str} {v : Value} {Q : Unit → Shared → Prop} (Y : ErrC K C B newId initId bmB) (X : K.In s.heap) (hx : s.heap.get? x = some (excObj C t none .none)) (ht : takerIn K C fld = some none)
    (hq : ∀ h' tk dx, (∀ b o, b ≠ x → s.heap.get? b = some o → h'.get? b = some o) → s.heap.objs.size ≤ dx → dx ≠ x → h'.get? x = some (excObj C t (some dx) .none) → h'.Ns1 dx (fun y => if y = fld then some v else none) → Q () { s with heap := h', toks := tk }) :
    wpAny (model prog w) A (setAttr (.ref x) fld v) Q E s := by
  obtain ⟨hp, g, d, tk, os⟩ := s
  have I : InstAt hp x (excObj C t none .none) C none := ⟨hx, rfl, rfl, trivial⟩
  have hxs : x ≠ hp.objs.size := Nat.ne_of_lt (Heap.lt_size hx)
  obtain ⟨cd, hc, hd'⟩ := any_some Y.hd
  refine set_plain X I Y.sa ?_
  refine osa_openX (od := none) Y.sf X I Y.over ht fun b => ?_
  refine wpAny_bind (wpAny_pure (wpAny_bind (instanceDict_exc hx (looks_clsIn X hc) hd' ?_)))
  show wpAny _ _ (Builtin.ObjectAttr.storeInDict hp.objs.size (.str fld tk) fld v) _ _ _
  refine HandSPX.store_in_new (hp := (hp.push (dictOf [] 0)).update x fun o => { o with dict := some hp.objs.size }) ?_ fun h' tk' hn' hs => ?_
  · exact ⟨_, #[], _, (Heap.get?_update_ne _ _ _ _ hxs.symm).trans (Heap.get?_push_at rfl rfl), rfl, fun e he => absurd he (by simp), fun _ => rfl⟩
  · have hx₁ : (hp.push (dictOf [] 0)).get? x = some (excObj C t none .none) := Heap.get?_push_of_some _ hx
    refine hq h' _ hp.objs.size (fun b o hb ho => ?_) (Nat.le_refl _) hxs.symm ?_ hn'
    · exact (hs.2 b (Nat.ne_of_lt (Heap.lt_size ho))).trans ((Heap.get?_update_ne _ _ _ _ hb).trans (Heap.get?_push_of_some _ ho))
    · exact (hs.2 x hxs).trans (Heap.get?_update_self _ hx₁ rfl)
/-- a class over the own base D: its own __init__ at f with the field fld -/
structure LeafC (prog : Program) (K : Frag) (C D f g : Addr) (fld : Str) : Prop where
  ht : takerIn K C fld = some none
  hsC : mroIn K C (.ref C) = some true
  hsD : mroIn K C (.ref D) = some true
  hmC : ks_superIn K C C "__init__" = some (some (.ref g))
  tg : typeIn K (.ref g) = some (.type "function")
  fg : fnIn K g = true
theorem leaf_init {q1 q2 p0 p1 p2 p3 p4 a0 a1 a2 a3 b1 c0 c1 c2 c3 c4 c5 : Pos} {txt qual qualD fld : Str} {j : Nat} {t0 g : Addr} {v : Value} (hfld : fld ≠ "self" ∧ fld ≠ "__class__" ∧ fld ≠ "super" ∧ (fld == ("__debug__" : Str)) = false)
    (hsc : SupCall [] p0 p1 p2 p3) (hscD : SupCall [.Constant (.str txt) j c5] c0 c1 c2 c3)
    {args : Args} (hbind : ∀ (kV doc pm ct : Value) (an : Option Addr) (cda cc : Addr) (s : Shared), BindsTo s (ksFn "__init__" qual (aField q1 q2 fld) [stSup [] p0 p1 p2 p3 p4, .Assign [.Attribute (.Name "self" a0) fld a1] (.Name fld a2) a3] (sField fld) .none kV doc pm an (.ref cda) ct cc) args [("self", .ref x), (fld, v)])
    (hsw : ∀ env : Env, swapsWith (.Name fld a2) (some (.Attribute (.Name "self" a0) fld a1)) a3.line env = pure false)
    (S : SupFn prog K f C qual (aField q1 q2 fld) [stSup [] p0 p1 p2 p3 p4, .Assign [.Attribute (.Name "self" a0) fld a1] (.Name fld a2) a3] (sField fld))
    (SD : SupFn prog K g D qualD (aSelf b1) [stSup [.Constant (.str txt) j c5] c0 c1 c2 c3 c4] sSelf) (hmD : ks_superIn K C D "__init__" = some (some (.builtin initId))) (Z : LeafC prog K C D f g fld)
    (Y : ErrC K C B newId initId bmB)
    (M : L2.Mod K mg s.heap) (hs : mg "super" = none) (hx : s.heap.get? x = some (excObj C t0 none .none)) (hnx : K.lookup x = none) (hroom : A.depth + 2 < recursionLimit)
    (hq : ∀ h' tk t1 dx, (∀ b o, b ≠ x → s.heap.get? b = some o → h'.get? b = some o) → s.heap.objs.size ≤ dx → dx ≠ x → h'.get? x = some (excObj C t1 (some dx) .none) → h'.Ns1 dx (fun y => if y = fld then some v else none) →
      R (.ok (.ret .none)) { s with heap := h', toks := tk }) :
    codeAny (model prog w) A (.call (.ref f) args) R s := by
  obtain ⟨⟨oc, od, osl, kV, doc, pm, an, ct, cda, cc, ccl, cdd, vs, ccs, file, tf, cl, cld, csl, cdD, hf, hcd, hcode, hvs, hfile, hcell, hD⟩, htop⟩ := S
  obtain ⟨cdC, hC⟩ := Y.cls
  obtain ⟨n1, n2, n3, n4⟩ := hfld
  have X := M.kin
  have b1 : ((fld == ("self" : Str))) = false := beq_eq_false_iff_ne.mpr n1
  have b2 : ((("self" : Str) == fld)) = false := beq_eq_false_iff_ne.mpr (Ne.symm n1)
  have b3 : ((("__class__" : Str) == fld)) = false := beq_eq_false_iff_ne.mpr (Ne.symm n2)
  have b4 : ((("super" : Str) == fld)) = false := beq_eq_false_iff_ne.mpr (Ne.symm n3)
  have lself : (sField fld).names.lookup ("self" : Str) = some .local := by
    show List.lookup ("self" : Str) ((("self" : Str), NameKind.local) :: _) = _
    rw [List.lookup_cons, beq_self_eq_true]
  have lfld : (sField fld).names.lookup fld = some .local := by
    show List.lookup fld ((("self" : Str), NameKind.local) :: (fld, NameKind.local) :: _) = _
    rw [List.lookup_cons, b1, List.lookup_cons, beq_self_eq_true]
  have lcls : (sField fld).names.lookup ("__class__" : Str) = some .free := by
    show List.lookup ("__class__" : Str) ((("self" : Str), NameKind.local) :: (fld, NameKind.local) :: (("__class__" : Str), NameKind.free) :: _) = _
    rw [List.lookup_cons, show (("__class__" : Str) == ("self" : Str)) = false by decide, List.lookup_cons, b3, List.lookup_cons, beq_self_eq_true]
  have lsup : (sField fld).names.lookup ("super" : Str) = some .globalImplicit := by
    show List.lookup ("super" : Str) ((("self" : Str), NameKind.local) :: (fld, NameKind.local) :: (("__class__" : Str), NameKind.free) :: (("super" : Str), NameKind.globalImplicit) :: _) = _
    rw [List.lookup_cons, show (("super" : Str) == ("self" : Str)) = false by decide, List.lookup_cons, b4, List.lookup_cons, show (("super" : Str) == ("__class__" : Str)) = false by decide, List.lookup_cons, beq_self_eq_true]
  refine call_ks (binds := [("self", .ref x), (fld, v)]) X M.nolimit hf hcd (by omega) (hbind _ _ _ _ _ _ _ _) (by
    intro y hy
    show y.2 ≠ _
    have hy' : y ∈ ([(("self" : Str), NameKind.local), (fld, .local), (("__class__" : Str), .free), (("super" : Str), .globalImplicit)] : List (Str × NameKind)) := hy
    simp only [List.mem_cons, List.mem_nil_iff, or_false] at hy'
    rcases hy' with rfl | rfl | rfl | rfl <;> (intro z; cases z)) (by
    intro y hy
    simp only [List.mem_cons, List.mem_nil_iff, or_false] at hy
    rcases hy with rfl | rfl
    · exact lself
    · exact lfld) (fun h₁ hns k₁ => ?_)
  have M₁ := mod_keeps M k₁
  have hx₁ := k₁ _ _ hx
  have nx : ∀ c, (excObj C t0 none .none).data ≠ .cls c := fun c z => by cases z
  have mself : (fun y => ([(("self" : Str), Value.ref x), (fld, v)] : List (Str × Value)).reverse.lookup y) "self" = some (.ref x) := by
    show List.lookup ("self" : Str) [(fld, v), (("self" : Str), Value.ref x)] = _
    rw [List.lookup_cons, b2, List.lookup_cons, beq_self_eq_true]
  have mfld : (fun y => ([(("self" : Str), Value.ref x), (fld, v)] : List (Str × Value)).reverse.lookup y) fld = some v := by
    show List.lookup fld [(fld, v), (("self" : Str), Value.ref x)] = _
    rw [List.lookup_cons, beq_self_eq_true]
  unfold stSup
  obtain ⟨pl, hsc⟩ := hsc (ksEnv qual (sField fld) s.heap.objs.size f (.ref cda) cc)
  refine ks_wpAt_execs_cons (ks_wpAt_Expr_any (ks_wpAt_MethodCall ?_ hsc))
  refine sup_base (s := ⟨h₁, s.gens, s.drawn, _, s.os⟩) M₁ hs hns hf rfl mself hx₁ rfl nx hcode hvs hfile hcell hD Z.hsC (by decide) lsup lcls lself rfl htop fun h₂ e₂ k₂ => ?_
  refine sup_def (s := ⟨h₂, s.gens, s.drawn, _, s.os⟩) (M₁.kin.keeps k₂) e₂ (k₂ _ _ hx₁) rfl nx hC Y.op Z.hmC Z.tg fun h₃ e₃ k₃ => ?_
  have k₀₃ : ∀ b o, s.heap.get? b = some o → h₃.get? b = some o := fun b o e => k₃ _ _ (k₂ _ _ (k₁ _ _ e))
  have M₃ : L2.Mod K mg h₃ := mod_keeps M k₀₃
  have sz₃ : s.heap.objs.size < h₃.objs.size := Heap.lt_size (k₃ _ _ (k₂ _ _ (hns.choose_spec.choose_spec.choose_spec.1)))
  show wpAny _ _ (callWith p3 (.ref h₂.objs.size) [] (backTo p3 (starEach [] (ksEnv qual (sField fld) s.heap.objs.size f (.ref cda) cc))) []) _ _ _
  refine callWith_M0 (K := K) (g := g) (self := .ref x) ⟨e₃, M₃.kin⟩ Z.fg ?_
  refine wpAny_call (method_call (s := ⟨h₃, s.gens, s.drawn, _, s.os⟩) e₃ ?_)
  refine base_init (s := ⟨h₃, s.gens, s.drawn, _, s.os⟩) hscD SD Y M₃ hs (k₀₃ _ _ hx) Z.hsD hmD (by show A.depth + 1 < _; omega) fun h₄ tk₄ t₄ k₄ e₄ => ?_
  refine wpAt_of_wpAny ?_
  have hL₄ : h₄.Ns s.heap.objs.size (fun y => ([(("self" : Str), Value.ref x), (fld, v)] : List (Str × Value)).reverse.lookup y) := by
    obtain ⟨o, es, ep, ho, hr⟩ := hns
    have ne : s.heap.objs.size ≠ x := Nat.ne_of_gt (Heap.lt_size hx)
    exact ⟨o, es, ep, k₄ _ _ ne (k₃ _ _ (k₂ _ _ ho)), hr⟩
  have kx : ∀ b o, b ≠ x → s.heap.get? b = some o → h₄.get? b = some o := fun b o hb e => k₄ _ _ hb (k₀₃ _ _ e)
  have K₄ : K.In h₄ := fun a o e => kx a o (fun z => by rw [z, hnx] at e; cases e) (X a o e)
  refine wpAny_execs_cons (plainObj_wpAny_Assign_Attribute ?_ (hsw _))
  refine wpAny_Name (wpAny_loadName_local rfl lfld hL₄ mfld ?_) n4
  refine wpAny_Name (wpAny_loadName_local rfl lself hL₄ mself ?_) (by decide)
  refine err_store (s := ⟨h₄, s.gens, s.drawn, _, s.os⟩) Y K₄ e₄ Z.ht fun h₅ tk₅ dx k₅ d₅ n₅ x₅ ns₅ => ?_
  have zz : s.heap.objs.size ≤ h₄.objs.size := by
    obtain ⟨o, es, ep, ho, hr⟩ := hL₄
    exact Nat.le_of_lt (Heap.lt_size ho)
  show wpAny _ _ (execs _ _) _ _ _
  exact wpAny_execs_nil (hq h₅ tk₅ t₄ dx (fun b o hb e => k₅ _ _ hb (kx _ _ hb e)) (Nat.le_trans zz d₅) n₅ x₅ ns₅)
end
end ErrX
namespace ErrX
open PySem PySem.W PySem.Calls PyProof.Rows PySem.Spec PySem.HandSPX
end ErrX
namespace ErrX
open PySem PySem.Spec PyProof.Rows L2
open PySem.W (Frag)
/-- how the __init__ at f of the class C leaves an object: one field fld -/
def InitOk (prog : Program) (K : Frag) (mg : Str → Option Value) (C f : Addr) (fld : Str) : Prop :=
  ∀ {w : World} {A : Around} {R : Result → Shared → Prop} {s : Shared} {x t0 : Addr} {v : Value} {args : Args}, (args = ⟨[.ref x, v], []⟩ ∨ args = ⟨[.ref x], [(fld, v)]⟩) → L2.Mod K mg s.heap →
    s.heap.get? x = some (PySem.W.excObj C t0 none .none) → K.lookup x = none → A.depth + 2 < recursionLimit →
    (∀ h' tk t1 dx, (∀ b o, b ≠ x → s.heap.get? b = some o → h'.get? b = some o) → s.heap.objs.size ≤ dx → dx ≠ x → h'.get? x = some (PySem.W.excObj C t1 (some dx) .none) → h'.Ns1 dx (fun y => if y = fld then some v else none) →
      R (.ok (.ret .none)) { s with heap := h', toks := tk }) → codeAny (model prog w) A (.call (.ref f) args) R s
/-- .. without a field -/
def InitOk0 (prog : Program) (K : Frag) (mg : Str → Option Value) (C f : Addr) : Prop :=
  ∀ {w : World} {A : Around} {R : Result → Shared → Prop} {s : Shared} {x t0 : Addr}, L2.Mod K mg s.heap →
    s.heap.get? x = some (PySem.W.excObj C t0 none .none) → K.lookup x = none → A.depth + 2 < recursionLimit →
    (∀ h' tk t1, (∀ b o, b ≠ x → s.heap.get? b = some o → h'.get? b = some o) → h'.get? x = some (PySem.W.excObj C t1 none .none) →
      R (.ok (.ret .none)) { s with heap := h', toks := tk }) → codeAny (model prog w) A (.call (.ref f) ⟨[.ref x], []⟩) R s
/-- what is told of an own error class -/
structure ErrT (K : Frag) (mg : Str → Option Value) (cn : Str) (C f : Addr) : Prop where
  glob : mg cn = some (.ref C)
  kp : PySem.W.keepIn K (.ref C) = true
  cls : ∃ B newId initId bmB, ErrC K C B newId initId bmB
  init : PySem.W.findIn K (.ref C) "__init__" = some (some (.ref f))
  isf : PySem.W.isFn K (.ref f) = true
/-- what isinstance and attributes ask of it -/
structure ErrA (K : Frag) (C : Addr) : Prop where
  hcl : (PySem.W.clsIn K C).isSome = true
  hga : PySem.W.findIn K (.ref C) "__getattribute__" = some (some (.builtin "BaseException.__getattribute__"))
  hgt : PySem.W.findIn K (.ref C) "__getattr__" = some none
  hsub : PySem.W.subIn K (.ref C) (.type "BaseException") = some true
  ha : PySem.W.findIn K (.ref C) "__class__" = some (some (.builtin "object.__class__"))
  hn : PySem.W.specialIn K (.builtin "object.__class__") "__get__" = some (some (.builtin "getset_descriptor.__get__"))
  htk : PySem.W.takesIn K (.builtin "object.__class__") = some true
  hm : PySem.W.mroIn K C (.type "object") = some true
section
variable {X : Cx} {pins : List (Addr × Obj)} {σ : L2.St} {H : Hp} {s : Shared} {C f : Addr} {cn fld : Str}
theorem isfn_type {K : Frag} {h : Heap} (KX : K.In h) (i : PySem.W.isFn K (.ref f) = true) : ∃ o, h.get? f = some o ∧ o.cls = .type "function" := by
  obtain ⟨o, ho, hc⟩ := Option.map_eq_some_iff.mp (show (K.lookup f).map (·.cls) = some (.type "function") from beq_iff_eq.mp i)
  exact ⟨o, KX _ _ ho, hc⟩
/-- an error stands at e, of the class C -/
def ErrAt (H : Hp) (e C : Addr) : Prop := ∃ d, H e = some (exo e C d) ∧ ∀ dx, d = some dx → ∃ fs, H dx = some (exd dx fs)
end
end ErrX
namespace Lay
open PySem PySem.Spec PyProof.Rows L2 Evl
/-- as FnOk, for a call around which no container is being written out -/
structure FnG (P : Program) (w : World) (K : PySem.W.Frag) (mg : Str → Option Value) (base : Heap) (CX : CXT) (k : Nat) (f : Addr) (fd : FuncData) (ps : List Str) (sp : Sp) : Prop where
  len : ∀ vs H Q E, sp vs H Q E → vs.length = ps.length
  run : ∀ (A : Around) (outer : List Env) (s : Shared) (H : Hp) (args : Args) (us : List Value) (vs : List V) (Q : VK) (E : XK), Room k A → A.guards = some [] → Env0 P w K mg base A outer s H → BindsTo s fd args (ps.zip us) → Vals vs us → sp vs H Q E →
    codeAny (model P w) A (.call (.ref f) args) (CR CX outer P w H s Q E) s
section
variable {P : Program} {w : World} {K : PySem.W.Frag} {mg : Str → Option Value} {base : Heap} {CX : CXT}
theorem FnG.mono {j k : Nat} {f : Addr} {fd : FuncData} {ps : List Str} {sp : Sp} (F : FnG P w K mg base CX j f fd ps sp) (h : j ≤ k) : FnG P w K mg base CX k f fd ps sp :=
  ⟨F.len, fun A outer s H args us vs Q E hr => F.run A outer s H args us vs Q E (hr.mono h)⟩
theorem FnG.imp {k : Nat} {f : Addr} {fd : FuncData} {ps : List Str} {sp sp' : Sp} (F : FnG P w K mg base CX k f fd ps sp) (h : ∀ vs H Q E, sp' vs H Q E → sp vs H Q E) : FnG P w K mg base CX k f fd ps sp' :=
  ⟨fun vs H Q E q => F.len vs H Q E (h _ _ _ _ q), fun A outer s H args us vs Q E hr hg he hb hv hs => F.run A outer s H args us vs Q E hr hg he hb hv (h _ _ _ _ hs)⟩
/-- a def by its body -/
theorem fng {x qual : Str} {st : Stmt} {f : Addr} {fd : FuncData} {N ps : List Str} {k : Nat} {sp : Sp} (F : Fun K x qual st f fd) (S : FnScope N ps (defScope st)) (len : ∀ vs H Q E, sp vs H Q E → vs.length = ps.length)
    (body : ∀ (cdv : Value) (A : Around) (outer : List Env) (s : Shared) (H : Hp) (vs : List V) (Q : VK) (E : XK), Room k (A.deeper (envOfC qual (defScope st) s.heap.objs.size f cdv)) → (cxOf CX P w K mg base N qual (defScope st) f cdv A outer s H E).A.guards = some [] → sp vs H Q E →
      ∃ t, PSs (cxOf CX P w K mg base N qual (defScope st) f cdv A outer s H E) (defBody st) t ∧ t { nx := fun _ H' => Q .non H', rt := Q } (start N vs) H) : FnG P w K mg base CX (k + 1) f fd ps sp := by
  obtain ⟨oc, od, kV, doc, pm, an, cdv, ct, osl, rfl, lk, code⟩ := F.ex
  refine ⟨len, fun A outer s H args us vs Q E hr hg e0 hb r hsp => ?_⟩
  have many := len _ _ _ _ hsp
  have up : ∀ b o, base.get? b = some o → s.heap.get? b = some o := fun b o e => (e0.bs b o e).1
  have KX : K.In s.heap := e0.mod.kin.keeps up
  refine codeAny_call_function hr.depth (KX _ _ lk) rfl S.co S.gen rfl (PySem.W.codeRec_of KX code) (hb _ _ _ _ ?_)
  refine wpAny_newFunctionEnv_cells S.kind (fun y hy => ?_) fun env he s1 x => ?_
  · obtain ⟨n, v⟩ := y
    rcases S.par n (List.of_mem_zip hy).1 with q | q
    · exact .inl q
    · exact .inr ⟨q, PySem.W.cellsFrom_some _ _ _ (.inl q)⟩
  · subst he
    refine ⟨(e0.mod.nolimit.keeps up).keeps x.toInCall.keep, codeAny_func ?_⟩
    obtain ⟨t, ht, hq⟩ := body cdv A outer s H vs Q E (hr.deeper _) (by show A.guards = _; exact hg) hsp
    have I := inv_start (CX := CX) (E := E) S hr.hd e0 many r x
    refine wpAny_mono (ht.run [] s1 (start N vs) H _ I hq) (fun fl s' hs => ?_) fun e s' z => z
    cases fl with
    | ret u =>
      obtain ⟨v, σ', H', J, rv, q⟩ := hs
      exact ⟨v, H', J.os, J.bare, J.base, J.hok, rv, q⟩
    | next =>
      obtain ⟨σ', H', J, q⟩ := hs
      exact ⟨V.non, H', J.os, J.bare, J.base, J.hok, rfl, q⟩
    | brk =>
      obtain ⟨_, _, _, q⟩ := hs
      exact q.elim
    | cont =>
      obtain ⟨_, _, _, q⟩ := hs
      exact q.elim
/-- where a def of the module stands -/
structure DefIn (K : PySem.W.Frag) (mg : Str → Option Value) (x : Str) (st : Stmt) (ps : List Str) : Prop where
  ex : ∃ f fd, Fun K x x st f fd ∧ mg x = some (.ref f) ∧ Binds K fd ps []
/-- a def and its promise (nothing is raised) -/
structure DefOk (P : Program) (w : World) (K : PySem.W.Frag) (mg : Str → Option Value) (base : Heap) (x : Str) (k : Nat) (ps : List Str) (sp : Sp) : Prop where
  ex : ∃ f fd, FnG P w K mg base CX0 k f fd ps sp ∧ mg x = some (.ref f) ∧ PySem.W.keepIn K (.ref f) = true ∧ Binds K fd ps []
theorem DefOk.mono {x : Str} {j k : Nat} {ps : List Str} {sp : Sp} (D : DefOk P w K mg base x j ps sp) (h : j ≤ k) : DefOk P w K mg base x k ps sp :=
  let ⟨f, fd, F, r⟩ := D.ex
  ⟨f, fd, F.mono h, r⟩
theorem DefOk.imp {x : Str} {k : Nat} {ps : List Str} {sp sp' : Sp} (D : DefOk P w K mg base x k ps sp) (h : ∀ vs H Q E, sp' vs H Q E → sp vs H Q E) : DefOk P w K mg base x k ps sp' :=
  let ⟨f, fd, F, r⟩ := D.ex
  ⟨f, fd, F.imp h, r⟩
/-- THE RULE: a def's body as a term of rules, and what it reads -/
theorem defok {x : Str} {st : Stmt} {N ps : List Str} {k : Nat} {sp : Sp} (D : DefIn K mg x st ps) (S : FnScope N ps (defScope st)) (len : ∀ vs H Q E, sp vs H Q E → vs.length = ps.length)
    (body : ∀ (f : Addr) (cdv : Value) (A : Around) (outer : List Env) (s : Shared) (H : Hp) (vs : List V) (Q : VK) (E : XK), Room k (cxOf CX0 P w K mg base N x (defScope st) f cdv A outer s H E).A → (cxOf CX0 P w K mg base N x (defScope st) f cdv A outer s H E).A.guards = some [] → sp vs H Q E →
      ∃ t, PSs (cxOf CX0 P w K mg base N x (defScope st) f cdv A outer s H E).nox (defBody st) t ∧ t { nx := fun _ H' => Q .non H', rt := Q } (start N vs) H) : DefOk P w K mg base x (k + 1) ps sp := by
  obtain ⟨f, fd, F, hm, hb⟩ := D.ex
  refine ⟨f, fd, fng F S len fun cdv A outer s H vs Q E hr hg h => ?_, hm, F.kp, hb⟩
  obtain ⟨t, ht, q⟩ := body f cdv A outer s H vs Q E hr hg h
  exact ⟨t, ht.nox, q⟩
end
section
variable {X : Cx} {x : Str} {p pos : Pos} {e : Expr} {es : List Expr} {t : TA} {k : Nat} {ps : List Str} {sp : Sp}
theorem run_g {f : Addr} {fd : FuncData} {pins : List (Addr × Obj)} {σ : L2.St} {H : Hp} {s : Shared} {Q : VK} {us : List Value} {vs : List V} (F : FnG X.prog X.w X.K X.mg X.base CX0 k f fd ps sp) (hr : Room k X.A) (hg : X.A.guards = some []) (hb : Binds X.K fd ps [])
    (I : Inv X pins σ H s) (r : Vals vs us) (h : sp vs H Q E0) : wpAny (model X.prog X.w) X.A (call (.ref f) us) (EP X pins σ Q) X.xe s := by
  have many : (us ++ []).length = ps.length := by
    rw [List.append_nil, ← r.length]
    exact F.len _ _ _ _ h
  have b := hb s us I.kIn many
  rw [List.append_nil] at b
  refine wpAny_call (codeAny_mono (F.run X.A X.stack s H ⟨us, []⟩ us vs Q E0 hr hg I.env0 b r h) fun res s' z => ?_)
  cases res with
  | error err => exact False.elim z
  | ok fl =>
    cases fl with
    | ret u => exact I.after z
    | next => exact False.elim z
    | brk => exact False.elim z
    | cont => exact False.elim z
/-- f(e, ..) -/
def tCallD (sp : Sp) (t : TA) : TE := fun σ H Q => t σ H fun vs H1 => sp vs H1 Q E0
theorem pe_callD (D : DefOk X.prog X.w X.K X.mg X.base x k ps sp) (hr : Room k X.A) (hg : X.A.guards = some []) (ha : PA X (e :: es) t) (gl : Gl X x := by rfl) (hdb : (x == ("__debug__" : Str)) = false := by decide)
    (he : starEach (e :: es) X.env = (false, eval e X.env) :: starEach es X.env := by rfl) (hpl : (backTo pos (starEach es X.env)).any (·.1) = false := by rfl) : PE X (.Call (.Name x p) (e :: es) [] pos) (tCallD sp t) := by
  obtain ⟨f, fd, F, hm, hk, hb⟩ := D.ex
  refine ⟨fun pins s σ H Q I h => ?_⟩
  refine wpAny_Call_Name_kw (ld_glob I gl hm ?_ hdb)
  refine PySem.W.callWith_K (h₀ := X.base) I.ok.mod.kin hk (thn (ha.run pos pins s σ H _ I h) fun us s1 ⟨vs, H1, I1, r, q⟩ => ⟨I1.kIn, ?_⟩) he hpl
  exact run_g F hr hg hb I1 r q
end
def scalV : V → Bool
  | .non => true
  | .bl _ => true
  | .int _ => true
  | .str _ => true
  | _ => false
/-- scalars, lists and tuples of data; a dict of written keys with scalars -/
def Dr (K : PySem.W.Frag) (H : Hp) (v : V) (d : PyData) : Prop := Dp K H v d ∨ ∃ (a : Addr) (kvs : List (Key × V)) (ds : List (PyData × PyData)), v = .ref a ∧ H a = some (.dK kvs) ∧ d = .dict ds ∧ (∀ p ∈ kvs, scalV p.2 = true) ∧ Paired (fun (p : Key × V) (q : PyData × PyData) => Dp K H (kV p.1) q.1 ∧ Dp K H p.2 q.2) kvs ds
def rRepr (K : PySem.W.Frag) : List V → Hp → VK → Prop := fun xs H Q => ∃ x d, xs = [x] ∧ Dr K H x d ∧ d.showable = true ∧ d.depth ≤ 32 ∧ d.shown.length ≤ sizeLine ∧ Q (.str d.shown) H
mutual
theorem dp_nodict {K : PySem.W.Frag} {H : Hp} : ∀ {d : PyData} {v : V}, Dp K H v d → d.hasDict = false
  | .none, _, _ => by simp only [PyData.hasDict]
  | .bool _, _, _ => by simp only [PyData.hasDict]
  | .int _, _, _ => by simp only [PyData.hasDict]
  | .str _, _, _ => by simp only [PyData.hasDict]
  | .list xs, _, h => by
    simp only [PyData.hasDict]
    cases h with
    | lst h1 h2 => exact dp_nodictA h2
  | .tuple xs, _, h => by
    simp only [PyData.hasDict]
    cases h with
    | tup h1 h2 => exact dp_nodictA h2
  | .dict _, _, h => by cases h
theorem dp_nodictA {K : PySem.W.Frag} {H : Hp} : ∀ {ds : List PyData} {vs : List V}, DpAll K H vs ds → PyData.hasDictAll ds = false
  | [], _, _ => by simp only [PyData.hasDictAll]
  | d :: ds, _, h => by
    cases h with
    | cons h1 h2 =>
      simp only [PyData.hasDictAll, Bool.or_eq_false_iff]
      exact ⟨dp_nodict h1, dp_nodictA h2⟩
end
section
variable {X : Cx}
theorem rel_ref {a : Addr} {u : Value} (r : L2.RelV (.ref a) u) : u = .ref a := r
theorem sc_reads {K : PySem.W.Frag} {H : Hp} {h : Heap} {v : V} {d : PyData} {u : Value} (hs : scalV v = true) (hd : Dp K H v d) (r : L2.RelV v u) : Reads h u d [] := by
  cases hd with
  | non =>
    cases (show u = Value.none from r)
    exact .none
  | bl b =>
    cases (show u = Value.bool b from r)
    exact .bool b
  | int i =>
    obtain ⟨t, rfl⟩ := (show ∃ t, u = Value.int i t from r)
    exact .int i t
  | str y =>
    obtain ⟨t, rfl⟩ := (show ∃ t, u = Value.str y t from r)
    exact .str y t
  | lst h1 h2 => cases hs
  | tup h1 h2 => cases hs
theorem key_rel {k : Key} {u : Value} (h : keyIs k u = true) : L2.RelV (kV k) u ∧ scalV (kV k) = true := by
  rcases keyIs_shape h with ⟨i, t, rfl, rfl⟩ | ⟨x, t, rfl, rfl⟩
  · exact ⟨⟨t, rfl⟩, rfl⟩
  · exact ⟨⟨t, rfl⟩, rfl⟩
/-- a dict of scalars reads as one -/
theorem dr_dict {pins : List (Addr × Obj)} {σ : L2.St} {H : Hp} {s : Shared} {a : Addr} {kvs : List (Key × V)} {ds : List (PyData × PyData)} (I : L2.Inv X pins σ H s) (ha : H a = some (.dK kvs))
    (hp : Paired (fun (p : Key × V) (q : PyData × PyData) => Dp X.K H (kV p.1) q.1 ∧ Dp X.K H p.2 q.2) kvs ds) (hsc : ∀ p ∈ kvs, scalV p.2 = true) : Reads s.heap (.ref a) (.dict ds) [a] ∧ (a == sysModules) = false := by
  obtain ⟨_, hsys, vs, hkv, o, es, ep, ho, hex, hd, _, prs, _⟩ := (show ObjOk X.prog X.w H s.heap a (.dK kvs) from I.hok a _ ha)
  have key : ∀ (l : List DictEntry) (vs : List (Key × Value)) (kvs : List (Key × V)) (ds : List (PyData × PyData)), Pairs (mixKind X.prog X.w) l vs → KV kvs vs → (∀ p ∈ kvs, scalV p.2 = true) →
      Paired (fun (p : Key × V) (q : PyData × PyData) => Dp X.K H (kV p.1) q.1 ∧ Dp X.K H p.2 q.2) kvs ds → ReadsAll s.heap (l.map (·.key)) (ds.map (·.1)) [] ∧ ReadsAll s.heap (l.map (·.val)) (ds.map (·.2)) [] := by
    intro l
    induction l with
    | nil =>
      intro vs kvs ds h1 h2 h3 h4
      cases h1
      cases h2
      cases h4
      exact ⟨.nil, .nil⟩
    | cons e l ih =>
      intro vs kvs ds h1 h2 h3 h4
      cases h1 with
      | cons p1 pv p2 =>
        cases h2 with
        | cons q1 q2 =>
          cases h4 with
          | cons r1 r2 =>
            obtain ⟨i1, i2⟩ := ih _ _ _ p2 q2 (fun p hp => h3 p (List.mem_cons_of_mem _ hp)) r2
            have ek := q1.1
            have kr := key_rel (show keyIs _ e.key = true from p1)
            have vr := q1.2
            rw [← pv] at vr
            rw [← ek] at kr
            exact ⟨.cons (sc_reads kr.2 r1.1 kr.1) i1, .cons (sc_reads (h3 _ (List.mem_cons_self ..)) r1.2 vr) i2⟩
  obtain ⟨r1, r2⟩ := key _ _ _ _ prs hkv hsc hp
  exact ⟨Reads.dict ho hex.1 hd r1 r2, hsys⟩
theorem call_repr (hg : X.A.guards = some []) (hu : X.A.units + 64 < cLine) : CallR X (.builtin "repr") (rRepr X.K) := by
  intro pins s σ H xs us Q I r h
  obtain ⟨x, d, rfl, hd, hs, hdep, hl, q⟩ := h
  cases r with
  | cons rx rr =>
    cases rr
    have fin : ∀ h' (u : Tok) tk, (∀ b o, s.heap.get? b = some o → h'.get? b = some o) → EP X pins σ Q (.str d.shown u) { s with heap := h', toks := tk } := fun h' u tk k => ⟨.str d.shown, H, I.kept k, ⟨u, rfl⟩, q⟩
    rcases hd with hd | ⟨a, kvs, ds, rfl, ha, rfl, hsc, hp⟩
    · cases hd with
      | non =>
        cases (show _ = Value.none from rx)
        exact P.repr_of_none (fin s.heap _ _ fun _ _ e => e)
      | bl b =>
        cases (show _ = Value.bool b from rx)
        exact P.repr_of_bool (fin s.heap _ _ fun _ _ e => e)
      | int i =>
        obtain ⟨t, rfl⟩ := (show ∃ t, _ = Value.int i t from rx)
        exact P.repr_of_int (by simpa [PyData.showable] using hs) (fin s.heap _ _ fun _ _ e => e)
      | str y =>
        obtain ⟨t, rfl⟩ := (show ∃ t, _ = Value.str y t from rx)
        exact P.repr_of_str (fin s.heap _ _ fun _ _ e => e) hl
      | @lst a ys ds h1 h2 =>
        cases rel_ref rx
        obtain ⟨as, rd⟩ := Dp.reads I _ _ _ (Dp.lst h1 h2) rx
        exact repr_of_reads' rd hs (PyData.noDict_hsm (dp_nodict (Dp.lst h1 h2))) hg (by omega) (fun _ _ e => e) fin hl
      | @tup a ys ds h1 h2 =>
        cases rel_ref rx
        obtain ⟨as, rd⟩ := Dp.reads I _ _ _ (Dp.tup h1 h2) rx
        exact repr_of_reads' rd hs (PyData.noDict_hsm (dp_nodict (Dp.tup h1 h2))) hg (by omega) (fun _ _ e => e) fin hl
    · cases rel_ref rx
      obtain ⟨rd, hsys⟩ := dr_dict I ha hp hsc
      refine repr_of_reads' rd hs (fun _ hm => ?_) hg (by omega) (fun _ _ e => e) fin hl
      have e : sysModules = a := by simpa using hm
      subst e
      simp at hsys
end
end Lay
namespace Lay
open PySem PySem.Spec PyProof.Rows L2 Evl
/-- the abstract heap H may be told as H' over the heap hp -/
structure Gst (P : Program) (w : World) (hp : Heap) (H H' : Hp) : Prop where
  ok : HOk P w H hp → HOk P w H' hp
  none : ∀ b, H b = none ↔ H' b = none
  tups : ∀ b xs, H b = some (.tup xs) → H' b = some (.tup xs)
  frzs : ∀ b o u, H b = some (.frz o u) → H' b = some (.frz o u)
  tbls : ∀ b ps, H b = some (.tbl ps) → H' b = some (.tbl ps)
theorem Gst.refl {P : Program} {w : World} {hp : Heap} (H : Hp) : Gst P w hp H H := ⟨fun h => h, fun _ => Iff.rfl, fun _ _ h => h, fun _ _ _ h => h, fun _ _ h => h⟩
section
variable {P : Program} {w : World} {K : PySem.W.Frag} {mg : Str → Option Value} {base : Heap}
/-- one object told anew -/
theorem Gst.at {h : Heap} {H : Hp} {a : Addr} {o o' : HO} (ha : H a = some o) (h1 : ∀ x, o ≠ .own x) (h2 : ∀ xs, o ≠ .tup xs) (h3 : ∀ ob u, o ≠ .frz ob u) (h4 : ∀ ps, o ≠ .tbl ps) (ok : HOk P w H h → ObjOk P w (upd H a o') h a o') : Gst P w h H (upd H a o') where
  ok := fun hk b u q => by
    by_cases hb : b = a
    · subst hb
      rw [upd_same] at q
      cases q
      exact ok hk
    · rw [upd_ne hb] at q
      refine (hk b u q).stay (fun c v _ z => z) (fun c z => ?_) fun c xs z => ?_
      · rw [upd_ne fun e => ?_]
        · exact z
        · rw [e, ha] at z
          exact h1 b (Option.some.inj z)
      · rw [upd_ne fun e => ?_]
        · exact z
        · rw [e, ha] at z
          exact h2 xs (Option.some.inj z)
  none := fun b => by
    by_cases hb : b = a
    · subst hb
      rw [upd_same, ha]
      exact ⟨fun z => (by cases z), fun z => (by cases z)⟩
    · rw [upd_ne hb]
  tups := fun b xs q => by
    rw [upd_ne fun e => ?_]
    · exact q
    · rw [e, ha] at q
      exact h2 xs (Option.some.inj q)
  frzs := fun b ob u q => by
    rw [upd_ne fun e => ?_]
    · exact q
    · rw [e, ha] at q
      exact h3 ob u (Option.some.inj q)
  tbls := fun b ps q => by
    rw [upd_ne fun e => ?_]
    · exact q
    · rw [e, ha] at q
      exact h4 ps (Option.some.inj q)
theorem un_gst {fs : List Addr} {H H1 H2 H3 : Hp} {h h' : Heap} (g : Gst P w h H H1) (u : Un fs [] H1 H2 h h') (g' : Gst P w h' H2 H3) : Un fs [] H H3 h h' where
  keep := fun b o q n => u.keep b o q ((g.none b).mp n)
  slot := fun b o q n => u.slot b o q ((g.none b).mp n)
  free := fun b o q n x => (g'.none b).mp (u.free b o q ((g.none b).mp n) x)
  there := u.there
  tups := fun b xs q => g'.tups b xs (u.tups b xs (g.tups b xs q))
  frzs := fun b o x q => g'.frzs b o x (u.frzs b o x (g.frzs b o x q))
  tbls := fun b ps q => by
    obtain ⟨more, z⟩ := u.tbls b ps (g.tbls b ps q)
    exact ⟨more, g'.tbls b _ z⟩
/-- a promise told over other abstract heaps -/
theorem FnG.gst {k : Nat} {f : Addr} {fd : FuncData} {ps : List Str} {sp sp' : Sp} (F : FnG P w K mg base CX0 k f fd ps sp) (len : ∀ vs H Q E, sp' vs H Q E → vs.length = ps.length)
    (h : ∀ vs H Q E hp, sp' vs H Q E → HOk P w H hp → ∃ H1, Gst P w hp H H1 ∧ sp vs H1 (fun v H2 => ∃ H3, (∀ hp', Gst P w hp' H2 H3) ∧ Q v H3) E0) : FnG P w K mg base CX0 k f fd ps sp' := by
  refine ⟨len, fun A outer s H args us vs Q E hr hg e0 hb r q => ?_⟩
  obtain ⟨H1, g, q1⟩ := h vs H Q E s.heap q e0.hok
  have e1 : Env0 P w K mg base A outer s H1 := ⟨e0.frames, e0.mod, fun b o e => ⟨(e0.bs b o e).1, (g.none b).mp (e0.bs b o e).2⟩, e0.bsz, e0.funs, fun b hb => (g.none b).mp (e0.frf b hb), g.ok e0.hok, e0.bare⟩
  refine codeAny_mono (F.run A outer s H1 args us vs _ E0 hr hg e1 hb r q1) fun res s' z => ?_
  cases res with
  | error err => exact z
  | ok fl =>
    cases fl with
    | ret u =>
      obtain ⟨v, H2, hos, bare, un, hok, rv, H3, g3, q3⟩ := z
      exact ⟨v, H3, hos, bare, un_gst g un (g3 _), (g3 _).ok hok, rv, q3⟩
    | next => exact z
    | brk => exact z
    | cont => exact z
theorem DefOk.gst {x : Str} {k : Nat} {ps : List Str} {sp sp' : Sp} (D : DefOk P w K mg base x k ps sp) (len : ∀ vs H Q E, sp' vs H Q E → vs.length = ps.length)
    (h : ∀ vs H Q E hp, sp' vs H Q E → HOk P w H hp → ∃ H1, Gst P w hp H H1 ∧ sp vs H1 (fun v H2 => ∃ H3, (∀ hp', Gst P w hp' H2 H3) ∧ Q v H3) E0) : DefOk P w K mg base x k ps sp' :=
  let ⟨f, fd, F, r⟩ := D.ex
  ⟨f, fd, F.gst len h, r⟩
/-- at j: a list of three ints, the first one not below 0 -/
def jarO (j : Addr) : HO := .ext fun h => ∃ (a b c : Int) (its : List Value) (n : Nat), 0 ≤ a ∧ Vals [V.int a, V.int b, V.int c] its ∧ h.get? j = some { cls := .type "list", data := .seq its.toArray n }
theorem lst_ne {xs : List V} : (∀ x, HO.lst xs ≠ .own x) ∧ (∀ ys, HO.lst xs ≠ .tup ys) ∧ (∀ ob u, HO.lst xs ≠ .frz ob u) ∧ (∀ ps, HO.lst xs ≠ .tbl ps) :=
  ⟨fun _ z => (by cases z), fun _ z => (by cases z), fun _ _ z => (by cases z), fun _ z => (by cases z)⟩
end
section
variable {K : PySem.W.Frag} {σ : L2.St} {H H' : Hp} {ta tb te tx : TE} {t u : TT} {x y z v : V} {Q : L2.St → Hp → Prop}
theorem g_tup {n : Nat} {g : TGs} {p : Addr} {xs : List V} (h : SqT K H p xs) (hl : xs.length = n) (k : g xs σ H Q) : gTup K n g (.ref p) σ H Q := ⟨p, xs, rfl, h, hl, k⟩
theorem g_cons {g : TG} {gs : TGs} {r : List V} (k : g v σ H fun σ' H' => gs r σ' H' Q) : gCons g gs (v :: r) σ H Q := ⟨v, r, rfl, k⟩
theorem g_nil (k : Q σ H) : gNil [] σ H Q := ⟨rfl, k⟩
theorem g_name {i : Nat} (k : Q (σ.set i (some v)) H) : gName i v σ H Q := k
theorem g_setL {l : Addr} {xs : List V} {j : Nat} (hl : H l = some (.lst xs)) (ho : Ev ta σ H (.ref l)) (hi : Ev tb σ H (.int (j : Int))) (hj : j < xs.length) (k : ∀ H1, Ex H H1 → Q σ (upd H1 l (.lst (xs.set j v)))) : gSub ta tb rSetL v σ H Q :=
  ho H (Ex.refl H) _ fun H1 e1 => hi H1 e1 _ fun H2 e2 => ⟨l, xs, (j : Int), j, rfl, rfl, (e1.trans e2) l _ hl, ixN_nat hj, k H2 (e1.trans e2)⟩
theorem s_asgGU {g : TG} {D : Ends} {xs : List V} (h : EvU te σ H xs) (k : ∀ p H1, H p = none → Ex H H1 → H1 p = some (.tup xs) → g (.ref p) σ H1 D.nx) : tAsg te g D σ H := h H (Ex.refl H) _ fun p H1 hp e h1 => k p H1 hp e h1
theorem q_asgGU {g : TG} {D : Ends} {tz : TS} {xs : List V} (h : EvU te σ H xs) (k : ∀ p H1, H p = none → Ex H H1 → H1 p = some (.tup xs) → g (.ref p) σ H1 (tz D)) : tSeq (tAsg te g) tz D σ H := s_asgGU (D := { D with nx := tz D }) h k
theorem ev_int1 {i : Int} (h : Ev ta σ H (.int i)) : Ev (tCB (fun xs H Q => (∃ i, xs = [V.int i] ∧ Q (V.int i) H) ∨ ∃ k, xs = [V.bl k] ∧ Q (V.int (if k = true then 1 else 0)) H) (tCons ta tNil)) σ H (.int i) :=
  ev_cb (ea_cons h ea_nil) fun H1 _ Q q => .inl ⟨i, rfl, q H1 (Ex.refl H1)⟩
theorem rc_abs {i : Int} : RC (fun xs H Q => ∃ i, xs = [V.int i] ∧ Q (V.int (if i < 0 then -i else i)) H) [.int i] H (.int (if i < 0 then -i else i)) := fun H1 _ Q q => ⟨i, rfl, q H1 (Ex.refl H1)⟩
/-- len of a list or tuple -/
theorem rc_lenL {a : Addr} {xs : List V} (h : SqL K H a xs) : RC (fun ys H Q => ∃ x n, ys = [x] ∧ LenV K x H n ∧ Q (.int n) H) [.ref a] H (.int (xs.length : Nat)) := fun H1 e Q q => ⟨.ref a, xs.length, rfl, .inl ⟨xs, ex_l e h, rfl⟩, q H1 (Ex.refl H1)⟩
end
/-- all but what stands at j is as it was -/
def ExM (j : Addr) (H H' : Hp) : Prop := ∀ a o, a ≠ j → H a = some o → H' a = some o
theorem ExM.refl (j : Addr) (H : Hp) : ExM j H H := fun _ _ _ h => h
theorem ExM.trans {j : Addr} {H H1 H2 : Hp} (a : ExM j H H1) (b : ExM j H1 H2) : ExM j H H2 := fun x o n h => b x o n (a x o n h)
theorem Ex.m {j : Addr} {H H' : Hp} (e : Ex H H') : ExM j H H' := fun a o _ h => e a o h
theorem ExM.upd {j : Addr} {H H' : Hp} {o : HO} (e : ExM j H H') : ExM j H (upd H' j o) := fun a u n h => by
  rw [upd_ne n]
  exact e a u n h
theorem ExM.fin {j : Addr} {H H' : Hp} {o : HO} (e : ExM j H H') (hj : H' j = some o) : Ex (L2.upd H j o) H' := fun a u h => by
  by_cases n : a = j
  · subst n
    rw [upd_same] at h
    rw [hj, h]
  · rw [upd_ne n] at h
    exact e a u n h
abbrev VP := V → Hp → Prop
def EvP (te : TE) (σ : L2.St) (H : Hp) (P : VP) : Prop := ∀ H1, Ex H H1 → ∀ Q : VK, (∀ v H2, Ex H1 H2 → P v H2 → Q v H2) → te σ H1 Q
def EvAP (ta : TA) (σ : L2.St) (H : Hp) (P : List V → Hp → Prop) : Prop := ∀ H1, Ex H H1 → ∀ Q : List V → Hp → Prop, (∀ vs H2, Ex H1 H2 → P vs H2 → Q vs H2) → ta σ H1 Q
section
variable {K : PySem.W.Frag} {σ : L2.St} {H H' : Hp} {ta tb te tx : TE} {t u : TT} {x y z v : V} {P R : VP} {D : Ends} {tz : TS}
theorem EvP.mono (e : Ex H H') (h : EvP te σ H P) : EvP te σ H' P := fun H1 a Q q => h H1 (e.trans a) Q q
theorem EvP.imp (h : EvP te σ H P) (i : ∀ v H1, Ex H H1 → P v H1 → R v H1) : EvP te σ H R := fun H1 e Q q => h H1 e Q fun v H2 e2 p => q v H2 e2 (i v H2 (e.trans e2) p)
theorem Ev.p (h : Ev te σ H v) : EvP te σ H (fun u _ => u = v) := fun H1 e Q q => h H1 e Q fun H2 e2 => q v H2 e2 rfl
theorem Ev.pp (h : Ev te σ H v) (hp : ∀ H1, Ex H H1 → P v H1) : EvP te σ H P := fun H1 e Q q => h H1 e Q fun H2 e2 => q v H2 e2 (hp H2 (e.trans e2))
theorem EvL.p {xs : List V} (h : EvL te σ H xs) : EvP te σ H (fun u H => ∃ p, u = .ref p ∧ H p = some (.lst xs)) := fun H1 e Q q => h H1 e Q fun p H2 _ e2 h2 => q _ H2 e2 ⟨p, rfl, h2⟩
theorem EvU.p {xs : List V} (h : EvU te σ H xs) : EvP te σ H (fun u H => ∃ p, u = .ref p ∧ H p = some (.tup xs)) := fun H1 e Q q => h H1 e Q fun p H2 _ e2 h2 => q _ H2 e2 ⟨p, rfl, h2⟩
theorem EvA.p {ts : TA} {vs : List V} (h : EvA ts σ H vs) : EvAP ts σ H (fun us _ => us = vs) := fun H1 e Q q => h H1 e Q fun H2 e2 => q vs H2 e2 rfl
theorem s_asgP {i : Nat} (h : EvP te σ H P) (k : ∀ v H1, Ex H H1 → P v H1 → D.nx (σ.set i (some v)) H1) : tAsg te (gName i) D σ H := h H (Ex.refl H) _ fun v H1 e p => k v H1 e p
theorem q_asgP {i : Nat} (h : EvP te σ H P) (k : ∀ v H1, Ex H H1 → P v H1 → tz D (σ.set i (some v)) H1) : tSeq (tAsg te (gName i)) tz D σ H := s_asgP (D := { D with nx := tz D }) h k
end
section
variable {K : PySem.W.Frag} {σ : L2.St} {H H' : Hp} {ta tb te tx : TE} {t u : TT} {x y z v : V} {P R : VP} {D : Ends} {tz : TS}
/-- a if t else b -/
theorem evp_if {b : Bool} (h : EvT t σ H b) (h1 : b = true → EvP ta σ H P) (h2 : b = false → EvP tb σ H P) : EvP (tIf t ta tb) σ H P := fun H1 e Q q => h H1 e _ fun H2 e2 => by
  cases b with
  | true =>
    show ta σ H2 Q
    exact h1 rfl H2 (e.trans e2) Q fun v H3 e3 p => q v H3 (e2.trans e3) p
  | false =>
    show tb σ H2 Q
    exact h2 rfl H2 (e.trans e2) Q fun v H3 e3 p => q v H3 (e2.trans e3) p
theorem cutV_mem {xs : List V} {lo hi : Option Int} (h : v ∈ cutV xs lo hi) : v ∈ xs := by
  unfold cutV at h
  exact List.mem_of_mem_drop (List.mem_of_mem_take h)
end
/-- a class of the module, a built-in class, as a value -/
theorem pe_gref {X : Cx} {x : Str} {a : Addr} {pos : Pos} (hm : X.mg x = some (.ref a)) (hg : Gl X x := by rfl) (hd : (x == ("__debug__" : Str)) = false := by decide) : PE X (.Name x pos) (tC (.ref a)) := pe_glob hg hm rfl hd
theorem pe_gty {X : Cx} {x : Str} {n : String} {pos : Pos} (hm : X.mg x = none) (hv : bootBuiltins x = some (.type n)) (hg : Gl X x := by rfl) (hn : x ≠ "__name__" := by decide) (hd : (x == ("__debug__" : Str)) = false := by decide) : PE X (.Name x pos) (tC (.ty n)) := pe_bltn hg hm hv rfl hn hd
end Lay
namespace Lay
open PySem PySem.Spec PyProof.Rows L2 Evl
section
variable (K : PySem.W.Frag) {X : Cx} {pos p cpos apos : Pos} {l o e : Expr} {tl to : TE} {t : TA} {tg : Expr}
theorem kx_ixL (h : X.K = K := by rfl) : IxR X (rIxL K) := h ▸ ix_list
theorem kx_ixT (h : X.K = K := by rfl) : IxR X (rIxT K) := h ▸ ix_tup
theorem kx_len (h : X.K = K := by rfl) : CallR X (.builtin "len") (fun xs H Q => ∃ x n, xs = [x] ∧ LenV K x H n ∧ Q (.int n) H) := h ▸ call_len
theorem kx_eqD (hu : X.A.units + 64 < cLine) (h : X.K = K := by rfl) : OpR X (compareOp .Eq) (rEqD K) := h ▸ op_eqD hu
theorem kx_neD (hu : X.A.units + 64 < cLine) (h : X.K = K := by rfl) : OpR X (compareOp .NotEq) (rNeD K) := h ▸ op_neD hu
theorem kx_repr (hg : X.A.guards = some []) (hu : X.A.units + 64 < cLine) (h : X.K = K := by rfl) : CallR X (.builtin "repr") (rRepr K) := h ▸ call_repr hg hu
theorem kx_all (hc : X.calm = true) (h : X.K = K := by rfl) : CallR X (.builtin "all") (rAll K) := h ▸ cr_all hc
theorem kx_piList (hl : PE X l tl) (h : X.K = K := by rfl) : PI X tg l (iList K tl) := h ▸ pi_list hl
theorem kx_pgTup {es : List Expr} {k : Nat} {t : TGs} {n : Nat} (hc : X.calm = true) (h1 : PGs X es t) (hn : (assignEach es X.env).length = n := by rfl) (hst : (assignEach es X.env).findIdx? (·.1) = none := by rfl) (h : X.K = K := by rfl) : PG X (.Tuple es k pos) (gTup K n t) := h ▸ pg_tup hc h1 hn hst
end
end Lay
namespace Lay
open PySem PySem.Spec PyProof.Rows L2 Evl ErrX
def ErrF (N : Addr → Prop) (H : Hp) (C : Addr) (fld : Str) (x : V) (e : Addr) : Prop := ∃ d, H e = some (exo e C (some d)) ∧ H d = some (exd d [(fld, x)]) ∧ N e ∧ N d
theorem ErrF.keep {N : Addr → Prop} {H H' : Hp} {C : Addr} {fld : Str} {x : V} {e : Addr} (k : ∀ b o, N b → H b = some o → H' b = some o) (h : ErrF N H C fld x e) : ErrF N H' C fld x e :=
  let ⟨d, h1, h2, n1, n2⟩ := h
  ⟨d, k _ _ n1 h1, k _ _ n2 h2, n1, n2⟩
theorem ErrF.imp {N M : Addr → Prop} {H : Hp} {C : Addr} {fld : Str} {x : V} {e : Addr} (k : ∀ b o, H b = some o → N b → M b) (h : ErrF N H C fld x e) : ErrF M H C fld x e :=
  let ⟨d, h1, h2, n1, n2⟩ := h
  ⟨d, h1, h2, k _ _ h1 n1, k _ _ h2 n2⟩
theorem ErrF.at {N : Addr → Prop} {H : Hp} {C : Addr} {fld : Str} {x : V} {e : Addr} (h : ErrF N H C fld x e) : ErrAt H e C :=
  let ⟨d, h1, h2, _⟩ := h
  ⟨some d, h1, fun dx q => by
    cases q
    exact ⟨_, h2⟩⟩
/-- a list of two new errors -/
def RowF (N : Addr → Prop) (H : Hp) (C : Addr) (fld : Str) (x : V) (u : V) : Prop := ∃ a e1 e2, u = .ref a ∧ H a = some (.lst [.ref e1, .ref e2]) ∧ N a ∧ ErrF N H C fld x e1 ∧ ErrF N H C fld x e2
theorem RowF.keep {N : Addr → Prop} {H H' : Hp} {C : Addr} {fld : Str} {x u : V} (k : ∀ b o, N b → H b = some o → H' b = some o) (h : RowF N H C fld x u) : RowF N H' C fld x u :=
  let ⟨a, e1, e2, h1, h2, n, h3, h4⟩ := h
  ⟨a, e1, e2, h1, k _ _ n h2, n, h3.keep k, h4.keep k⟩
theorem RowF.imp {N M : Addr → Prop} {H : Hp} {C : Addr} {fld : Str} {x u : V} (k : ∀ b o, H b = some o → N b → M b) (h : RowF N H C fld x u) : RowF M H C fld x u :=
  let ⟨a, e1, e2, h1, h2, n, h3, h4⟩ := h
  ⟨a, e1, e2, h1, h2, k _ _ h2 n, h3.imp k, h4.imp k⟩
def Rows (C : Nat → Addr) (fld : Str) (x : V) (N : Addr → Prop) (H : Hp) (rows : List V) (c : Nat) : Prop := ∀ i r, rows[i]? = some r → RowF N H (C (c + i)) fld x r
theorem Rows.nil {C : Nat → Addr} {fld : Str} {x : V} {N : Addr → Prop} {H : Hp} {c : Nat} : Rows C fld x N H [] c := fun i r h => by
  rw [List.getElem?_nil] at h
  cases h
theorem Rows.snoc {C : Nat → Addr} {fld : Str} {x : V} {N : Addr → Prop} {H : Hp} {rows : List V} {c n : Nat} {r : V} (h : Rows C fld x N H rows c) (hl : rows.length = n) (hr : RowF N H (C (c + n)) fld x r) : Rows C fld x N H (rows ++ [r]) c := fun i u q => by
  by_cases hi : i < rows.length
  · rw [List.getElem?_append_left hi] at q
    exact h i u q
  · rw [List.getElem?_append_right (by omega)] at q
    have e : i - rows.length = 0 := by
      by_cases z : i - rows.length = 0
      · exact z
      · rw [List.getElem?_eq_none (by show 1 ≤ _; omega)] at q
        cases q
    rw [e] at q
    cases q
    have e2 : i = n := by omega
    rw [e2]
    exact hr
theorem Rows.keep {C : Nat → Addr} {fld : Str} {x : V} {N : Addr → Prop} {H H' : Hp} {rows : List V} {c : Nat} (k : ∀ b o, N b → H b = some o → H' b = some o) (h : Rows C fld x N H rows c) : Rows C fld x N H' rows c := fun i r q => (h i r q).keep k
theorem Rows.imp {C : Nat → Addr} {fld : Str} {x : V} {N M : Addr → Prop} {H : Hp} {rows : List V} {c : Nat} (k : ∀ b o, H b = some o → N b → M b) (h : Rows C fld x N H rows c) : Rows C fld x M H rows c := fun i r q => (h i r q).imp k
/-- at p stands a list of n rows, p being none of theirs -/
def Grown (C : Nat → Addr) (fld : Str) (x : V) (c : Nat) (p : Addr) (H : Hp) (n : Nat) : Prop := ∃ rows, H p = some (.lst rows) ∧ rows.length = n ∧ Rows C fld x (· ≠ p) H rows c
theorem Grown.mono {C : Nat → Addr} {fld : Str} {x : V} {c : Nat} {p : Addr} {H H' : Hp} {n : Nat} (e : Ex H H') (h : Grown C fld x c p H n) : Grown C fld x c p H' n :=
  let ⟨rows, h1, h2, h3⟩ := h
  ⟨rows, e _ _ h1, h2, h3.keep fun b o _ z => e b o z⟩
/-- [e for x in xs], each a new list of its own -/
def LL (v : Nat → List V) (n : Nat) (u : V) (H : Hp) : Prop := ∃ D rs, u = .ref D ∧ H D = some (.lst rs) ∧ rs.length = n ∧ ∀ i r, rs[i]? = some r → ∃ q, r = .ref q ∧ q ≠ D ∧ H q = some (.lst (v i))
end Lay
namespace Lay
open PySem PySem.Spec PyProof.Rows L2 Evl
section
variable {P : Program} {w : World} {K : PySem.W.Frag} {mg : Str → Option Value} {base : Heap}
/-- a list of three ints of which R holds -/
def triO (R : Int → Int → Int → Prop) (j : Addr) : HO := .ext fun h => ∃ (a b c : Int) (its : List Value) (n : Nat), R a b c ∧ Vals [V.int a, V.int b, V.int c] its ∧ h.get? j = some { cls := .type "list", data := .seq its.toArray n }
theorem tri_ne {R : Int → Int → Int → Prop} {j : Addr} : (∀ x, triO R j ≠ .own x) ∧ (∀ xs, triO R j ≠ .tup xs) ∧ (∀ ob u, triO R j ≠ .frz ob u) ∧ (∀ ps, triO R j ≠ .tbl ps) := by
  unfold triO
  exact ⟨fun _ z => (by cases z), fun _ z => (by cases z), fun _ _ z => (by cases z), fun _ z => (by cases z)⟩
theorem tri_close {R : Int → Int → Int → Prop} {H : Hp} {j : Addr} {a b c : Int} (hj : H j = some (.lst [.int a, .int b, .int c])) (ha : R a b c) {h : Heap} : Gst P w h H (upd H j (triO R j)) := by
  obtain ⟨n1, n2, n3, n4⟩ := lst_ne (xs := [V.int a, V.int b, V.int c])
  refine Gst.at hj n1 n2 n3 n4 fun hk => ?_
  obtain ⟨_, its, n, rv, e⟩ := (show ObjOk P w H h j (.lst [.int a, .int b, .int c]) from hk j _ hj)
  exact ⟨⟨a, b, c, its, n, ha, rv, e⟩, ⟨_, e⟩, fun h1 h2 ⟨a, b, c, its, n, z1, z2, z3⟩ k => ⟨a, b, c, its, n, z1, z2, k _ z3⟩⟩
theorem tri_open {R : Int → Int → Int → Prop} {H : Hp} {j : Addr} {h : Heap} (hj : H j = some (triO R j)) (hk : HOk P w H h) : ∃ a b c : Int, R a b c ∧ Gst P w h H (upd H j (.lst [.int a, .int b, .int c])) := by
  obtain ⟨n1, n2, n3, n4⟩ := tri_ne (R := R) (j := j)
  have q := hk j _ hj
  unfold triO at q
  obtain ⟨⟨a, b, c, its, n, ha, rv, e⟩, _, _⟩ := q
  exact ⟨a, b, c, ha, Gst.at hj n1 n2 n3 n4 fun _ => ⟨by rw [sizeLine_eq]; exact (by decide : 3 ≤ 16777216), its, n, rv, e⟩⟩
theorem ex_tri {R : Int → Int → Int → Prop} {H H' : Hp} {j : Addr} {xs : List V} (hj : H j = some (triO R j)) (e : Ex (upd H j (.lst xs)) H') : Ex H (upd H' j (triO R j)) := fun a o q => by
  by_cases ha : a = j
  · subst ha
    rw [upd_same, ← hj]
    exact q
  · rw [upd_ne ha]
    refine e a o ?_
    rw [upd_ne ha]
    exact q
/-- a pool, a bag -/
abbrev RPool : Int → Int → Int → Prop := fun a b _ => 0 ≤ a ∧ 0 ≤ b ∧ b < 2147483648
abbrev RBag : Int → Int → Int → Prop := fun a b _ => 0 ≤ b ∧ 0 ≤ a ∧ a < 2147483648
abbrev poolO (j : Addr) : HO := triO RPool j
end
end Lay
namespace ErrX
open PySem PySem.W PySem.Calls PyProof.Rows
section
variable {prog : Program} {w : World} {A : Around} {R : Result → Shared → Prop} {s : Shared} {K : Frag} {mg : Str → Option Value} {C D x f g : Addr} {B newId initId : String} {bmB : List Value}
theorem leaf_init0 {q1 p0 p1 p2 p3 p4 b1 c0 c1 c2 c3 c4 c5 : Pos} {txt qual qualD : Str} {j : Nat} {t0 : Addr}
    (hsc : SupCall [] p0 p1 p2 p3) (hscD : SupCall [.Constant (.str txt) j c5] c0 c1 c2 c3)
    (S : SupFn prog K f C qual (aSelf q1) [stSup [] p0 p1 p2 p3 p4] sSelf)
    (SD : SupFn prog K g D qualD (aSelf b1) [stSup [.Constant (.str txt) j c5] c0 c1 c2 c3 c4] sSelf) (hmD : ks_superIn K C D "__init__" = some (some (.builtin initId)))
    (hsC : mroIn K C (.ref C) = some true) (hsD : mroIn K C (.ref D) = some true) (hmC : ks_superIn K C C "__init__" = some (some (.ref g))) (tg : typeIn K (.ref g) = some (.type "function")) (fg : fnIn K g = true)
    (Y : ErrC K C B newId initId bmB)
    (M : L2.Mod K mg s.heap) (hs : mg "super" = none) (hx : s.heap.get? x = some (excObj C t0 none .none)) (hnx : K.lookup x = none) (hroom : A.depth + 2 < recursionLimit)
    (hq : ∀ h' tk t1, (∀ b o, b ≠ x → s.heap.get? b = some o → h'.get? b = some o) → h'.get? x = some (excObj C t1 none .none) → R (.ok (.ret .none)) { s with heap := h', toks := tk }) :
    codeAny (model prog w) A (.call (.ref f) ⟨[.ref x], []⟩) R s := by
  obtain ⟨⟨oc, od, osl, kV, doc, pm, an, ct, cda, cc, ccl, cdd, vs, ccs, file, tf, cl, cld, csl, cdD, hf, hcd, hcode, hvs, hfile, hcell, hD⟩, htop⟩ := S
  obtain ⟨cdC, hC⟩ := Y.cls
  have X := M.kin
  refine call_ks (binds := [("self", .ref x)]) X M.nolimit hf hcd (by omega) (BindsTo.of_eq (by first | rfl | with_unfolding_all rfl)) (by decide) (locs rfl) (fun h₁ hns k₁ => ?_)
  have M₁ := mod_keeps M k₁
  have hx₁ := k₁ _ _ hx
  have nx : ∀ c, (excObj C t0 none .none).data ≠ .cls c := fun c z => by cases z
  unfold stSup
  obtain ⟨pl, hsc⟩ := hsc (ksEnv qual sSelf s.heap.objs.size f (.ref cda) cc)
  refine ks_wpAt_execs_cons (ks_wpAt_Expr_any (ks_wpAt_MethodCall ?_ hsc))
  refine sup_base (s := ⟨h₁, s.gens, s.drawn, _, s.os⟩) M₁ hs hns hf rfl rfl hx₁ rfl nx hcode hvs hfile hcell hD hsC (by decide) (by decide) (by decide) rfl rfl htop fun h₂ e₂ k₂ => ?_
  refine sup_def (s := ⟨h₂, s.gens, s.drawn, _, s.os⟩) (M₁.kin.keeps k₂) e₂ (k₂ _ _ hx₁) rfl nx hC Y.op hmC tg fun h₃ e₃ k₃ => ?_
  have k₀₃ : ∀ b o, s.heap.get? b = some o → h₃.get? b = some o := fun b o e => k₃ _ _ (k₂ _ _ (k₁ _ _ e))
  have M₃ : L2.Mod K mg h₃ := mod_keeps M k₀₃
  show wpAny _ _ (callWith p3 (.ref h₂.objs.size) [] (backTo p3 (starEach [] (ksEnv qual sSelf s.heap.objs.size f (.ref cda) cc))) []) _ _ _
  refine callWith_M0 (K := K) (g := g) (self := .ref x) ⟨e₃, M₃.kin⟩ fg ?_
  refine wpAny_call (method_call (s := ⟨h₃, s.gens, s.drawn, _, s.os⟩) e₃ ?_)
  refine base_init (s := ⟨h₃, s.gens, s.drawn, _, s.os⟩) hscD SD Y M₃ hs (k₀₃ _ _ hx) hsD hmD (by show A.depth + 1 < _; omega) fun h₄ tk₄ t₄ k₄ e₄ => ?_
  refine wpAt_of_wpAny ?_
  show wpAny _ _ (execs _ _) _ _ _
  exact wpAny_execs_nil (hq h₄ tk₄ t₄ (fun b o hb e => k₄ _ _ hb (k₀₃ _ _ e)) e₄)
/-- where an __init__ that names super() stands -/
theorem sup_mk {qual : Str} {params : Arguments} {body : List Stmt} {scope : Scope} {oc kV doc pm ct ccl cl : Value} {od an cdd cld : Option Addr} {osl ccs csl : Array (Option Value)} {cda cc : Addr} {vs : Array Value} {file : Str} {tf : Tok}
    (hf : K.lookup f = some ⟨oc, od, .func (ksFn "__init__" qual params body scope .none kV doc pm an (.ref cda) ct cc), osl⟩) (hcd : codeIn K (.ref cda) qual = true) (hcode : K.lookup cda = some ⟨ccl, cdd, .fields vs, ccs⟩) (hvs : vs[2]? = some (.str file tf)) (hfile : ((prog.main.file : Str) == file) = true)
    (hcell : K.lookup cc = some ⟨cl, cld, .cell (some (.ref D)), csl⟩) (hD : (clsIn K D).isSome = true) (htop : (prog.main.scope.names.lookup ("super" : Str)).isSome = false) : SupFn prog K f D qual params body scope := by
  obtain ⟨cdD, hD⟩ := Option.isSome_iff_exists.mp hD
  exact ⟨⟨oc, od, osl, kV, doc, pm, an, ct, cda, cc, ccl, cdd, vs, ccs, file, tf, cl, cld, csl, cdD, hf, hcd, hcode, hvs, hfile, hcell, hD⟩, htop⟩
/-- an own base, itself -/
theorem init_base {q1 p0 p1 p2 p3 p4 p5 : Pos} {txt qual : Str} {j : Nat} (hsc : SupCall [.Constant (.str txt) j p5] p0 p1 p2 p3) (S : SupFn prog K f D qual (aSelf q1) [stSup [.Constant (.str txt) j p5] p0 p1 p2 p3 p4] sSelf) (Y : ErrC K D B newId initId bmB)
    (hs : mg "super" = none) (hsub : mroIn K D (.ref D) = some true) (hm : ks_superIn K D D "__init__" = some (some (.builtin initId))) : InitOk0 prog K mg D f := fun M hx hnx hroom hq => base_init hsc S Y M hs hx hsub hm (by omega) hq
theorem init_leaf0 {q1 p0 p1 p2 p3 p4 b1 c0 c1 c2 c3 c4 c5 : Pos} {txt qual qualD : Str} {j : Nat}
    (hsc : SupCall [] p0 p1 p2 p3) (hscD : SupCall [.Constant (.str txt) j c5] c0 c1 c2 c3)
    (S : SupFn prog K f C qual (aSelf q1) [stSup [] p0 p1 p2 p3 p4] sSelf)
    (SD : SupFn prog K g D qualD (aSelf b1) [stSup [.Constant (.str txt) j c5] c0 c1 c2 c3 c4] sSelf) (hmD : ks_superIn K C D "__init__" = some (some (.builtin initId)))
    (hsC : mroIn K C (.ref C) = some true) (hsD : mroIn K C (.ref D) = some true) (hmC : ks_superIn K C C "__init__" = some (some (.ref g))) (tg : typeIn K (.ref g) = some (.type "function")) (fg : fnIn K g = true)
    (Y : ErrC K C B newId initId bmB) (hs : mg "super" = none) : InitOk0 prog K mg C f := fun M hx hnx hroom hq => leaf_init0 hsc hscD S SD hmD hsC hsD hmC tg fg Y M hs hx hnx hroom hq
/-- a def of self and one more, bound by place or by name -/
theorem bind_field {q1 q2 : Pos} {fld qual : Str} {body : List Stmt} {kV doc pm ct v : Value} {an : Option Addr} {cda cc : Addr} {args : Args} {s : Shared} (h1 : fld = "given" ∨ fld = "index") (h : args = ⟨[.ref x, v], []⟩ ∨ args = ⟨[.ref x], [(fld, v)]⟩) :
    BindsTo s (ksFn "__init__" qual (aField q1 q2 fld) body (sField fld) .none kV doc pm an (.ref cda) ct cc) args [("self", .ref x), (fld, v)] := by
  rcases h1 with rfl | rfl <;> rcases h with rfl | rfl <;> exact BindsTo.of_eq (by first | rfl | with_unfolding_all rfl)
theorem init_leaf {q1 q2 p0 p1 p2 p3 p4 a0 a1 a2 a3 b1 c0 c1 c2 c3 c4 c5 : Pos} {txt qual qualD fld : Str} {j : Nat} (hfld : fld = "given" ∨ fld = "index")
    (hsc : SupCall [] p0 p1 p2 p3) (hscD : SupCall [.Constant (.str txt) j c5] c0 c1 c2 c3)
    (hsw : ∀ env : Env, swapsWith (.Name fld a2) (some (.Attribute (.Name "self" a0) fld a1)) a3.line env = pure false)
    (S : SupFn prog K f C qual (aField q1 q2 fld) [stSup [] p0 p1 p2 p3 p4, .Assign [.Attribute (.Name "self" a0) fld a1] (.Name fld a2) a3] (sField fld))
    (SD : SupFn prog K g D qualD (aSelf b1) [stSup [.Constant (.str txt) j c5] c0 c1 c2 c3 c4] sSelf) (hmD : ks_superIn K C D "__init__" = some (some (.builtin initId)))
    (hsC : mroIn K C (.ref C) = some true) (hsD : mroIn K C (.ref D) = some true) (hmC : ks_superIn K C C "__init__" = some (some (.ref g))) (tg : typeIn K (.ref g) = some (.type "function")) (fg : fnIn K g = true) (ht : takerIn K C fld = some none)
    (Y : ErrC K C B newId initId bmB) (hs : mg "super" = none) : InitOk prog K mg C f fld := fun ha M hx hnx hroom hq =>
  leaf_init (D := D) (g := g) (by rcases hfld with rfl | rfl <;> decide) hsc hscD (fun kV doc pm ct an cda cc s => bind_field hfld ha) hsw S SD hmD ⟨ht, hsC, hsD, hmC, tg, fg⟩ Y M hs hx hnx hroom hq
end
end ErrX
namespace ErrX
open PySem PySem.Spec PyProof.Rows L2
open PySem.W (Frag)
section
variable {X : Cx} {pins : List (Addr × Obj)} {σ : L2.St} {H : Hp} {s : Shared} {C f : Addr} {cn fld : Str}
/-- a heap without one object that is new -/
theorem inv_less {h' : Heap} {t' : Nat} {e dx : Addr} {fs : List (Str × V)} {mA : Str → Option Value} (I : Inv X pins σ H s) (k : ∀ b o, s.heap.get? b = some o → h'.get? b = some o) (he : s.heap.objs.size ≤ e) (hd : s.heap.objs.size ≤ dx) (ne : dx ≠ e)
    (hn : h'.Ns1 dx mA) (r : ∀ g, RelO (fs.lookup g) (mA g)) : ∃ G : Heap, Inv X pins σ (upd H dx (.xd fs)) { s with heap := G, toks := t' } ∧ (∀ b o, G.get? b = some o → h'.get? b = some o) ∧ G.get? e = none := by
  obtain ⟨G, g1, g2⟩ := restrict h' fun b => decide (b ≠ e)
  have gk : ∀ b, b ≠ e → G.get? b = h'.get? b := fun b hb => g1 b (decide_eq_true hb)
  have ge : G.get? e = none := g2 e (by simp)
  have fd : H dx = none := I.hok.fresh hd
  have ole : ∀ {b o}, s.heap.get? b = some o → b ≠ e := fun q => Nat.ne_of_lt (Nat.lt_of_lt_of_le (Heap.lt_size q) he)
  have old : ∀ {b o}, s.heap.get? b = some o → b ≠ dx := fun q => Nat.ne_of_lt (Nat.lt_of_lt_of_le (Heap.lt_size q) hd)
  have kG : ∀ b o, s.heap.get? b = some o → G.get? b = some o := fun b o q => (gk b (ole q)).trans (k b o q)
  have kn : ∀ {b u}, H b = some u → upd H dx (.xd fs) b = some u := fun {b u} q => by
    rw [upd_ne (ne_of_none q fd)]
    exact q
  have U : Un X.fs [] H (upd H dx (.xd fs)) s.heap G := {
    keep := fun b o q _ _ _ => kG b o q
    slot := fun b o q _ _ _ => ⟨o.slots, kG b o q⟩
    free := fun b o q n _ => by
      rw [upd_ne (old q)]
      exact n
    there := fun b o q _ => ⟨o, kG b o q⟩
    tups := fun b xs q => kn q
    frzs := fun b o u q => kn q
    tbls := fun b ps q => ⟨#[], by rw [kn q]; simp⟩ }
  refine ⟨G, I.un U fun b u q => ?_, fun b o q => ?_, ge⟩
  · by_cases bd : b = dx
    · subst bd
      rw [upd_same] at q
      cases q
      exact ⟨mA, hn.at fun o y => (gk b ne).trans y, r⟩
    · rw [upd_ne bd] at q
      exact (I.hok b u q).stay (fun c v _ z => kG c v z) (fun c z => kn z) (fun c xs z => kn z)
  · by_cases hb : b = e
    · rw [hb, ge] at q
      cases q
    · exact (gk b hb).symm.trans q
/-- C(v): what follows is told of the heap itself -/
theorem run_errM {R : Value → Shared → Prop} {u : Value} (T : ErrT X.K X.mg cn C f) (G : InitOk X.prog X.K X.mg C f fld) (hr : Room 2 X.A) (I : Inv X pins σ H s)
    (h : ∀ h' tk t1 dx, (∀ b o, s.heap.get? b = some o → h'.get? b = some o) → s.heap.objs.size ≤ dx → dx ≠ s.heap.objs.size + 1 → h'.get? (s.heap.objs.size + 1) = some (PySem.W.excObj C t1 (some dx) .none) → h'.Ns1 dx (fun y => if y = fld then some u else none) →
      R (.ref (s.heap.objs.size + 1)) { s with heap := h', toks := tk }) :
    wpAny (model X.prog X.w) X.A (call (.ref C) [u]) R X.xe s := by
  obtain ⟨B, newId, initId, bmB, Y⟩ := T.cls
  have KX := I.kIn
  obtain ⟨nm, N', qn, bs, bm, hdct, sn, sub, ab, col, dd, k0, k1, k2, k3, k5, hC, hT⟩ := PySem.W.excInit_of KX Y.q
  obtain ⟨oI, hoI, hcI⟩ := isfn_type KX T.isf
  have hi : PySem.W.Looks (model X.prog X.w) s.heap (typeLookup (.ref C) "__init__") (some (.ref f)) := PySem.W.looks_findIn KX T.init
  have mod : L2.Mod X.K X.mg s.heap := mod_keeps I.ok.mod I.bk
  have hdp := hr.dp
  have fresh : ∀ {b : Addr}, s.heap.objs.size ≤ b → X.K.lookup b = none := fun {b} hb => by
    cases q : X.K.lookup b with
    | none => rfl
    | some o => exact absurd (Nat.lt_of_lt_of_le (Heap.lt_size (KX _ _ q)) hb) (Nat.lt_irrefl _)
  have fin : ∀ (At : Around), At.depth + 2 < recursionLimit →
      codeAny (model X.prog X.w) At (.call (.ref f) ⟨[.ref (s.heap.objs.size + 1), u], []⟩) (PySem.W.InitBack (s.heap.objs.size + 1) fun r s' => match r with | .ok (.ret v) => R v s' | .ok _ => False | .error x => X.xe x s')
        { s with heap := (s.heap.push (PySem.W.kdv_tup [u])).push (HandSPX.excO C s.heap.objs.size) } := fun At hroom => by
    have k : ∀ b o, s.heap.get? b = some o → ((s.heap.push (PySem.W.kdv_tup [u])).push (HandSPX.excO C s.heap.objs.size)).get? b = some o := fun b o e => Heap.get?_push_of_some _ (Heap.get?_push_of_some _ e)
    have hget : ((s.heap.push (PySem.W.kdv_tup [u])).push (HandSPX.excO C s.heap.objs.size)).get? (s.heap.objs.size + 1) = some (PySem.W.excObj C s.heap.objs.size none .none) := by heap_get
    refine G (.inl rfl) (mod_keeps mod k) hget (fresh (Nat.le_succ _)) hroom fun h' tk t1 dx k' d1 d2 hx hns => ?_
    have z : s.heap.objs.size + 2 ≤ dx := by
      have q : ((s.heap.push (PySem.W.kdv_tup [u])).push (HandSPX.excO C s.heap.objs.size)).objs.size ≤ dx := d1
      rw [Heap.size_push, Heap.size_push] at q
      exact q
    have kk : ∀ b o, s.heap.get? b = some o → h'.get? b = some o := fun b o e => k' b o (Nat.ne_of_lt (Nat.lt_succ_of_lt (Heap.lt_size e))) (k b o e)
    exact ⟨rfl, h h' tk t1 dx kk (by omega) d2 hx hns⟩
  obtain ⟨hp, g, d, tk, os⟩ := s
  refine wpAny_call ?_
  show codeAny _ _ (.call (.ref C) ⟨[u], []⟩) _ _
  refine codeAny_mono (PX.call_own Y.fb hT hC hi (fun self => PySem.W.exc_bind hoI hcI self) ?_ (fin _ ?_)) fun r s' z => ?_
  · rw [sizeLine_eq]
    exact (by decide : 1 ≤ 16777216)
  · rw [make_depth]
    omega
  · exact z
/-- raise C(e): the field stands behind it -/
def tErrM (C : Addr) (fld : Str) (ta : TA) : L2.St → Hp → XK → Prop := fun σ H Q => ta σ H fun vs H1 => ∃ v, vs = [v] ∧ ∀ d, H1 d = none → Q (.ref C) (some d) (upd H1 d (.xd [(fld, v)]))
theorem pmk_err {p pos : Pos} {a : Expr} {ta : TA} (T : ErrT X.K X.mg cn C f) (G : InitOk X.prog X.K X.mg C f fld) (hty : PySem.W.typeIn X.K (.ref C) = some (.type "type")) (hsub : PySem.W.subIn X.K (.ref C) (.type "BaseException") = some true) (hr : Room 2 X.A) (ha : PA X [a] ta) (hg : Gl X cn := by rfl) (hdb : (cn == ("__debug__" : Str)) = false := by decide)
    (he : starEach (a :: []) X.env = (false, eval a X.env) :: starEach [] X.env := by rfl) (hpl : (backTo pos (starEach [] X.env)).any (·.1) = false := by rfl) : PMk X (.Call (.Name cn p) [a] [] pos) (tErrM C fld ta) := by
  intro pins s σ H Q I h
  refine wpAny_Call_Name_kw (ld_glob I hg T.glob ?_ hdb)
  refine PySem.W.callWith_K (h₀ := X.base) I.ok.mod.kin T.kp (thn (ha.run pos pins s σ H _ I h) fun us s1 ⟨vs, H1, I1, r, v, ev, q⟩ => ⟨I1.kIn, ?_⟩) he hpl
  subst ev
  obtain ⟨u, rfl, rv⟩ := vals1 r
  refine run_errM T G hr I1 fun h' tk t1 dx k d1 d2 hx hns => ?_
  obtain ⟨Gh, J, kG, ge⟩ := inv_less (t' := tk) (fs := [(fld, v)]) I1 k (Nat.le_succ _) d1 d2 hns (relO_put (fs := []) rv fun g => True.intro)
  have e1 : s1.heap.objs.size ≤ s1.heap.objs.size + 1 := Nat.le_succ _
  exact ⟨_, _, _, { s1 with heap := Gh, toks := tk }, _, .ref C, some dx, rfl, J, kG, ge, hx, ⟨rfl, rfl⟩, rfl, rfl, by rw [upd_ne (Ne.symm d2)]; exact I1.hok.fresh e1, rfl, J.bare, raises_own hsub hty, q dx (I1.hok.fresh d1)⟩
end
end ErrX
namespace Lay
open PySem PySem.Spec PyProof.Rows L2 Evl
section
variable {P : Program} {w : World} {K : PySem.W.Frag} {mg : Str → Option Value} {base : Heap}
theorem fnok_g {CX : CXT} {k : Nat} {f : Addr} {fd : FuncData} {ps : List Str} {sp : Sp} (F : FnOk P w K mg base CX k f fd ps sp) : FnG P w K mg base CX k f fd ps sp := ⟨F.len, fun A outer s H args us vs Q E hr _ => F.run A outer s H args us vs Q E hr⟩
/-- where nothing is let out -/
theorem fnok_calm {k : Nat} {f : Addr} {fd : FuncData} {ps : List Str} {sp : Sp} (F : FnOk P w K mg base (L2.CX P w) k f fd ps sp) : FnOk P w K mg base CX0 k f fd ps (fun vs H Q _ => sp vs H Q E0) :=
  ⟨fun vs H Q E h => F.len vs H Q E0 h, fun A outer s H args us vs Q E hr he hb hv hs => codeAny_mono (F.run A outer s H args us vs Q E0 hr he hb hv hs) fun res s' z => by
    cases res with
    | error e =>
      obtain ⟨_, _, _, _, _, _, _, _, _, _, _, _, z⟩ := z
      exact z.elim
    | ok fl => cases fl <;> exact z⟩
/-- a def of the program and its promise: what it lets out is told -/
structure PkOk (P : Program) (w : World) (K : PySem.W.Frag) (mg : Str → Option Value) (base : Heap) (x : Str) (st : Stmt) (k : Nat) (ps : List Str) (sp : Sp) : Prop where
  ex : ∃ f fd, FnOk P w K mg base (L2.CX P w) k f fd ps sp ∧ mg x = some (.ref f) ∧ Fun K x x st f fd ∧ Binds K fd ps []
/-- as seen where it raises nothing -/
theorem PkOk.calm {x : Str} {st : Stmt} {k : Nat} {ps : List Str} {sp : Sp} (D : PkOk P w K mg base x st k ps sp) : DefOk P w K mg base x k ps (fun vs H Q _ => sp vs H Q E0) :=
  let ⟨f, fd, F, r1, r2, r3⟩ := D.ex
  ⟨f, fd, fnok_g (fnok_calm F), r1, r2.kp, r3⟩
theorem PkOk.mono {x : Str} {st : Stmt} {j k : Nat} {ps : List Str} {sp : Sp} (D : PkOk P w K mg base x st j ps sp) (h : j ≤ k) : PkOk P w K mg base x st k ps sp :=
  let ⟨f, fd, F, r⟩ := D.ex
  ⟨f, fd, ⟨F.len, fun A outer s H args us vs Q E hr => F.run A outer s H args us vs Q E (hr.mono h)⟩, r⟩
theorem PkOk.imp {x : Str} {st : Stmt} {k : Nat} {ps : List Str} {sp sp' : Sp} (D : PkOk P w K mg base x st k ps sp) (h : ∀ vs H Q E, sp' vs H Q E → sp vs H Q E) : PkOk P w K mg base x st k ps sp' :=
  let ⟨f, fd, F, r⟩ := D.ex
  ⟨f, fd, ⟨fun vs H Q E q => F.len vs H Q E (h _ _ _ _ q), fun A outer s H args us vs Q E hr he hb hv hs => F.run A outer s H args us vs Q E hr he hb hv (h _ _ _ _ hs)⟩, r⟩
end
/-- how a def takes its arguments by name: g puts them in the parameters' order -/
def KwB (K : PySem.W.Frag) (x : Str) (st : Stmt) (ks ps : List Str) (g : {α : Type} → List α → List α) : Prop := ∀ (f : Addr) (fd : FuncData), Fun K x x st f fd → ∀ (s : Shared) (ws : List Value), ws.length = ks.length → BindsTo s fd ⟨[], ks.zip ws⟩ (ps.zip (g ws))
section
variable {X : Cx} {x : Str} {st : Stmt} {p pos : Pos} {e : Expr} {es : List Expr} {t : TA} {k : Nat} {ps ks : List Str} {sp : Sp} {W : WX} {kws : List Keyword} {tk : TA}
/-- f(k = e, ..) -/
def tCallK (n : Nat) (sp : Sp) (g : List V → List V) (E : L2.St → XK) (tk : TA) : TE := fun σ H Q => tk σ H fun zs H1 => zs.length = n ∧ sp (g zs) H1 Q (E σ)
/-- orders of one, two, three names -/
def g1 {α : Type} : List α → List α := fun l => l
end
end Lay
namespace DL
open PySem PySem.Spec PyProof.Rows L2 Evl Lay ErrX
/-- the tables of the law's row that makes lambdas -/
class TabsT where
  T : List (Addr × Str)
variable [TabsT]
/-- data: scalars, tuples, lists, objects of the program (class, attributes), a jar -/
inductive D where
  | n | b (v : Bool) | i (v : Int) | s (v : Str) | t (xs : List D) | l (xs : List D) | o (C : Addr) (ns : List Str) (xs : List D) | j | p (k : Nat) | c (ns : List Int) | T (xs : List D) | q (k : Bool) | r (p : Addr) (d : Option Addr) (ns : List Str) (xs : List D)
/-- the dicts {} and {'a': 1} -/
def kvQ : Bool → List (Key × V)
  | false => []
  | true => [(.inr "a", .int 1)]
/-- what is known of the three numbers of a pool, a bag -/
def RK : Nat → Int → Int → Int → Prop
  | 0 => RPool
  | _ => RBag
mutual
inductive R (K : PySem.W.Frag) (F : Hp) : V → D → Prop
  | n : R K F .non .n
  | b (v : Bool) : R K F (.bl v) (.b v)
  | i (v : Int) : R K F (.int v) (.i v)
  | s (v : Str) : R K F (.str v) (.s v)
  | t {p : Addr} {vs : List V} {xs : List D} : SqT K F p vs → RA K F vs xs → R K F (.ref p) (.t xs)
  | l {p : Addr} {vs : List V} {xs : List D} : F p = some (.lst vs) → RA K F vs xs → R K F (.ref p) (.l xs)
  | o {a C dx : Addr} {ns : List Str} {vs : List V} {xs : List D} : F a = some (.ins C dx (ns.zip vs)) → F dx = some (.own a) → ns.length = vs.length → RA K F vs xs → R K F (.ref a) (.o C ns xs)
  | j {a : Addr} : F a = some (jarO a) → R K F (.ref a) .j
  | p {a : Addr} (k : Nat) : F a = some (triO (RK k) a) → R K F (.ref a) (.p k)
  | c {p : Addr} {ns : List Int} : SqL K F p (ns.map V.int) → R K F (.ref p) (.c ns)
  | T {p : Addr} {ob : Obj} {vs : List V} {xs : List D} : F p = some (.frz ob (.tup vs)) → ob.dict = none → RA K F vs xs → R K F (.ref p) (.T xs)
  | q {p : Addr} (k : Bool) : F p = some (.dK (kvQ k)) → R K F (.ref p) (.q k)
  | r0 (p : Addr) : R K F (.ref p) (.r p none [] [])
  | r {p dx : Addr} {ns : List Str} {vs : List V} {xs : List D} : F dx = some (.xd (ns.zip vs)) → ns.length = vs.length → RA K F vs xs → R K F (.ref p) (.r p (some dx) ns xs)
inductive RA (K : PySem.W.Frag) (F : Hp) : List V → List D → Prop
  | nil : RA K F [] []
  | cons {v : V} {x : D} {vs : List V} {xs : List D} : R K F v x → RA K F vs xs → RA K F (v :: vs) (x :: xs)
end
section
variable {K : PySem.W.Frag} {F F' H H' : Hp}
mutual
theorem R.mono (e : Ex F F') : ∀ {v : V} {x : D}, R K F v x → R K F' v x
  | _, _, .n => .n
  | _, _, .b v => .b v
  | _, _, .i v => .i v
  | _, _, .s v => .s v
  | _, _, .t h r => .t (ex_t e h) (RA.mono e r)
  | _, _, .l h r => .l (e _ _ h) (RA.mono e r)
  | _, _, .o h1 h2 h3 r => .o (e _ _ h1) (e _ _ h2) h3 (RA.mono e r)
  | _, _, .j h => .j (e _ _ h)
  | _, _, .p k h => .p k (e _ _ h)
  | _, _, .c h => .c (ex_l e h)
  | _, _, .T h n r => .T (e _ _ h) n (RA.mono e r)
  | _, _, .q k h => .q k (e _ _ h)
  | _, _, .r0 p => .r0 p
  | _, _, .r h1 h2 r => .r (e _ _ h1) h2 (RA.mono e r)
theorem RA.mono (e : Ex F F') : ∀ {vs : List V} {xs : List D}, RA K F vs xs → RA K F' vs xs
  | _, _, .nil => .nil
  | _, _, .cons h r => .cons (R.mono e h) (RA.mono e r)
end
theorem RA.len : ∀ {vs : List V} {xs : List D}, RA K F vs xs → vs.length = xs.length
  | _, _, .nil => rfl
  | _, _, .cons _ r => by rw [List.length_cons, List.length_cons, RA.len r]
theorem RA.get : ∀ {vs : List V} {xs : List D} {k : Nat} {v : V}, RA K F vs xs → vs[k]? = some v → ∃ x, xs[k]? = some x ∧ R K F v x
  | _, _, _, _, .nil, h => by
    rw [List.getElem?_nil] at h
    cases h
  | _, _, 0, _, .cons a _, h => by
    cases h
    exact ⟨_, rfl, a⟩
  | _, _, k + 1, _, .cons _ r, h => RA.get (k := k) r h
theorem RA.get' : ∀ {vs : List V} {xs : List D} {k : Nat} {x : D}, RA K F vs xs → xs[k]? = some x → ∃ v, vs[k]? = some v ∧ R K F v x
  | _, _, _, _, .nil, h => by
    rw [List.getElem?_nil] at h
    cases h
  | _, _, 0, _, .cons a _, h => by
    cases h
    exact ⟨_, rfl, a⟩
  | _, _, k + 1, _, .cons _ r, h => RA.get' (k := k) r h
theorem RA.app : ∀ {vs ws : List V} {xs ys : List D}, RA K F vs xs → RA K F ws ys → RA K F (vs ++ ws) (xs ++ ys)
  | _, _, _, _, .nil, s => s
  | _, _, _, _, .cons a r, s => .cons a (RA.app r s)
theorem RA.snoc {vs : List V} {xs : List D} {v : V} {x : D} (h : RA K F vs xs) (r : R K F v x) : RA K F (vs ++ [v]) (xs ++ [x]) := h.app (.cons r .nil)
theorem RA.take : ∀ {vs : List V} {xs : List D} (k : Nat), RA K F vs xs → RA K F (vs.take k) (xs.take k)
  | _, _, 0, _ => .nil
  | _, _, _ + 1, .nil => .nil
  | _, _, k + 1, .cons a r => .cons a (RA.take k r)
theorem RA.drop : ∀ {vs : List V} {xs : List D} (k : Nat), RA K F vs xs → RA K F (vs.drop k) (xs.drop k)
  | _, _, 0, r => r
  | _, _, _ + 1, .nil => .nil
  | _, _, k + 1, .cons _ r => RA.drop k r
theorem RA.set : ∀ {vs : List V} {xs : List D} {v : V} {x : D} (k : Nat), RA K F vs xs → R K F v x → RA K F (vs.set k v) (xs.set k x)
  | _, _, _, _, _, .nil, _ => .nil
  | _, _, _, _, 0, .cons _ r, a => .cons a r
  | _, _, _, _, k + 1, .cons b r, a => .cons b (RA.set k r a)
theorem RA.ints : ∀ {ns : List Int}, RA K F (ns.map V.int) (ns.map D.i)
  | [] => .nil
  | _ :: _ => .cons (.i _) RA.ints
/-- a heap grown: all stays, but tables of code objects may have grown -/
def ExT (H H' : Hp) : Prop := ∀ a o, H a = some o → (∀ ps, o ≠ .tbl ps) → H' a = some o
theorem ext_nt {φ : Heap → Prop} (ps : Array Value) : HO.ext φ ≠ .tbl ps := fun z => by cases z
theorem ExT.of (e : Ex H H') : ExT H H' := fun a o h _ => e a o h
theorem ExT.refl (H : Hp) : ExT H H := fun _ _ h _ => h
theorem ExT.trans {H H1 H2 : Hp} (a : ExT H H1) (b : ExT H1 H2) : ExT H H2 := fun x o h n => b x o (a x o h n) n
/-- nothing stands there, or a table -/
def Free (H : Hp) (p : Addr) : Prop := ∀ o, H p = some o → ∃ ps, o = .tbl ps
theorem Free.of {p : Addr} (h : H p = none) : Free H p := fun o z => by
  rw [h] at z
  cases z
theorem Free.not {p : Addr} {o : HO} (f : Free H p) (h : H p = some o) (n : ∀ ps, o ≠ .tbl ps) : False :=
  let ⟨ps, e⟩ := f o h
  n ps e
theorem ExT.back {p : Addr} (e : ExT H H') (h : Free H' p) : Free H p := fun o z => Classical.byContradiction fun n => n (h o (e p o z fun ps q => n ⟨ps, q⟩))
instance {H : Hp} {p : Addr} : Coe (H p = none) (Free H p) := ⟨Free.of⟩
theorem ExT.kp {a : Addr} {o : HO} (e : ExT H H') (h : H a = some o) (n : ∀ ps, o ≠ .tbl ps := by intro ps z; first | (cases z; done) | exact ext_nt ps z) : H' a = some o := e a o h n
theorem ExT.mut {p : Addr} {o : HO} (e : ExT H H') (h : Free H p) : ExT H (upd H' p o) := fun a u ha n => by
  have ne : a ≠ p := fun z => by
    rw [z] at ha
    exact h.not ha n
  rw [upd_ne ne]
  exact e a u ha n
/-- no table is known for good -/
def NTF (F : Hp) : Prop := ∀ p ps, F p ≠ some (.tbl ps)
/-- what is known of tables -/
def Kn (F H : Hp) : Prop := NTF F ∧ LamX.Tabs TabsT.T H
/-- what is known of tables stays known -/
def TabG (F H F' H' : Hp) : Prop := Kn F H → Kn F' H'
theorem TabG.refl (F H : Hp) : TabG F H F H := fun t => t
theorem TabG.of (h : Ex H H') : TabG F H F H' := fun t => ⟨t.1, t.2.ext h⟩
theorem TabG.trans {F1 H1 F2 H2 : Hp} (a : TabG F H F1 H1) (b : TabG F1 H1 F2 H2) : TabG F H F2 H2 := fun t => b (a t)
theorem NTF.upd {p : Addr} {o : HO} (a : NTF F) (n : ∀ ps, o ≠ .tbl ps) : NTF (upd F p o) := fun q ps z => by
  by_cases e : q = p
  · rw [e, upd_same] at z
    exact n ps (Option.some.inj z)
  · rw [upd_ne e] at z
    exact a q ps z
theorem TabG.told {F1 H1 : Hp} {p : Addr} {o : HO} (a : TabG F H F1 H1) (n : ∀ ps, o ≠ .tbl ps := by intro ps z; first | (cases z; done) | exact ext_nt ps z) : TabG F H (upd F1 p o) H1 := fun t => ⟨(a t).1.upd n, (a t).2⟩
theorem TabG.new {p : Addr} {o : HO} (h : Ex H H') (n : ∀ ps, o ≠ .tbl ps) : TabG F H (upd F p o) H' := fun t => ⟨t.1.upd n, t.2.ext h⟩
/-- no table, no code object -/
def NoTab (p : Addr) (o : HO) : Prop := (∀ ps, o ≠ .tbl ps) ∧ ∀ q, o ≠ LamX.CodeO p q
theorem Kn.mut {p : Addr} {o u : HO} (a : Kn F H) (h : H p = some u) (n : NoTab p u) : Kn F (upd H p o) := ⟨a.1, fun r hr => by
  obtain ⟨P, q⟩ := r
  obtain ⟨ps, b, c, d⟩ := a.2 _ hr
  have n1 : P ≠ p := fun z => by
    rw [z, h] at b
    exact n.1 ps (Option.some.inj b)
  refine ⟨ps, by rw [upd_ne n1]; exact b, c, fun pos cv e => ?_⟩
  obtain ⟨k, e1, e2⟩ := d pos cv e
  have n2 : k ≠ p := fun z => by
    rw [z, h] at e2
    exact n.2 q (Option.some.inj e2)
  exact ⟨k, e1, by rw [upd_ne n2]; exact e2⟩⟩
theorem TabG.mut {F1 H1 : Hp} {p : Addr} {o u : HO} (a : TabG F H F1 H1) (h : H1 p = some u) (n : NoTab p u) : TabG F H F1 (upd H1 p o) := fun t => (a t).mut h n
theorem noTab_lst {p : Addr} {xs : List V} : NoTab p (.lst xs) := ⟨(fun ps z => by cases z), fun q z => by
  unfold LamX.CodeO at z
  cases z⟩
theorem noTab_ins {p C dx : Addr} {fs : List (Str × V)} : NoTab p (.ins C dx fs) := ⟨(fun ps z => by cases z), fun q z => by
  unfold LamX.CodeO at z
  cases z⟩
/-- what stands at p is no record -/
theorem noTab_ext {p : Addr} {φ : Heap → Prop} (hφ : ∀ h, φ h → ∃ o, h.get? p = some o ∧ ∀ vs, o.data ≠ .fields vs) : NoTab p (.ext φ) := by
  refine ⟨fun ps => ext_nt ps, fun q z => ?_⟩
  unfold LamX.CodeO at z
  injection z with z
  have hp : (Heap.push ⟨Array.replicate p { cls := .none, data := .fields #[] }, {}⟩ { cls := .none, data := .fields #[.none, .str q default] }).get? p = some { cls := .none, data := .fields #[.none, .str q default] } := by
    have := Heap.get?_push_size ⟨Array.replicate p { cls := .none, data := .fields #[] }, {}⟩ (o := { cls := .none, data := .fields #[.none, .str q default] }) rfl
    rw [show (Heap.mk (Array.replicate p ({ cls := .none, data := .fields #[] } : Obj)) {}).objs.size = p from by simp] at this
    exact this
  have t : φ (Heap.push ⟨Array.replicate p { cls := .none, data := .fields #[] }, {}⟩ { cls := .none, data := .fields #[.none, .str q default] }) := by
    rw [z]
    exact ⟨_, _, _, hp, rfl, rfl⟩
  obtain ⟨o, ho, n⟩ := hφ _ t
  rw [hp] at ho
  cases ho
  exact n _ rfl
theorem noTab_set {P : Program} {w : World} {p : Addr} {L : List (Addr × List Int)} : NoTab p (SetTO P w p L) := noTab_ext fun h (R : SetT0 P w h p L) => by
  obtain ⟨es, ep, t, ⟨o, ho, ex, hd⟩, _⟩ := R.ex
  exact ⟨o, ho, fun vs z => by rw [hd] at z; cases z⟩
/-- what is known (F) and the heap (H) grown: what F has anew, H had not -/
structure Ext (F H F' H' : Hp) : Prop where
  ff : Ex F F'
  hh : ExT H H'
  fh : Ex F' H'
  tb : TabG F H F' H'
  nw : ∀ p o, F' p = some o → F p = none → Free H p
theorem Ext.refl (e : Ex F H) : Ext F H F H := ⟨Ex.refl F, ExT.refl H, e, TabG.refl F H, fun p o h n => by rw [n] at h; cases h⟩
theorem Ext.trans {F1 H1 F2 H2 : Hp} (a : Ext F H F1 H1) (b : Ext F1 H1 F2 H2) : Ext F H F2 H2 := ⟨a.ff.trans b.ff, a.hh.trans b.hh, b.fh, a.tb.trans b.tb, fun p o h n => by
  cases q : F1 p with
  | none => exact ExT.back a.hh (b.nw p o h q)
  | some u => exact a.nw p u q n⟩
/-- the heap alone grows -/
theorem Ext.heap (e : Ex F H) (x : Ex H H') : Ext F H F H' := ⟨Ex.refl F, ExT.of x, e.trans x, TabG.of x, fun p o h n => by rw [n] at h; cases h⟩
theorem ex_upd2 {p : Addr} {o : HO} (e : Ex F H) : Ex (upd F p o) (upd H p o) := fun a u h => by
  by_cases q : a = p
  · subst q
    rw [upd_same] at h ⊢
    exact h
  · rw [upd_ne q] at h ⊢
    exact e _ _ h
/-- a new object, known -/
theorem Ext.new {p : Addr} {o : HO} (e : Ex F H) (h : H p = none) (nt : ∀ ps, o ≠ .tbl ps := by intro ps z; first | (cases z; done) | exact ext_nt ps z) : Ext F H (upd F p o) (upd H p o) :=
  ⟨Ex.new (fresh_back e h), ExT.of (Ex.new h), ex_upd2 e, TabG.new (Ex.new h) nt, fun a u q n => by
    by_cases z : a = p
    · rw [z]
      exact .of h
    · rw [upd_ne z, n] at q
      cases q⟩
/-- an object that stands in H, not in F, and was not in H0, comes to be known -/
theorem ex_told {p : Addr} {o : HO} (e : Ex F H) (h : H p = some o) : Ex (upd F p o) H := fun a u q => by
  by_cases z : a = p
  · subst z
    rw [upd_same] at q
    rw [h]
    exact q
  · rw [upd_ne z] at q
    exact e _ _ q
end
/-- what is one's own, and may still change: a list; a set of tuples of ints -/
inductive Own where
  | l (xs : List D) | s (f : Addr → List (Addr × List Int) → HO) (ks : List (List Int)) (nt : ∀ p L, NoTab p (f p L)) | la (p : Addr) (vs : List V) (xs : List D)
def OwnOk (K : PySem.W.Frag) (F : Hp) (p : Addr) : Own → HO → Prop
  | .l xs, o => ∃ vs, o = .lst vs ∧ RA K F vs xs
  | .s f ks _, o => ∃ L : List (Addr × List Int), o = f p L ∧ (L.map (·.2)).Perm ks ∧ ∀ q ∈ L, SqT K F q.1 (q.2.map V.int)
  | .la q vs xs, o => q = p ∧ o = .lst vs ∧ RA K F vs xs
theorem OwnOk.mono {K : PySem.W.Frag} {F F' : Hp} {p : Addr} {o : Own} {ho : HO} (h : OwnOk K F p o ho) (e : Ex F F') : OwnOk K F' p o ho := by
  cases o with
  | l xs =>
    obtain ⟨vs, h1, h2⟩ := h
    exact ⟨vs, h1, h2.mono e⟩
  | s f ks nt =>
    obtain ⟨L, h1, h2, h3⟩ := h
    exact ⟨L, h1, h2, fun q hq => ex_t e (h3 q hq)⟩
  | la q vs xs => exact ⟨h.1, h.2.1, h.2.2.mono e⟩
theorem OwnOk.nt {K : PySem.W.Frag} {F : Hp} {p : Addr} {o : Own} {ho : HO} (h : OwnOk K F p o ho) : NoTab p ho := by
  cases o with
  | l xs =>
    obtain ⟨vs, rfl, _⟩ := h
    exact noTab_lst
  | s f ks nt =>
    obtain ⟨L, rfl, _⟩ := h
    exact nt p L
  | la q vs xs =>
    obtain ⟨_, rfl, _⟩ := h
    exact noTab_lst
/-- a slot: nothing told; data; a thing of one's own -/
inductive Sl where
  | u | d (x : D) | w (o : Own)
abbrev Sl.ol (xs : List D) : Sl := .w (.l xs)
abbrev Sl.os (f : Addr → List (Addr × List Int) → HO) (ks : List (List Int)) (nt : ∀ p L, NoTab p (f p L) := by exact fun _ _ => noTab_set) : Sl := .w (.s f ks nt)
abbrev G := List Sl
def nth : G → Nat → Sl
  | [], _ => .u
  | x :: _, 0 => x
  | _ :: r, k + 1 => nth r k
def put : G → Nat → Sl → G
  | [], _, _ => []
  | _ :: r, 0, y => y :: r
  | x :: r, k + 1, y => x :: put r k y
theorem nth_put_same : ∀ {Γ : G} {k : Nat} {y : Sl}, k < Γ.length → nth (put Γ k y) k = y
  | _ :: _, 0, _, _ => rfl
  | _ :: r, k + 1, _, h => nth_put_same (Γ := r) (k := k) (Nat.lt_of_succ_lt_succ h)
theorem nth_put_ne : ∀ {Γ : G} {k m : Nat} {y : Sl}, m ≠ k → nth (put Γ k y) m = nth Γ m
  | [], _, _, _, _ => rfl
  | _ :: _, 0, 0, _, h => absurd rfl h
  | _ :: _, 0, _ + 1, _, _ => rfl
  | _ :: _, _ + 1, 0, _, _ => rfl
  | _ :: r, k + 1, m + 1, _, h => nth_put_ne (Γ := r) fun e => h (by rw [e])
theorem put_length : ∀ {Γ : G} {k : Nat} {y : Sl}, (put Γ k y).length = Γ.length
  | [], _, _ => rfl
  | _ :: _, 0, _ => rfl
  | _ :: r, k + 1, _ => by
    show (put r k _).length + 1 = _
    rw [put_length]
    rfl
theorem nth_out : ∀ {Γ : G} {k : Nat}, Γ.length ≤ k → nth Γ k = .u
  | [], _, _ => rfl
  | _ :: r, 0, h => absurd h (by simp)
  | _ :: r, k + 1, h => nth_out (Γ := r) (Nat.le_of_succ_le_succ h)
theorem put_out : ∀ {Γ : G} {k : Nat} {y : Sl}, Γ.length ≤ k → put Γ k y = Γ
  | [], _, _, _ => rfl
  | _ :: r, 0, _, h => absurd h (by simp)
  | x :: r, k + 1, y, h => by
    show x :: put r k y = x :: r
    rw [put_out (Nat.le_of_succ_le_succ h)]
theorem nth_put {Γ : G} {k m : Nat} {y : Sl} : nth (put Γ k y) m = if m = k ∧ k < Γ.length then y else nth Γ m := by
  by_cases h : m = k
  · subst h
    by_cases l : m < Γ.length
    · rw [nth_put_same l, if_pos ⟨rfl, l⟩]
    · rw [put_out (Nat.le_of_not_lt l), if_neg (fun z => l z.2)]
  · rw [nth_put_ne h, if_neg (fun z => h z.1)]
/-- F0, H0: what was known at the entry -/
structure Rep (K : PySem.W.Frag) (F0 H0 F H : Hp) (σ : L2.St) (Γ : G) : Prop where
  f0 : Ex F0 F
  h0 : ExT H0 H
  fh : Ex F H
  tb : Kn F H
  nw : ∀ p o, F p = some o → F0 p = none → Free H0 p
  len : σ.length = Γ.length
  sl : ∀ k x, nth Γ k = .d x → ∃ v, σ[k]? = some (some v) ∧ R K F v x
  ow : ∀ k o, nth Γ k = .w o → ∃ p ho, σ[k]? = some (some (.ref p)) ∧ F p = none ∧ Free H0 p ∧ H p = some ho ∧ OwnOk K F p o ho
  inj : ∀ k m o o' p, k ≠ m → nth Γ k = .w o → nth Γ m = .w o' → σ[k]? = some (some (.ref p)) → σ[m]? = some (some (.ref p)) → False
section
variable {K : PySem.W.Frag} {F0 H0 F H F' H' : Hp} {σ : L2.St} {Γ : G}
/-- what a call asks -/
def ExK (F H : Hp) : Prop := Ex F H ∧ Kn F H
theorem Rep.ek (r : Rep K F0 H0 F H σ Γ) : ExK F H := ⟨r.fh, r.tb⟩
theorem Rep.ext0 (r : Rep K F0 H0 F H σ Γ) : Ext F0 H0 F H := ⟨r.f0, r.h0, r.fh, fun _ => r.tb, r.nw⟩
theorem Rep.ol (r : Rep K F0 H0 F H σ Γ) (k : Nat) (xs : List D) (h : nth Γ k = .ol xs) : ∃ p vs, σ[k]? = some (some (.ref p)) ∧ F p = none ∧ Free H0 p ∧ H p = some (.lst vs) ∧ RA K F vs xs := by
  obtain ⟨p, ho, a, b, c, d, vs, e, f⟩ := r.ow k _ h
  subst e
  exact ⟨p, vs, a, b, c, d, f⟩
theorem Rep.ext (r : Rep K F0 H0 F H σ Γ) (e : Ext F H F' H') : Rep K F0 H0 F' H' σ Γ :=
  let z := r.ext0.trans e
  ⟨z.ff, z.hh, z.fh, e.tb r.tb, z.nw, r.len, fun k x h => let ⟨v, a, b⟩ := r.sl k x h; ⟨v, a, b.mono e.ff⟩, fun k xs h => by
    obtain ⟨p, vs, a, b, c, d, f⟩ := r.ow k xs h
    refine ⟨p, vs, a, ?_, c, e.hh.kp d f.nt.1, f.mono e.ff⟩
    cases q : F' p with
    | none => rfl
    | some o =>
      exact ((e.nw p o q b).not d f.nt.1).elim, r.inj⟩
/-- a slot is set to data -/
theorem Rep.set (r : Rep K F0 H0 F H σ Γ) {k : Nat} {v : V} {x : D} (h : R K F v x) : Rep K F0 H0 F H (σ.set k (some v)) (put Γ k (.d x)) := by
  refine ⟨r.f0, r.h0, r.fh, r.tb, r.nw, by rw [List.length_set, put_length, r.len], fun m y q => ?_, fun m xs q => ?_, fun m m' xs ys p ne q1 q2 s1 s2 => ?_⟩
  · rw [nth_put] at q
    split at q
    · rename_i z
      obtain ⟨rfl, z⟩ := z
      cases q
      exact ⟨v, by rw [List.getElem?_set_self (by rw [r.len]; exact z)], h⟩
    · rename_i z
      obtain ⟨u, a, b⟩ := r.sl m y q
      refine ⟨u, ?_, b⟩
      by_cases e : k = m
      · subst e
        rw [nth_out (Nat.le_of_not_lt fun l => z ⟨rfl, l⟩)] at q
        cases q
      · rw [List.getElem?_set_ne e]
        exact a
  · rw [nth_put] at q
    split at q
    · cases q
    · rename_i z
      obtain ⟨p, vs, a, b⟩ := r.ow m xs q
      refine ⟨p, vs, ?_, b⟩
      by_cases e : k = m
      · subst e
        rw [nth_out (Nat.le_of_not_lt fun l => z ⟨rfl, l⟩)] at q
        cases q
      · rw [List.getElem?_set_ne e]
        exact a
  · have key : ∀ m xs, nth (put Γ k (.d x)) m = .w xs → k ≠ m ∧ nth Γ m = .w xs := fun m xs q => by
      rw [nth_put] at q
      split at q
      · cases q
      · rename_i z
        refine ⟨fun e => ?_, q⟩
        subst e
        rw [nth_out (Nat.le_of_not_lt fun l => z ⟨rfl, l⟩)] at q
        cases q
    obtain ⟨a1, a2⟩ := key _ _ q1
    obtain ⟨b1, b2⟩ := key _ _ q2
    rw [List.getElem?_set_ne a1] at s1
    rw [List.getElem?_set_ne b1] at s2
    exact r.inj m m' xs ys p ne a2 b2 s1 s2
/-- a slot is set to a list of one's own, that stands in the heap and in no other slot -/
theorem Rep.setW (r : Rep K F0 H0 F H σ Γ) {k : Nat} {p : Addr} {vs : HO} {xs : Own} (hf : F p = none) (h0 : Free H0 p) (hp : H p = some vs) (h : OwnOk K F p xs vs) (hn : ∀ m ys, m ≠ k → nth Γ m = .w ys → σ[m]? = some (some (.ref p)) → False) :
    Rep K F0 H0 F H (σ.set k (some (.ref p))) (put Γ k (.w xs)) := by
  have out : ∀ {m : Nat} {y : Sl}, ¬ (m = k ∧ k < Γ.length) → nth Γ m = y → y ≠ .u → k ≠ m := fun {m y} z q n e => by
    subst e
    rw [nth_out (Nat.le_of_not_lt fun l => z ⟨rfl, l⟩)] at q
    exact n q.symm
  refine ⟨r.f0, r.h0, r.fh, r.tb, r.nw, by rw [List.length_set, put_length, r.len], fun m y q => ?_, fun m ys q => ?_, fun m m' ys zs p' ne q1 q2 s1 s2 => ?_⟩
  · rw [nth_put] at q
    split at q
    · cases q
    · rename_i z
      obtain ⟨u, a, b⟩ := r.sl m y q
      exact ⟨u, by rw [List.getElem?_set_ne (out z q (by simp))]; exact a, b⟩
  · rw [nth_put] at q
    split at q
    · rename_i z
      obtain ⟨rfl, z⟩ := z
      cases q
      exact ⟨p, vs, by rw [List.getElem?_set_self (by rw [r.len]; exact z)], hf, h0, hp, h⟩
    · rename_i z
      obtain ⟨p', vs', a, b⟩ := r.ow m ys q
      exact ⟨p', vs', by rw [List.getElem?_set_ne (out z q (by simp))]; exact a, b⟩
  · rw [nth_put] at q1 q2
    split at q1
    · rename_i z
      obtain ⟨rfl, z⟩ := z
      split at q2
      · rename_i z2
        exact ne z2.1.symm
      · rename_i z2
        have e2 := out z2 q2 (by simp)
        rw [List.getElem?_set_self (by rw [r.len]; exact z)] at s1
        rw [List.getElem?_set_ne e2] at s2
        cases s1
        exact hn m' zs (fun e => e2 e.symm) q2 s2
    · rename_i z
      have e1 := out z q1 (by simp)
      rw [List.getElem?_set_ne e1] at s1
      split at q2
      · rename_i z2
        obtain ⟨rfl, z2⟩ := z2
        rw [List.getElem?_set_self (by rw [r.len]; exact z2)] at s2
        cases s2
        exact hn m ys (fun e => e1 e.symm) q1 s1
      · rename_i z2
        rw [List.getElem?_set_ne (out z2 q2 (by simp))] at s2
        exact r.inj m m' ys zs p' ne q1 q2 s1 s2
theorem Rep.setO (r : Rep K F0 H0 F H σ Γ) {k : Nat} {p : Addr} {vs : List V} {xs : List D} (hf : F p = none) (h0 : Free H0 p) (hp : H p = some (.lst vs)) (h : RA K F vs xs) (hn : ∀ m ys, m ≠ k → nth Γ m = .w ys → σ[m]? = some (some (.ref p)) → False) :
    Rep K F0 H0 F H (σ.set k (some (.ref p))) (put Γ k (.ol xs)) := r.setW hf h0 hp ⟨vs, rfl, h⟩ hn
/-- the list of one's own in a slot is changed -/
theorem Rep.chgW (r : Rep K F0 H0 F H σ Γ) {k : Nat} {p : Addr} {ws : HO} {xs ys : Own} (hk : nth Γ k = .w xs) (hs : σ[k]? = some (some (.ref p))) (h : OwnOk K F p ys ws) : Rep K F0 H0 F (upd H p ws) σ (put Γ k (.w ys)) := by
  obtain ⟨p', vs, a, b, c, d, f⟩ := r.ow k xs hk
  rw [hs] at a
  cases a
  have kl : k < Γ.length := Nat.lt_of_not_le fun l => by
    rw [nth_out l] at hk
    cases hk
  refine ⟨r.f0, r.h0.mut c, fun a u q => ?_, r.tb.mut d f.nt, r.nw, by rw [put_length, r.len], fun m y q => ?_, fun m zs q => ?_, fun m m' zs zs' p' ne q1 q2 s1 s2 => ?_⟩
  · rw [upd_ne (ne_of_none q b)]
    exact r.fh a u q
  · rw [nth_put] at q
    split at q
    · cases q
    · exact r.sl m y q
  · rw [nth_put] at q
    split at q
    · rename_i z
      obtain ⟨rfl, z⟩ := z
      cases q
      exact ⟨p, ws, hs, b, c, upd_same, h⟩
    · rename_i z
      obtain ⟨p', vs', a', b', c', d', f'⟩ := r.ow m zs q
      refine ⟨p', vs', a', b', c', ?_, f'⟩
      rw [upd_ne fun e => ?_]
      · exact d'
      · subst e
        exact r.inj m k zs xs p' (fun e => z ⟨e, kl⟩) q hk a' hs
  · have key : ∀ m zs, nth (put Γ k (.w ys)) m = .w zs → ∃ zs', nth Γ m = .w zs' := fun m zs q => by
      rw [nth_put] at q
      split at q
      · rename_i z
        exact ⟨xs, by rw [z.1]; exact hk⟩
      · exact ⟨zs, q⟩
    obtain ⟨z1, k1⟩ := key _ _ q1
    obtain ⟨z2, k2⟩ := key _ _ q2
    exact r.inj m m' z1 z2 p' ne k1 k2 s1 s2
theorem Rep.chg (r : Rep K F0 H0 F H σ Γ) {k : Nat} {p : Addr} {ws : List V} {xs ys : List D} (hk : nth Γ k = .ol xs) (hs : σ[k]? = some (some (.ref p))) (h : RA K F ws ys) : Rep K F0 H0 F (upd H p (.lst ws)) σ (put Γ k (.ol ys)) := r.chgW hk hs ⟨ws, rfl, h⟩
/-- the list of one's own in a slot is not changed any more -/
theorem Rep.frz (r : Rep K F0 H0 F H σ Γ) {k : Nat} {xs : List D} (hk : nth Γ k = .ol xs) : ∃ F', Rep K F0 H0 F' H σ (put Γ k (.d (.l xs))) := by
  obtain ⟨p, vs, a, b, c, d, f⟩ := r.ol k xs hk
  have kl : k < Γ.length := Nat.lt_of_not_le fun l => by
    rw [nth_out l] at hk
    cases hk
  have e : Ex F (upd F p (.lst vs)) := Ex.new b
  refine ⟨upd F p (.lst vs), r.f0.trans e, r.h0, ex_told r.fh d, ⟨r.tb.1.upd (fun ps z => by cases z), r.tb.2⟩, fun a' o q n => ?_, by rw [put_length, r.len], fun m y q => ?_, fun m zs q => ?_, fun m m' zs zs' p' ne q1 q2 s1 s2 => ?_⟩
  · by_cases z : a' = p
    · rw [z]
      exact c
    · rw [upd_ne z] at q
      exact r.nw a' o q n
  · rw [nth_put] at q
    split at q
    · rename_i z
      obtain ⟨rfl, z⟩ := z
      cases q
      exact ⟨_, a, .l upd_same (f.mono e)⟩
    · obtain ⟨v, h1, h2⟩ := r.sl m y q
      exact ⟨v, h1, h2.mono e⟩
  · rw [nth_put] at q
    split at q
    · cases q
    · rename_i z
      obtain ⟨p', vs', a', b', c', d', f'⟩ := r.ow m zs q
      refine ⟨p', vs', a', ?_, c', d', f'.mono e⟩
      rw [upd_ne fun y => ?_]
      · exact b'
      · subst y
        exact r.inj m k zs _ p' (fun e => z ⟨e, kl⟩) q hk a' a
  · have key : ∀ m zs, nth (put Γ k (.d (.l xs))) m = .w zs → nth Γ m = .w zs := fun m zs q => by
      rw [nth_put] at q
      split at q
      · cases q
      · exact q
    exact r.inj m m' zs zs' p' ne (key _ _ q1) (key _ _ q2) s1 s2
/-- a slot forgotten -/
theorem Rep.drop (r : Rep K F0 H0 F H σ Γ) {k : Nat} {o : Option V} : Rep K F0 H0 F H (σ.set k o) (put Γ k .u) := by
  have key : ∀ m y, nth (put Γ k .u) m = y → y ≠ .u → k ≠ m ∧ nth Γ m = y := fun m y q n => by
    rw [nth_put] at q
    split at q
    · exact absurd q.symm n
    · rename_i z
      refine ⟨fun e => ?_, q⟩
      subst e
      rw [nth_out (Nat.le_of_not_lt fun l => z ⟨rfl, l⟩)] at q
      exact n q.symm
  refine ⟨r.f0, r.h0, r.fh, r.tb, r.nw, by rw [List.length_set, put_length, r.len], fun m y q => ?_, fun m xs q => ?_, fun m m' xs ys p ne q1 q2 s1 s2 => ?_⟩
  · obtain ⟨e, q⟩ := key _ _ q (by simp)
    rw [List.getElem?_set_ne e]
    exact r.sl m y q
  · obtain ⟨e, q⟩ := key _ _ q (by simp)
    rw [List.getElem?_set_ne e]
    exact r.ow m xs q
  · obtain ⟨e1, q1⟩ := key _ _ q1 (by simp)
    obtain ⟨e2, q2⟩ := key _ _ q2 (by simp)
    rw [List.getElem?_set_ne e1] at s1
    rw [List.getElem?_set_ne e2] at s2
    exact r.inj m m' xs ys p ne q1 q2 s1 s2
def wipeG (Γ : G) : List Nat → G
  | [] => Γ
  | v :: vs => put (wipeG Γ vs) v .u
theorem Rep.wipe (r : Rep K F0 H0 F H σ Γ) : ∀ vs : List Nat, Rep K F0 H0 F H (wipe σ vs) (wipeG Γ vs)
  | [] => r
  | v :: vs => (Rep.wipe r vs).drop
/-- the callers' view: a def begins -/
theorem rep_start {vs : List V} {ds : List D} {N : List Str} (e : Ex F H) (kn : Kn F H) (r : RA K F vs ds) (hl : ds.length ≤ N.length) : Rep K F H F H (L2.start N vs) (ds.map Sl.d ++ List.replicate (N.length - ds.length) .u) := by
  have hlen := r.len
  refine ⟨Ex.refl F, ExT.refl H, e, kn, fun p o q n => (by rw [n] at q; cases q), ?_, ?_, ?_, ?_⟩
  · unfold L2.start
    simp only [List.length_append, List.length_map, List.length_replicate]
    omega
  · have gen : ∀ (ds : List D) (vs : List V) (n m k : Nat) (x : D), RA K F vs ds → nth (ds.map Sl.d ++ List.replicate n .u) k = .d x → ∃ v, (vs.map some ++ List.replicate m none)[k]? = some (some v) ∧ R K F v x := by
      intro ds
      induction ds with
      | nil =>
        intro vs n m k x r q
        exfalso
        clear r
        induction n generalizing k with
        | zero => cases q
        | succ n ih =>
          cases k with
          | zero => cases q
          | succ k => exact ih k q
      | cons d ds ih =>
        intro vs n m k x r q
        cases r with
        | cons a r =>
          cases k with
          | zero =>
            cases q
            exact ⟨_, rfl, a⟩
          | succ k => exact ih _ n m k x r q
    intro k x q
    exact gen ds vs _ _ k x r q
  all_goals
    have gen : ∀ (ds : List D) (n k : Nat) (xs : Own), nth (ds.map Sl.d ++ List.replicate n .u) k = .w xs → False := by
      intro ds
      induction ds with
      | nil =>
        intro n k xs q
        induction n generalizing k with
        | zero => cases q
        | succ n ih =>
          cases k with
          | zero => cases q
          | succ k => exact ih k q
      | cons d ds ih =>
        intro n k xs q
        cases k with
        | zero => cases q
        | succ k => exact ih n k xs q
  · intro k xs q
    exact (gen ds _ k xs q).elim
  · intro k m xs ys p ne q1 q2 s1 s2
    exact gen ds _ k xs q1
end
end DL
namespace DL
variable [DL.TabsT]
open PySem PySem.Spec PyProof.Rows L2 Evl Lay ErrX
abbrev WE := G → (D → Prop) → Prop
abbrev WA := G → (List D → Prop) → Prop
abbrev WT := G → (Bool → Prop) → Prop
structure Po where
  nx : G → Prop
  rt : D → Prop
  bk : G → Prop := fun _ => False
  ct : G → Prop := fun _ => False
abbrev WS := Po → G → Prop
abbrev WG := D → G → (G → Prop) → Prop
section
variable (K : PySem.W.Frag)
def EOk (te : TE) (we : WE) : Prop := ∀ Γ Q, we Γ Q → ∀ F0 H0 F H σ, Rep K F0 H0 F H σ Γ → ∀ QV : VK, (∀ v d F' H', Q d → Ext F H F' H' → R K F' v d → QV v H') → te σ H QV
/-- a new list, still one's own -/
def FOk (te : TE) (wf : WA) : Prop := ∀ Γ Q, wf Γ Q → ∀ F0 H0 F H σ, Rep K F0 H0 F H σ Γ → ∀ QV : VK, (∀ p vs ds F' H', Q ds → Ext F H F' H' → Free H p → F' p = none → H' p = some (.lst vs) → RA K F' vs ds → QV (.ref p) H') → te σ H QV
def AOk (ta : TA) (wa : WA) : Prop := ∀ Γ Q, wa Γ Q → ∀ F0 H0 F H σ, Rep K F0 H0 F H σ Γ → ∀ QV : List V → Hp → Prop, (∀ vs ds F' H', Q ds → Ext F H F' H' → RA K F' vs ds → QV vs H') → ta σ H QV
def TOk (tt : TT) (wt : WT) : Prop := ∀ Γ Q, wt Γ Q → ∀ F0 H0 F H σ, Rep K F0 H0 F H σ Γ → ∀ QV : Bool → Hp → Prop, (∀ b F' H', Q b → Ext F H F' H' → QV b H') → tt σ H QV
def OOk (r : R2) (wr : D → D → (D → Prop) → Prop) : Prop := ∀ x y Q, wr x y Q → ∀ F H vx vy, Ex F H → R K F vx x → R K F vy y → ∀ QV : VK, (∀ v d F' H', Q d → Ext F H F' H' → R K F' v d → QV v H') → r vx vy H QV
def UOk (r : V → Hp → VK → Prop) (wr : D → (D → Prop) → Prop) : Prop := ∀ x Q, wr x Q → ∀ F H vx, Ex F H → R K F vx x → ∀ QV : VK, (∀ v d F' H', Q d → Ext F H F' H' → R K F' v d → QV v H') → r vx H QV
/-- a call on data -/
def COk (r : List V → Hp → VK → Prop) (wr : List D → (D → Prop) → Prop) : Prop := ∀ xs Q, wr xs Q → ∀ F H vs, Ex F H → RA K F vs xs → ∀ QV : VK, (∀ v d F' H', Q d → Ext F H F' H' → R K F' v d → QV v H') → r vs H QV
def GOk (g : TG) (wg : WG) (js : List Nat) : Prop := ∀ d Γ Q, wg d Γ Q → ∀ F0 H0 F H σ v, Rep K F0 H0 F H σ Γ → R K F v d → ∀ QS : L2.St → Hp → Prop, (∀ Γ' σ' F' H', Q Γ' → Rep K F0 H0 F' H' σ' Γ' → Ext F H F' H' → (∀ vs : List Nat, (∀ j ∈ js, j ∈ vs) → wipe σ' vs = wipe σ vs) → QS σ' H') → g v σ H QS
def GsOk (g : TGs) (wg : List D → G → (G → Prop) → Prop) (js : List Nat) : Prop := ∀ ds Γ Q, wg ds Γ Q → ∀ F0 H0 F H σ vs, Rep K F0 H0 F H σ Γ → RA K F vs ds → ∀ QS : L2.St → Hp → Prop, (∀ Γ' σ' F' H', Q Γ' → Rep K F0 H0 F' H' σ' Γ' → Ext F H F' H' → (∀ vs : List Nat, (∀ j ∈ js, j ∈ vs) → wipe σ' vs = wipe σ vs) → QS σ' H') → g vs σ H QS
/-- what is wanted behind a statement, told -/
structure Want (F0 H0 : Hp) (P : Po) (E : Ends) : Prop where
  nx : ∀ Γ σ F H, P.nx Γ → Rep K F0 H0 F H σ Γ → E.nx σ H
  rt : ∀ d v F H, P.rt d → Ext F0 H0 F H → R K F v d → E.rt v H
  bk : ∀ Γ σ F H, P.bk Γ → Rep K F0 H0 F H σ Γ → E.bk σ H
  ct : ∀ Γ σ F H, P.ct Γ → Rep K F0 H0 F H σ Γ → E.ct σ H
def SOk (ts : TS) (ws : WS) : Prop := ∀ P Γ, ws P Γ → ∀ F0 H0 F H σ, Rep K F0 H0 F H σ Γ → ∀ E : Ends, Want K F0 H0 P E → ts E σ H
/-- an iterator over things that are known -/
def IsIt (F : Hp) (J : It) (xs : List D) : Prop := ∃ (Gd : Hp → Prop) (Y : Nat → Hp → V → Hp → Prop), Walk J xs.length Gd Y ∧ (∀ F1 H1, Ex F F1 → Ex F1 H1 → Gd H1) ∧ ∀ k F1 H1 v H2, k < xs.length → Ex F F1 → Ex F1 H1 → Y k H1 v H2 → ∃ F2 x, xs[k]? = some x ∧ Ext F1 H1 F2 H2 ∧ R K F2 v x
def IOk (wi : TI) (wit : WA) : Prop := ∀ Γ Q, wit Γ Q → ∀ F0 H0 F H σ, Rep K F0 H0 F H σ Γ → ∀ QI : It → Hp → Prop, (∀ J xs F' H', Q xs → Ext F H F' H' → IsIt K F' J xs → QI J H') → wi σ H QI
end
section
variable {K : PySem.W.Frag}
abbrev wVar (k : Nat) : WE := fun Γ Q => match nth Γ k with
  | .d x => Q x
  | _ => False
theorem e_var {k : Nat} : EOk K (tVar k) (wVar k) := fun Γ Q h F0 H0 F H σ r QV q => by
  unfold wVar at h
  cases e : nth Γ k with
  | u => rw [e] at h; exact h.elim
  | w o => rw [e] at h; exact h.elim
  | d x =>
    rw [e] at h
    obtain ⟨v, hv, rv⟩ := r.sl k x e
    exact ⟨v, hv, q v x F H h (Ext.refl r.fh) rv⟩
abbrev wC (x : D) : WE := fun _ Q => Q x
theorem e_int {i : Int} : EOk K (tC (.int i)) (wC (.i i)) := fun _ _ h _ _ _ _ _ r _ q => q _ _ _ _ h (Ext.refl r.fh) (.i i)
theorem e_bl {b : Bool} : EOk K (tC (.bl b)) (wC (.b b)) := fun _ _ h _ _ _ _ _ r _ q => q _ _ _ _ h (Ext.refl r.fh) (.b b)
theorem e_str {x : Str} : EOk K (tC (.str x)) (wC (.s x)) := fun _ _ h _ _ _ _ _ r _ q => q _ _ _ _ h (Ext.refl r.fh) (.s x)
theorem e_non : EOk K (tC .non) (wC .n) := fun _ _ h _ _ _ _ _ r _ q => q _ _ _ _ h (Ext.refl r.fh) .n
abbrev wOp (wr : D → D → (D → Prop) → Prop) (a b : WE) : WE := fun Γ Q => a Γ fun x => b Γ fun y => wr x y Q
theorem e_op {r : R2} {wr : D → D → (D → Prop) → Prop} {ta tb : TE} {wa wb : WE} (ho : OOk K r wr) (ha : EOk K ta wa) (hb : EOk K tb wb) : EOk K (tOp r ta tb) (wOp wr wa wb) := fun Γ Q h F0 H0 F H σ rp QV q =>
  ha Γ _ h F0 H0 F H σ rp _ fun x dx F1 H1 h1 e1 r1 => hb Γ _ h1 F0 H0 F1 H1 σ (rp.ext e1) _ fun y dy F2 H2 h2 e2 r2 => ho dx dy Q h2 F2 H2 x y e2.fh (r1.mono e2.ff) r2 QV fun v d F3 H3 h3 e3 r3 => q v d F3 H3 h3 ((e1.trans e2).trans e3) r3
abbrev wUn (wr : D → (D → Prop) → Prop) (a : WE) : WE := fun Γ Q => a Γ fun x => wr x Q
theorem e_un {r : V → Hp → VK → Prop} {wr : D → (D → Prop) → Prop} {ta : TE} {wa : WE} (ho : UOk K r wr) (ha : EOk K ta wa) : EOk K (tUn r ta) (wUn wr wa) := fun Γ Q h F0 H0 F H σ rp QV q =>
  ha Γ _ h F0 H0 F H σ rp _ fun x dx F1 H1 h1 e1 r1 => ho dx Q h1 F1 H1 x e1.fh r1 QV fun v d F3 H3 h3 e3 r3 => q v d F3 H3 h3 (e1.trans e3) r3
abbrev wNil : WA := fun _ Q => Q []
abbrev wCons (a : WE) (r : WA) : WA := fun Γ Q => a Γ fun x => r Γ fun xs => Q (x :: xs)
theorem a_nil : AOk K tNil wNil := fun _ _ h _ _ _ _ _ r _ q => q _ _ _ _ h (Ext.refl r.fh) .nil
theorem a_cons {ta : TE} {tr : TA} {wa : WE} {wr : WA} (ha : EOk K ta wa) (hr : AOk K tr wr) : AOk K (tCons ta tr) (wCons wa wr) := fun Γ Q h F0 H0 F H σ rp QV q =>
  ha Γ _ h F0 H0 F H σ rp _ fun x dx F1 H1 h1 e1 r1 => hr Γ _ h1 F0 H0 F1 H1 σ (rp.ext e1) _ fun vs ds F2 H2 h2 e2 r2 => q _ _ F2 H2 h2 (e1.trans e2) (.cons (r1.mono e2.ff) r2)
/-- (a, b, ..): short ones, whose size shows -/
abbrev wTup (a : WA) : WE := fun Γ Q => a Γ fun xs => xs.length ≤ 100000 ∧ Q (.t xs)
theorem e_tup {ta : TA} {wa : WA} (ha : AOk K ta wa) : EOk K (tTup ta) (wTup wa) := fun Γ Q h F0 H0 F H σ rp QV q =>
  ha Γ _ h F0 H0 F H σ rp _ fun vs ds F1 H1 h1 e1 r1 => ⟨sz_of (by rw [r1.len]; exact h1.1), fun p hp => q _ _ _ _ h1.2 (e1.trans (Ext.new e1.fh hp)) (.t (st_of upd_same) (r1.mono (Ex.new (fresh_back e1.fh hp))))⟩
abbrev wLst (a : WA) : WA := fun Γ Q => a Γ fun xs => xs.length ≤ 100000 ∧ Q xs
theorem f_lst {ta : TA} {wa : WA} (ha : AOk K ta wa) : FOk K (tLst ta) (wLst wa) := fun Γ Q h F0 H0 F H σ rp QV q =>
  ha Γ _ h F0 H0 F H σ rp _ fun vs ds F1 H1 h1 e1 r1 => ⟨sz_of (by rw [r1.len]; exact h1.1), fun p hp => q p vs ds F1 _ h1.2 (e1.trans (Ext.heap e1.fh (Ex.new hp))) (ExT.back e1.hh hp) (fresh_back e1.fh hp) upd_same r1⟩
abbrev wF (f : WA) : WE := fun Γ Q => f Γ fun xs => Q (.l xs)
/-- a new list, as data -/
theorem e_f {te : TE} {wf : WA} (h : FOk K te wf) : EOk K te (wF wf) := fun Γ Q hq F0 H0 F H σ rp QV q =>
  h Γ _ hq F0 H0 F H σ rp _ fun p vs ds F1 H1 h1 e1 hp hf hp1 r1 => q _ _ (upd F1 p (.lst vs)) H1 h1
    ⟨e1.ff.trans (Ex.new hf), e1.hh, ex_told e1.fh hp1, e1.tb.told, fun a o z n => by
      by_cases y : a = p
      · rw [y]
        exact hp
      · rw [upd_ne y] at z
        exact e1.nw a o z n⟩ (.l upd_same (r1.mono (Ex.new hf)))
/-- a built-in called on data -/
abbrev wCB (wr : List D → (D → Prop) → Prop) (a : WA) : WE := fun Γ Q => a Γ fun xs => wr xs Q
theorem e_cb {r : List V → Hp → VK → Prop} {wr : List D → (D → Prop) → Prop} {ta : TA} {wa : WA} (hc : COk K r wr) (ha : AOk K ta wa) : EOk K (tCB r ta) (wCB wr wa) := fun Γ Q h F0 H0 F H σ rp QV q =>
  ha Γ _ h F0 H0 F H σ rp _ fun vs ds F1 H1 h1 e1 r1 => hc ds Q h1 F1 H1 vs e1.fh r1 QV fun v d F3 H3 h3 e3 r3 => q v d F3 H3 h3 (e1.trans e3) r3
abbrev wTest (a : WE) : WT := fun Γ Q => a Γ fun x => match x with
  | .b c => Q c
  | _ => False
theorem t_test {te : TE} {we : WE} (h : EOk K te we) : TOk K (tTest te) (wTest we) := fun Γ Q hq F0 H0 F H σ rp QV q =>
  h Γ _ hq F0 H0 F H σ rp _ fun v d F1 H1 h1 e1 r1 => by
    cases r1 with
    | b c => exact ⟨c, rfl, q c F1 H1 h1 e1⟩
    | _ => exact h1.elim
theorem t_B {te : TE} {we : WE} (h : EOk K te we) : TOk K (tB te) (wTest we) := fun Γ Q hq F0 H0 F H σ rp QV q =>
  h Γ _ hq F0 H0 F H σ rp _ fun v d F1 H1 h1 e1 r1 => by
    cases r1 with
    | b c => exact ⟨c, rfl, q c F1 H1 h1 e1⟩
    | _ => exact h1.elim
abbrev wAnd (a b : WT) : WT := fun Γ Q => a Γ fun c => (c = true → b Γ Q) ∧ (c = false → Q false)
abbrev wOr (a b : WT) : WT := fun Γ Q => a Γ fun c => (c = true → Q true) ∧ (c = false → b Γ Q)
abbrev wNot (a : WT) : WT := fun Γ Q => a Γ fun c => Q (!c)
abbrev wYes : WT := fun _ Q => Q true
theorem t_and {t u : TT} {a b : WT} (h1 : TOk K t a) (h2 : TOk K u b) : TOk K (tAnd t u) (wAnd a b) := fun Γ Q hq F0 H0 F H σ rp QV q =>
  h1 Γ _ hq F0 H0 F H σ rp _ fun c F1 H1 z e1 => by
    cases c with
    | true =>
      show u σ H1 QV
      exact h2 Γ Q (z.1 rfl) F0 H0 F1 H1 σ (rp.ext e1) QV fun b F2 H2 z2 e2 => q b F2 H2 z2 (e1.trans e2)
    | false =>
      show QV false H1
      exact q _ F1 H1 (z.2 rfl) e1
theorem t_or {t u : TT} {a b : WT} (h1 : TOk K t a) (h2 : TOk K u b) : TOk K (tOr t u) (wOr a b) := fun Γ Q hq F0 H0 F H σ rp QV q =>
  h1 Γ _ hq F0 H0 F H σ rp _ fun c F1 H1 z e1 => by
    cases c with
    | false =>
      show u σ H1 QV
      exact h2 Γ Q (z.2 rfl) F0 H0 F1 H1 σ (rp.ext e1) QV fun b F2 H2 z2 e2 => q b F2 H2 z2 (e1.trans e2)
    | true =>
      show QV true H1
      exact q _ F1 H1 (z.1 rfl) e1
theorem t_not {t : TT} {a : WT} (h1 : TOk K t a) : TOk K (tNot t) (wNot a) := fun Γ Q hq F0 H0 F H σ rp QV q =>
  h1 Γ _ hq F0 H0 F H σ rp _ fun c F1 H1 z e1 => q _ F1 H1 z e1
theorem t_yes : TOk K tYes wYes := fun Γ Q hq F0 H0 F H σ rp QV q => q true F H hq (Ext.refl rp.fh)
abbrev wIfE (c : WT) (a b : WE) : WE := fun Γ Q => c Γ fun x => (x = true → a Γ Q) ∧ (x = false → b Γ Q)
theorem e_if {t : TT} {ta tb : TE} {c : WT} {a b : WE} (h : TOk K t c) (h1 : EOk K ta a) (h2 : EOk K tb b) : EOk K (tIf t ta tb) (wIfE c a b) := fun Γ Q hq F0 H0 F H σ rp QV q =>
  h Γ _ hq F0 H0 F H σ rp _ fun c F1 H1 z e1 => by
    cases c with
    | true =>
      show ta σ H1 QV
      exact h1 Γ Q (z.1 rfl) F0 H0 F1 H1 σ (rp.ext e1) QV fun v d F2 H2 z2 e2 r => q v d F2 H2 z2 (e1.trans e2) r
    | false =>
      show tb σ H1 QV
      exact h2 Γ Q (z.2 rfl) F0 H0 F1 H1 σ (rp.ext e1) QV fun v d F2 H2 z2 e2 r => q v d F2 H2 z2 (e1.trans e2) r
abbrev wAndV (a b : WE) : WE := fun Γ Q => a Γ fun x => match x with
  | .b c => (c = true → b Γ Q) ∧ (c = false → Q (.b false))
  | _ => False
abbrev wNotV (a : WE) : WE := fun Γ Q => a Γ fun x => match x with
  | .b c => Q (.b (!c))
  | _ => False
theorem e_andV {ta tb : TE} {a b : WE} (h1 : EOk K ta a) (h2 : EOk K tb b) : EOk K (tAndV ta tb) (wAndV a b) := fun Γ Q hq F0 H0 F H σ rp QV q =>
  h1 Γ _ hq F0 H0 F H σ rp _ fun v d F1 H1 z e1 r1 => by
    cases r1 with
    | b c =>
      refine ⟨c, rfl, ?_⟩
      cases c with
      | true =>
        show tb σ H1 QV
        exact h2 Γ Q (z.1 rfl) F0 H0 F1 H1 σ (rp.ext e1) QV fun v d F2 H2 z2 e2 r => q v d F2 H2 z2 (e1.trans e2) r
      | false =>
        show QV (.bl false) H1
        exact q _ _ F1 H1 (z.2 rfl) e1 (.b _)
    | _ => exact z.elim
theorem e_notV {ta : TE} {a : WE} (h1 : EOk K ta a) : EOk K (tNotV ta) (wNotV a) := fun Γ Q hq F0 H0 F H σ rp QV q =>
  h1 Γ _ hq F0 H0 F H σ rp _ fun v d F1 H1 z e1 r1 => by
    cases r1 with
    | b c => exact ⟨c, rfl, q _ _ F1 H1 z e1 (.b _)⟩
    | _ => exact z.elim
/-- a < b < c -/
abbrev wChain (r r' : D → D → (D → Prop) → Prop) (a b c : WE) : WE := fun Γ Q => a Γ fun x => b Γ fun y => r x y fun z => match z with
  | .b k => (k = true → c Γ fun w => r' y w Q) ∧ (k = false → Q (.b false))
  | _ => False
theorem e_chain {r r' : R2} {wr wr' : D → D → (D → Prop) → Prop} {ta tb tc : TE} {a b c : WE} (ho : OOk K r wr) (ho' : OOk K r' wr') (h1 : EOk K ta a) (h2 : EOk K tb b) (h3 : EOk K tc c) : EOk K (tChain r r' ta tb tc) (wChain wr wr' a b c) := fun Γ Q hq F0 H0 F H σ rp QV q =>
  h1 Γ _ hq F0 H0 F H σ rp _ fun x dx F1 H1 z1 e1 r1 => h2 Γ _ z1 F0 H0 F1 H1 σ (rp.ext e1) _ fun y dy F2 H2 z2 e2 r2 => ho dx dy _ z2 F2 H2 x y e2.fh (r1.mono e2.ff) r2 _ fun v d F3 H3 z3 e3 r3 => by
    have e13 := (e1.trans e2).trans e3
    cases r3 with
    | b k =>
      refine ⟨k, rfl, ?_⟩
      cases k with
      | true =>
        show tc σ H3 _
        exact h3 Γ _ (z3.1 rfl) F0 H0 F3 H3 σ (rp.ext e13) _ fun w dw F4 H4 z4 e4 r4 => ho' dy dw Q z4 F4 H4 y w e4.fh ((r2.mono e3.ff).mono e4.ff) r4 QV fun v d F5 H5 z5 e5 r5 => q v d F5 H5 z5 ((e13.trans e4).trans e5) r5
      | false =>
        show QV (.bl false) H3
        exact q _ _ F3 H3 (z3.2 rfl) e13 (.b _)
    | _ => exact z3.elim
abbrev wI2 (C : Int → Int → Prop) (f : Int → Int → D) : D → D → (D → Prop) → Prop := fun x y Q => match x, y with
  | .i a, .i b => C a b ∧ Q (f a b)
  | _, _ => False
abbrev wI20 (f : Int → Int → D) : D → D → (D → Prop) → Prop := fun x y Q => match x, y with
  | .i a, .i b => Q (f a b)
  | _, _ => False
theorem o_I {C : Int → Int → Prop} {g : Int → Int → V} {f : Int → Int → D} (h : ∀ F a b, R K F (g a b) (f a b)) : OOk K (rI C g) (wI2 C f) := fun x y Q hq F H vx vy e rx ry QV q => by
  cases rx with
  | i a =>
    cases ry with
    | i b => exact ⟨a, b, rfl, rfl, hq.1, q _ _ F H hq.2 (Ext.refl e) (h F a b)⟩
    | _ => exact hq.elim
  | _ => cases ry <;> exact hq.elim
theorem o_I0 {g : Int → Int → V} {f : Int → Int → D} (h : ∀ F a b, R K F (g a b) (f a b)) : OOk K (rI0 g) (wI20 f) := fun x y Q hq F H vx vy e rx ry QV q => by
  cases rx with
  | i a =>
    cases ry with
    | i b => exact ⟨a, b, rfl, rfl, q _ _ F H hq (Ext.refl e) (h F a b)⟩
    | _ => exact hq.elim
  | _ => cases ry <;> exact hq.elim
theorem o_add : OOk K (rI0 fun i j => .int (i + j)) (wI20 fun a b => .i (a + b)) := o_I0 fun F a b => .i _
theorem o_sub : OOk K (rI0 fun i j => .int (i - j)) (wI20 fun a b => .i (a - b)) := o_I0 fun F a b => .i _
theorem o_mul : OOk K (rI CMul fun i j => .int (i * j)) (wI2 CMul fun a b => .i (a * b)) := o_I fun F a b => .i _
theorem o_fdiv : OOk K (rI CDiv fun i j => .int (i / j)) (wI2 CDiv fun a b => .i (a / b)) := o_I fun F a b => .i _
theorem o_mod : OOk K (rI (fun _ j => 0 < j) fun i j => .int (i % j)) (wI2 (fun _ j => 0 < j) fun a b => .i (a % b)) := o_I fun F a b => .i _
theorem o_pow : OOk K (rI CPow fun i j => .int (i ^ j.toNat)) (wI2 CPow fun a b => .i (a ^ b.toNat)) := o_I fun F a b => .i _
theorem o_lt : OOk K (rI0 fun i j => .bl (decide (i < j))) (wI20 fun a b => .b (decide (a < b))) := o_I0 fun F a b => .b _
theorem o_le : OOk K (rI0 fun i j => .bl (decide (i ≤ j))) (wI20 fun a b => .b (decide (a ≤ b))) := o_I0 fun F a b => .b _
theorem o_gt : OOk K (rI0 fun i j => .bl (decide (j < i))) (wI20 fun a b => .b (decide (b < a))) := o_I0 fun F a b => .b _
theorem o_ge : OOk K (rI0 fun i j => .bl (decide (j ≤ i))) (wI20 fun a b => .b (decide (b ≤ a))) := o_I0 fun F a b => .b _
/-- == of scalars of one kind; of None and others -/
def eqS : D → D → Option Bool
  | .i a, .i b => some (decide (a = b))
  | .b a, .b b => some (decide (a = b))
  | .s a, .s b => some (decide (a = b))
  | .n, .n => some true
  | .n, .i _ => some false
  | .i _, .n => some false
  | _, _ => none
def wEqS : D → D → (D → Prop) → Prop := fun x y Q => match eqS x y with
  | some c => Q (.b c)
  | none => False
def wNeS : D → D → (D → Prop) → Prop := fun x y Q => match eqS x y with
  | some c => Q (.b (!c))
  | none => False
theorem eqS_ok {F : Hp} {x y : D} {vx vy : V} {c : Bool} (rx : R K F vx x) (ry : R K F vy y) (h : eqS x y = some c) : scal vx vy = true ∧ decide (vx = vy) = c := by
  cases rx <;> cases ry <;> first
    | (cases h; done)
    | (cases h; exact ⟨rfl, by first | rfl | simp⟩)
theorem o_eqS : OOk K rEq wEqS := fun x y Q hq F H vx vy e rx ry QV q => by
  unfold wEqS at hq
  cases h : eqS x y with
  | none => rw [h] at hq; exact hq.elim
  | some c =>
    rw [h] at hq
    obtain ⟨h1, h2⟩ := eqS_ok rx ry h
    refine ⟨h1, ?_⟩
    rw [h2]
    exact q _ _ F H hq (Ext.refl e) (.b _)
theorem o_neS : OOk K rNe wNeS := fun x y Q hq F H vx vy e rx ry QV q => by
  unfold wNeS at hq
  cases h : eqS x y with
  | none => rw [h] at hq; exact hq.elim
  | some c =>
    rw [h] at hq
    obtain ⟨h1, h2⟩ := eqS_ok rx ry h
    refine ⟨h1, ?_⟩
    rw [h2]
    exact q _ _ F H hq (Ext.refl e) (.b _)
mutual
def py : D → Option PyData
  | .n => some .none
  | .b v => some (.bool v)
  | .i v => some (.int v)
  | .s v => some (.str v)
  | .t xs => (pyA xs).map .tuple
  | .l xs => (pyA xs).map .list
  | .o _ _ _ => none
  | .j => none
  | .p _ => none
  | .c _ => none
  | .T _ => none
  | .q _ => none
  | .r _ _ _ _ => none
def pyA : List D → Option (List PyData)
  | [] => some []
  | x :: xs => (py x).bind fun d => (pyA xs).map fun ds => d :: ds
end
mutual
theorem R.dp {F H : Hp} (e : Ex F H) : ∀ {v : V} {x : D} {d : PyData}, R K F v x → py x = some d → Dp K H v d
  | _, _, _, .n, h => by
    simp only [py] at h
    cases h
    exact .non
  | _, _, _, .b v, h => by
    simp only [py] at h
    cases h
    exact .bl _
  | _, _, _, .i v, h => by
    simp only [py] at h
    cases h
    exact .int _
  | _, _, _, .s v, h => by
    simp only [py] at h
    cases h
    exact .str _
  | _, .t xs, _, .t h1 r, h => by
    simp only [py] at h
    cases q : pyA xs with
    | none => rw [q] at h; cases h
    | some ds =>
      rw [q] at h
      cases h
      exact .tup (ex_t e h1) (RA.dp e r q)
  | _, .l xs, _, .l h1 r, h => by
    simp only [py] at h
    cases q : pyA xs with
    | none => rw [q] at h; cases h
    | some ds =>
      rw [q] at h
      cases h
      exact .lst (sq_of (e _ _ h1)) (RA.dp e r q)
  | _, _, _, .o _ _ _ _, h => by
    simp only [py] at h
    cases h
  | _, _, _, .j _, h => by
    simp only [py] at h
    cases h
  | _, _, _, .p _ _, h => by
    simp only [py] at h
    cases h
  | _, _, _, .c _, h => by
    simp only [py] at h
    cases h
  | _, _, _, .T _ _ _, h => by
    simp only [py] at h
    cases h
  | _, _, _, .q _ _, h => by
    simp only [py] at h
    cases h
  | _, _, _, .r0 _, h => by
    simp only [py] at h
    cases h
  | _, _, _, .r _ _ _, h => by
    simp only [py] at h
    cases h
theorem RA.dp {F H : Hp} (e : Ex F H) : ∀ {vs : List V} {xs : List D} {ds : List PyData}, RA K F vs xs → pyA xs = some ds → DpAll K H vs ds
  | _, _, _, .nil, h => by
    simp only [pyA] at h
    cases h
    exact .nil
  | _, x :: xs, _, .cons h1 r, h => by
    simp only [pyA] at h
    cases q : py x with
    | none => rw [q] at h; cases h
    | some d =>
      cases q2 : pyA xs with
      | none => rw [q, q2] at h; cases h
      | some ds =>
        rw [q, q2] at h
        cases h
        exact .cons (R.dp e h1 q) (RA.dp e r q2)
end
/-- == of data, deep -/
def wEqD : D → D → (D → Prop) → Prop := fun x y Q => ∃ d e, py x = some d ∧ py y = some e ∧ SeqAt.shaped d = true ∧ SeqAt.shaped e = true ∧ Q (.b (PyData.eqv d e))
def wNeD : D → D → (D → Prop) → Prop := fun x y Q => ∃ d e, py x = some d ∧ py y = some e ∧ SeqAt.shaped d = true ∧ SeqAt.shaped e = true ∧ Q (.b (!PyData.eqv d e))
theorem o_eqD : OOk K (rEqD K) wEqD := fun x y Q ⟨d, e, h1, h2, s1, s2, hq⟩ F H vx vy x' rx ry QV q => ⟨d, e, rx.dp x' h1, ry.dp x' h2, s1, s2, q _ _ F H hq (Ext.refl x') (.b _)⟩
theorem o_neD : OOk K (rNeD K) wNeD := fun x y Q ⟨d, e, h1, h2, s1, s2, hq⟩ F H vx vy x' rx ry QV q => ⟨d, e, rx.dp x' h1, ry.dp x' h2, s1, s2, q _ _ F H hq (Ext.refl x') (.b _)⟩
/-- x[i] -/
abbrev wIxT : D → D → (D → Prop) → Prop := fun x y Q => match x, y with
  | .t xs, .i k => ∃ z, atI xs k = some z ∧ Q z
  | _, _ => False
abbrev wIxL : D → D → (D → Prop) → Prop := fun x y Q => match x, y with
  | .l xs, .i k => ∃ z, atI xs k = some z ∧ Q z
  | _, _ => False
theorem RA.atI {F : Hp} {vs : List V} {xs : List D} {k : Int} {z : D} (r : RA K F vs xs) (h : L2.atI xs k = some z) : ∃ v, L2.atI vs k = some v ∧ R K F v z := by
  unfold L2.atI at h ⊢
  rw [r.len]
  cases q : ixN xs.length k with
  | none => rw [q] at h; cases h
  | some m =>
    rw [q] at h
    exact RA.get' (k := m) r h
theorem o_ixT : OOk K (rIxT K) wIxT := fun x y Q hq F H vx vy e rx ry QV q => by
  cases rx with
  | @t p vs xs h1 r =>
    cases ry with
    | i k =>
      obtain ⟨z, hz, hq⟩ := hq
      obtain ⟨v, hv, rv⟩ := r.atI hz
      exact ⟨p, vs, k, v, rfl, rfl, ex_t e h1, hv, q _ _ F H hq (Ext.refl e) rv⟩
    | _ => exact hq.elim
  | _ => cases ry <;> exact hq.elim
theorem o_ixL : OOk K (rIxL K) wIxL := fun x y Q hq F H vx vy e rx ry QV q => by
  cases rx with
  | @l p vs xs h1 r =>
    cases ry with
    | i k =>
      obtain ⟨z, hz, hq⟩ := hq
      obtain ⟨v, hv, rv⟩ := r.atI hz
      exact ⟨p, vs, k, v, rfl, rfl, sq_of (e _ _ h1), hv, q _ _ F H hq (Ext.refl e) rv⟩
    | _ => exact hq.elim
  | _ => cases ry <;> exact hq.elim
abbrev wNeg : D → (D → Prop) → Prop := fun x Q => match x with
  | .i a => Q (.i (-a))
  | _ => False
theorem u_neg : UOk K (rU fun i => .int (-i)) wNeg := fun x Q hq F H vx e rx QV q => by
  cases rx with
  | i a => exact ⟨a, rfl, q _ _ F H hq (Ext.refl e) (.i _)⟩
  | _ => exact hq.elim
abbrev wInt1 : List D → (D → Prop) → Prop := fun xs Q => match xs with
  | [.i a] => Q (.i a)
  | _ => False
theorem c_int1 : COk K (fun xs H Q => (∃ i, xs = [V.int i] ∧ Q (V.int i) H) ∨ ∃ k, xs = [V.bl k] ∧ Q (V.int (if k = true then 1 else 0)) H) wInt1 := fun xs Q hq F H vs e r QV q => by
  cases r with
  | nil => exact hq.elim
  | cons a r =>
    cases r with
    | cons _ _ => cases a <;> exact hq.elim
    | nil =>
      cases a with
      | i a => exact .inl ⟨a, rfl, q _ _ F H hq (Ext.refl e) (.i _)⟩
      | _ => exact hq.elim
abbrev wAbs : List D → (D → Prop) → Prop := fun xs Q => match xs with
  | [.i a] => Q (.i (if a < 0 then -a else a))
  | _ => False
theorem c_abs : COk K (fun xs H Q => ∃ i, xs = [V.int i] ∧ Q (V.int (if i < 0 then -i else i)) H) wAbs := fun xs Q hq F H vs e r QV q => by
  cases r with
  | nil => exact hq.elim
  | cons a r =>
    cases r with
    | cons _ _ => cases a <;> exact hq.elim
    | nil =>
      cases a with
      | i a => exact ⟨a, rfl, q _ _ F H hq (Ext.refl e) (.i _)⟩
      | _ => exact hq.elim
abbrev wLen : List D → (D → Prop) → Prop := fun xs Q => match xs with
  | [.t ys] => Q (.i (ys.length : Nat))
  | [.l ys] => Q (.i (ys.length : Nat))
  | [.s y] => y.length ≤ 100000 ∧ Q (.i (y.length : Nat))
  | [.c ns] => Q (.i (ns.length : Nat))
  | _ => False
theorem c_len : COk K (fun xs H Q => ∃ x n, xs = [x] ∧ LenV K x H n ∧ Q (.int n) H) wLen := fun xs Q hq F H vs e r QV q => by
  cases r with
  | nil => exact hq.elim
  | cons a r =>
    cases r with
    | cons _ _ => cases a <;> exact hq.elim
    | nil =>
      cases a with
      | t h r => exact ⟨_, _, rfl, .inr ⟨_, ex_t e h, rfl⟩, q _ _ F H (by rw [r.len]; exact hq) (Ext.refl e) (.i _)⟩
      | l h r => exact ⟨_, _, rfl, .inl ⟨_, sq_of (e _ _ h), rfl⟩, q _ _ F H (by rw [r.len]; exact hq) (Ext.refl e) (.i _)⟩
      | s y => exact ⟨_, _, rfl, ⟨sz_of hq.1, rfl⟩, q _ _ F H hq.2 (Ext.refl e) (.i _)⟩
      | c h => exact ⟨_, _, rfl, .inl ⟨_, ex_l e h, rfl⟩, q _ _ F H (by rw [List.length_map]; exact hq) (Ext.refl e) (.i _)⟩
      | _ => exact hq.elim
def wAll : List D → (D → Prop) → Prop := fun xs Q => match xs with
  | [.l ys] => ∃ bs : List Bool, ys = bs.map D.b ∧ Q (.b (bs.all id))
  | _ => False
theorem RA.bools {F : Hp} : ∀ {vs : List V} {bs : List Bool}, RA K F vs (bs.map D.b) → vs = bs.map V.bl
  | _, [], .nil => rfl
  | _, b :: bs, .cons a r => by
    cases a
    rw [RA.bools r]
    rfl
theorem RA.toInts {F : Hp} : ∀ {vs : List V} {ns : List Int}, RA K F vs (ns.map D.i) → vs = ns.map V.int
  | _, [], .nil => rfl
  | _, b :: bs, .cons a r => by
    cases a
    rw [RA.toInts r]
    rfl
theorem c_all : COk K (rAll K) wAll := fun xs Q hq F H vs e r QV q => by
  cases r with
  | nil => exact hq.elim
  | cons a r =>
    cases r with
    | cons _ _ => cases a <;> exact hq.elim
    | nil =>
      cases a with
      | @l p vs xs h r =>
        obtain ⟨bs, rfl, hq⟩ := hq
        have := r.bools
        subst this
        exact ⟨p, bs, rfl, sq_of (e _ _ h), q _ _ F H hq (Ext.refl e) (.b _)⟩
      | _ => exact hq.elim
/-- data as plain data, the two dicts as well -/
def pyQ : D → Option PyData
  | .q false => some (.dict [])
  | .q true => some (.dict [(.str "a", .int 1)])
  | x => py x
theorem pyQ_of {x : D} {d : PyData} (h : py x = some d) : pyQ x = some d := by
  cases x with
  | q k => simp only [py] at h; cases h
  | _ => exact h
theorem R.dr {F H : Hp} (e : Ex F H) {v : V} {x : D} {d : PyData} (r : R K F v x) (h : pyQ x = some d) : Dr K H v d := by
  cases r with
  | @q p k hp =>
    cases k with
    | false =>
      cases h
      exact .inr ⟨p, [], [], rfl, e _ _ hp, rfl, (fun _ z => by cases z), .nil⟩
    | true =>
      cases h
      exact .inr ⟨p, _, _, rfl, e _ _ hp, rfl, (fun z hz => by
        rcases List.mem_singleton.mp hz with rfl
        rfl), .cons ⟨.str _, .int 1⟩ .nil⟩
  | n => exact .inl (R.dp e .n h)
  | b v => exact .inl (R.dp e (.b v) h)
  | i v => exact .inl (R.dp e (.i v) h)
  | s v => exact .inl (R.dp e (.s v) h)
  | t a b => exact .inl (R.dp e (.t a b) h)
  | l a b => exact .inl (R.dp e (.l a b) h)
  | o a b c d => exact .inl (R.dp e (.o a b c d) h)
  | j a => exact .inl (R.dp e (.j a) h)
  | p k a => exact .inl (R.dp e (.p k a) h)
  | c a => exact .inl (R.dp e (.c a) h)
  | T a b c => exact .inl (R.dp e (.T a b c) h)
  | r0 => cases h
  | r => cases h
def wRepr : List D → (D → Prop) → Prop := fun xs Q => match xs with
  | [x] => ∃ d, pyQ x = some d ∧ d.showable = true ∧ d.depth ≤ 32 ∧ d.shown.length ≤ sizeLine ∧ Q (.s d.shown)
  | _ => False
theorem c_repr : COk K (rRepr K) wRepr := fun xs Q hq F H vs e r QV q => by
  cases r with
  | nil => exact hq.elim
  | cons a r =>
    cases r with
    | cons _ _ => exact hq.elim
    | nil =>
      obtain ⟨d, h1, h2, h3, h4, hq⟩ := hq
      exact ⟨_, d, rfl, R.dr e a h1, h2, h3, h4, q _ _ F H hq (Ext.refl e) (.s _)⟩
end
end DL
namespace DL
variable [DL.TabsT]
open PySem PySem.Spec PyProof.Rows L2 Evl Lay ErrX
section
variable {K : PySem.W.Frag}
abbrev wgName (k : Nat) : WG := fun d Γ Q => Q (put Γ k (.d d))
theorem wipe_set_mem {σ : L2.St} {k : Nat} {o : Option V} : ∀ {vs : List Nat}, k ∈ vs → wipe (σ.set k o) vs = wipe σ vs
  | [], h => absurd h (by simp)
  | v :: vs, h => by
    by_cases e : k ∈ vs
    · show (wipe (σ.set k o) vs).set v none = (wipe σ vs).set v none
      rw [wipe_set_mem e]
    · have hv : k = v := by
        rcases List.mem_cons.mp h with z | z
        · exact z
        · exact absurd z e
      subst hv
      have gen : ∀ vs : List Nat, k ∉ vs → wipe (σ.set k o) vs = (wipe σ vs).set k o := by
        intro vs
        induction vs with
        | nil => intro _; rfl
        | cons u us ih =>
          intro hu
          have h1 : k ≠ u := fun z => hu (by rw [z]; exact List.mem_cons_self ..)
          have h2 : k ∉ us := fun z => hu (List.mem_cons_of_mem _ z)
          show (wipe (σ.set k o) us).set u none = ((wipe σ us).set u none).set k o
          rw [ih h2, List.set_comm _ _ h1]
      show (wipe (σ.set k o) vs).set k none = (wipe σ vs).set k none
      rw [gen vs e, List.set_set]
theorem wipe_sub {σ : L2.St} {vs : List Nat} : ∀ {us : List Nat}, (∀ u ∈ us, u ∈ vs) → wipe (wipe σ us) vs = wipe σ vs
  | [], _ => rfl
  | u :: us, h => by
    show wipe ((wipe σ us).set u none) vs = _
    rw [wipe_set_mem (h u (List.mem_cons_self ..)), wipe_sub fun w hw => h w (List.mem_cons_of_mem _ hw)]
theorem wipe_twice (σ : L2.St) (vs : List Nat) : wipe (wipe σ vs) vs = wipe σ vs := wipe_sub fun _ h => h
theorem g_name {k : Nat} : GOk K (gName k) (wgName k) [k] := fun d Γ Q h F0 H0 F H σ v r rv QS q => q _ _ F H h (r.set rv) (Ext.refl r.fh) fun vs hv => wipe_set_mem (hv k (List.mem_cons_self ..))
abbrev wgNil : List D → G → (G → Prop) → Prop := fun ds Γ Q => match ds with
  | [] => Q Γ
  | _ => False
abbrev wgCons (g : WG) (gs : List D → G → (G → Prop) → Prop) : List D → G → (G → Prop) → Prop := fun ds Γ Q => match ds with
  | d :: r => g d Γ fun Γ' => gs r Γ' Q
  | _ => False
theorem gs_nil : GsOk K gNil wgNil [] := fun ds Γ Q h F0 H0 F H σ vs r rv QS q => by
  cases rv with
  | nil => exact ⟨rfl, q _ _ F H h r (Ext.refl r.fh) fun _ _ => rfl⟩
  | cons _ _ => exact h.elim
theorem gs_cons {g : TG} {gs : TGs} {wg : WG} {wgs : List D → G → (G → Prop) → Prop} {js ks : List Nat} (h1 : GOk K g wg js) (h2 : GsOk K gs wgs ks) : GsOk K (gCons g gs) (wgCons wg wgs) (js ++ ks) := fun ds Γ Q h F0 H0 F H σ vs r rv QS q => by
  cases rv with
  | nil => exact h.elim
  | @cons v d vs ds a rr =>
    refine ⟨v, vs, rfl, h1 d Γ _ h F0 H0 F H σ v r a _ fun Γ1 σ1 F1 H1 z1 r1 e1 w1 => h2 ds Γ1 _ z1 F0 H0 F1 H1 σ1 vs r1 (rr.mono e1.ff) _ fun Γ2 σ2 F2 H2 z2 r2 e2 w2 => q Γ2 σ2 F2 H2 z2 r2 (e1.trans e2) fun us hu => ?_⟩
    rw [w2 us fun j hj => hu j (List.mem_append_right _ hj), w1 us fun j hj => hu j (List.mem_append_left _ hj)]
abbrev wgTup (n : Nat) (gs : List D → G → (G → Prop) → Prop) : WG := fun d Γ Q => match d with
  | .t xs => xs.length = n ∧ gs xs Γ Q
  | _ => False
theorem g_tup {n : Nat} {gs : TGs} {wgs : List D → G → (G → Prop) → Prop} {js : List Nat} (h1 : GsOk K gs wgs js) : GOk K (gTup K n gs) (wgTup n wgs) js := fun d Γ Q h F0 H0 F H σ v r rv QS q => by
  cases rv with
  | @t p vs xs a rr => exact ⟨p, vs, rfl, ex_t r.fh a, by rw [rr.len]; exact h.1, h1 xs Γ Q h.2 F0 H0 F H σ vs r rr QS q⟩
  | _ => exact h.elim
abbrev wNext : WS := fun P Γ => P.nx Γ
theorem s_next : SOk K tNext wNext := fun P Γ h F0 H0 F H σ r E w => w.nx _ _ _ _ h r
abbrev wSeq (a b : WS) : WS := fun P Γ => a { P with nx := b P } Γ
theorem s_seq {t u : TS} {a b : WS} (h1 : SOk K t a) (h2 : SOk K u b) : SOk K (tSeq t u) (wSeq a b) := fun P Γ h F0 H0 F H σ r E w =>
  h1 _ Γ h F0 H0 F H σ r { E with nx := u E } ⟨fun Γ' σ' F' H' z r' => h2 P Γ' z F0 H0 F' H' σ' r' E w, w.rt, w.bk, w.ct⟩
abbrev wAsg (e : WE) (g : WG) : WS := fun P Γ => e Γ fun d => g d Γ P.nx
theorem s_asg {te : TE} {tg : TG} {we : WE} {wg : WG} {js : List Nat} (h : EOk K te we) (hg : GOk K tg wg js) : SOk K (tAsg te tg) (wAsg we wg) := fun P Γ hq F0 H0 F H σ r E w =>
  h Γ _ hq F0 H0 F H σ r _ fun v d F1 H1 z e1 rv => hg d Γ _ z F0 H0 F1 H1 σ v (r.ext e1) rv _ fun Γ2 σ2 F2 H2 z2 r2 _ _ => w.nx _ _ _ _ z2 r2
/-- x = a new list that is changed later -/
abbrev wAsgO (f : WA) (k : Nat) : WS := fun P Γ => f Γ fun xs => P.nx (put Γ k (.ol xs))
theorem s_asgO {te : TE} {wf : WA} {k : Nat} (h : FOk K te wf) : SOk K (tAsg te (gName k)) (wAsgO wf k) := fun P Γ hq F0 H0 F H σ r E w =>
  h Γ _ hq F0 H0 F H σ r _ fun p vs ds F1 H1 z e1 hp hf h1 ra => w.nx _ _ _ _ z ((r.ext e1).setO hf (ExT.back r.h0 hp) h1 ra fun m ys _ q s => by
    obtain ⟨p', _, a, _, _, d, nf⟩ := r.ow m ys q
    rw [s] at a
    cases a
    exact Free.not hp d nf.nt.1)
abbrev wRet (e : WE) : WS := fun P Γ => e Γ P.rt
theorem s_ret {te : TE} {we : WE} (h : EOk K te we) : SOk K (tRet te) (wRet we) := fun P Γ hq F0 H0 F H σ r E w =>
  h Γ _ hq F0 H0 F H σ r _ fun v d F1 H1 z e1 rv => w.rt _ _ _ _ z (r.ext0.trans e1) rv
abbrev wIf (c : WT) (a b : WS) : WS := fun P Γ => c Γ fun x => (x = true → a P Γ) ∧ (x = false → b P Γ)
theorem s_if {t : TT} {tu tw : TS} {c : WT} {a b : WS} (h : TOk K t c) (h1 : SOk K tu a) (h2 : SOk K tw b) : SOk K (tIfS t tu tw) (wIf c a b) := fun P Γ hq F0 H0 F H σ r E w =>
  h Γ _ hq F0 H0 F H σ r _ fun x F1 H1 z e1 => by
    cases x with
    | true =>
      show tu E σ H1
      exact h1 P Γ (z.1 rfl) F0 H0 F1 H1 σ (r.ext e1) E w
    | false =>
      show tw E σ H1
      exact h2 P Γ (z.2 rfl) F0 H0 F1 H1 σ (r.ext e1) E w
abbrev wDrop (e : WE) : WS := fun P Γ => e Γ fun _ => P.nx Γ
theorem s_drop {te : TE} {we : WE} (h : EOk K te we) : SOk K (tDrop te) (wDrop we) := fun P Γ hq F0 H0 F H σ r E w =>
  h Γ _ hq F0 H0 F H σ r _ fun v d F1 H1 z e1 rv => w.nx _ _ _ _ z (r.ext e1)
abbrev wNever : WS := fun _ _ => False
theorem s_never : SOk K tNever wNever := fun P Γ h _ _ _ _ _ _ _ _ => h.elim
/-- xs.append(e), xs one's own -/
abbrev wApp (k : Nat) (e : WE) : WS := fun P Γ => match nth Γ k with
  | .w (.l xs) => xs.length < 100000 ∧ e Γ fun d => P.nx (put Γ k (.ol (xs ++ [d])))
  | _ => False
theorem s_app {k : Nat} {te : TE} {we : WE} (h : EOk K te we) : SOk K (tDrop (tBM K "list" rAppend (tVar k) (tCons te tNil))) (wApp k we) := fun P Γ hq F0 H0 F H σ r E w => by
  unfold wApp at hq
  cases q : nth Γ k with
  | u => rw [q] at hq; exact hq.elim
  | d xs => rw [q] at hq; exact hq.elim
  | w o =>
    rw [q] at hq
    cases o with
    | s _ _ => exact hq.elim
    | la _ _ _ => exact hq.elim
    | l xs =>
      obtain ⟨p, vs, a, b, c, d, f⟩ := r.ol k xs q
      refine ⟨.ref p, a, .inl ⟨rfl, vs, sq_of d⟩, h Γ _ hq.2 F0 H0 F H σ r _ fun u y F1 H1 z e1 ru => ?_⟩
      exact ⟨p, vs, u, rfl, rfl, e1.hh.kp d, sz_lt (by rw [f.len]; exact hq.1), w.nx _ _ _ _ z ((r.ext e1).chg q a ((f.mono e1.ff).snoc ru))⟩
/-- a list of one's own is left as it is from here on -/
abbrev wFrz (k : Nat) (a : WS) : WS := fun P Γ => match nth Γ k with
  | .w (.l xs) => a P (put Γ k (.d (.l xs)))
  | _ => False
theorem s_frz {k : Nat} {t : TS} {a : WS} (h : SOk K t a) : SOk K t (wFrz k a) := fun P Γ hq F0 H0 F H σ r E w => by
  unfold wFrz at hq
  cases q : nth Γ k with
  | u => rw [q] at hq; exact hq.elim
  | d xs => rw [q] at hq; exact hq.elim
  | w o =>
    rw [q] at hq
    cases o with
    | s _ _ => exact hq.elim
    | la _ _ _ => exact hq.elim
    | l xs =>
      obtain ⟨F', r'⟩ := r.frz q
      exact h P _ hq F0 H0 F' H σ r' E w
/-- len(x), x one's own -/
abbrev wLenO (k : Nat) : WE := fun Γ Q => match nth Γ k with
  | .w (.l xs) => Q (.i (xs.length : Nat))
  | _ => False
theorem RA.walk {F F1 : Hp} {vs : List V} {xs : List D} (r : RA K F vs xs) (e : Ex F F1) {k : Nat} {v : V} (h : vs[k]? = some v) : ∃ x, xs[k]? = some x ∧ R K F1 v x :=
  let ⟨x, a, b⟩ := r.get h
  ⟨x, a, b.mono e⟩
abbrev wItL (e : WE) : WA := fun Γ Q => e Γ fun d => match d with
  | .l xs => Q xs
  | _ => False
theorem i_list {te : TE} {we : WE} (h : EOk K te we) : IOk K (iList K te) (wItL we) := fun Γ Q hq F0 H0 F H σ r QI w =>
  h Γ _ hq F0 H0 F H σ r _ fun v d F1 H1 z e1 rv => by
    cases rv with
    | @l p vs xs hp ra =>
      exact ⟨p, rfl, ⟨vs, sq_of (e1.fh _ _ hp)⟩, w _ xs F1 H1 z e1 ⟨_, _, ra.len ▸ walk_list (xs := vs), fun F2 H2 a b => sq_of (b _ _ (a _ _ hp)), fun k F2 H2 v H3 lt a b y => by
        obtain ⟨rfl, y⟩ := y
        obtain ⟨x, q1, q2⟩ := ra.walk a y
        exact ⟨F2, x, q1, Ext.refl b, q2⟩⟩⟩
    | _ => exact z.elim
abbrev wItT (e : WE) : WA := fun Γ Q => e Γ fun d => match d with
  | .t xs => Q xs
  | _ => False
theorem i_tup {te : TE} {we : WE} (h : EOk K te we) : IOk K (iTup K te) (wItT we) := fun Γ Q hq F0 H0 F H σ r QI w =>
  h Γ _ hq F0 H0 F H σ r _ fun v d F1 H1 z e1 rv => by
    cases rv with
    | @t p vs xs hp ra =>
      exact ⟨p, rfl, ⟨vs, ex_t e1.fh hp⟩, w _ xs F1 H1 z e1 ⟨_, _, ra.len ▸ walk_tup (xs := vs), fun F2 H2 a b => ex_t b (ex_t a hp), fun k F2 H2 v H3 lt a b y => by
        obtain ⟨rfl, y⟩ := y
        obtain ⟨x, q1, q2⟩ := ra.walk a y
        exact ⟨F2, x, q1, Ext.refl b, q2⟩⟩⟩
    | _ => exact z.elim
def rngD (lo : Int) (n : Nat) : List D := (List.range n).map fun k => .i (lo + (k : Nat))
theorem rngD_len {lo : Int} {n : Nat} : (rngD lo n).length = n := by
  unfold rngD
  rw [List.length_map, List.length_range]
theorem rngD_get {lo : Int} {n k : Nat} (h : k < n) : (rngD lo n)[k]? = some (.i (lo + (k : Nat))) := by
  unfold rngD
  rw [List.getElem?_map, List.getElem?_range h]
  rfl
theorem rngD_get' {lo : Int} {n k : Nat} {x : D} (h : (rngD lo n)[k]? = some x) : k < n ∧ x = .i (lo + (k : Nat)) := by
  have l : k < n := by
    have := (List.getElem?_eq_some_iff.mp h).1
    rw [rngD_len] at this
    exact this
  rw [rngD_get l] at h
  cases h
  exact ⟨l, rfl⟩
theorem isIt_rng {F : Hp} {lo : Int} {n : Nat} : IsIt K F (Itr lo n) (rngD lo n) := ⟨fun _ => True, YFn fun i => .int (lo + i), by
  rw [rngD_len]
  exact walk_range, fun _ _ _ _ => True.intro, fun k F2 H2 v H3 lt a b y => by
  obtain ⟨rfl, rfl⟩ := y
  exact ⟨F2, _, rngD_get (by rw [rngD_len] at lt; exact lt), Ext.refl b, .i _⟩⟩
abbrev wRng1 (a : WA) : WA := fun Γ Q => a Γ fun ds => match ds with
  | [.i n] => (-1000000 ≤ n ∧ n ≤ 1000000) ∧ Q (rngD 0 n.toNat)
  | _ => False
abbrev wRng2 (a : WA) : WA := fun Γ Q => a Γ fun ds => match ds with
  | [.i m, .i n] => (-1000000 ≤ m ∧ m ≤ 1000000 ∧ -1000000 ≤ n ∧ n ≤ 1000000) ∧ Q (rngD m (n - m).toNat)
  | _ => False
theorem i_rng1 {ta : TA} {wa : WA} (h : AOk K ta wa) : IOk K (iRng1 ta) (wRng1 wa) := fun Γ Q hq F0 H0 F H σ r QI w =>
  h Γ _ hq F0 H0 F H σ r _ fun vs ds F1 H1 z e1 ra => by
    cases ra with
    | nil => exact z.elim
    | cons a ra =>
      cases ra with
      | cons _ _ => cases a <;> exact z.elim
      | nil =>
        cases a with
        | i n => exact ⟨n, rfl, by omega, by omega, w _ _ F1 H1 z.2 e1 isIt_rng⟩
        | _ => exact z.elim
theorem i_rng2 {ta : TA} {wa : WA} (h : AOk K ta wa) : IOk K (iRng2 ta) (wRng2 wa) := fun Γ Q hq F0 H0 F H σ r QI w =>
  h Γ _ hq F0 H0 F H σ r _ fun vs ds F1 H1 z e1 ra => by
    cases ra with
    | nil => exact z.elim
    | cons a ra =>
      cases ra with
      | nil => cases a <;> exact z.elim
      | cons b ra =>
        cases ra with
        | cons _ _ => cases a <;> cases b <;> exact z.elim
        | nil =>
          cases a with
          | i m =>
            cases b with
            | i n => exact ⟨m, n, rfl, ⟨by omega, by omega, by omega, by omega⟩, w _ _ F1 H1 z.2 e1 isIt_rng⟩
            | _ => exact z.elim
          | _ => cases b <;> exact z.elim
/-- pairs made on the way -/
theorem pair_ok {F1 H1 : Hp} {T : Addr} {x y : V} {dx dy : D} (b : Ex F1 H1) (hT : H1 T = none) (rx : R K F1 x dx) (ry : R K F1 y dy) : ∃ F2, Ext F1 H1 F2 (upd H1 T (.tup [x, y])) ∧ R K F2 (.ref T) (.t [dx, dy]) :=
  let e := Ex.new (o := HO.tup [x, y]) (fresh_back b hT)
  ⟨_, Ext.new b hT, .t (st_of upd_same) (.cons (rx.mono e) (.cons (ry.mono e) .nil))⟩
def enumD : Nat → List D → List D
  | _, [] => []
  | k, x :: xs => .t [.i (k : Nat), x] :: enumD (k + 1) xs
theorem enumD_len : ∀ {xs : List D} {k : Nat}, (enumD k xs).length = xs.length
  | [], _ => rfl
  | _ :: xs, k => by
    show (enumD (k + 1) xs).length + 1 = _
    rw [enumD_len]
    rfl
theorem enumD_get : ∀ {xs : List D} {k m : Nat} {x : D}, xs[m]? = some x → (enumD k xs)[m]? = some (.t [.i ((k + m : Nat) : Int), x])
  | [], _, _, _, h => by
    rw [List.getElem?_nil] at h
    cases h
  | _ :: _, k, 0, _, h => by
    cases h
    rfl
  | _ :: xs, k, m + 1, x, h => by
    have := enumD_get (xs := xs) (k := k + 1) (m := m) h
    rw [show k + 1 + m = k + (m + 1) by omega] at this
    exact this
section
variable {F0 H0 F1 H1 F H F' H' : Hp} {σ : L2.St} {Γ : G}
theorem Rep.rebase (r : Rep K F0 H0 F H σ Γ) (e0 : Ex F0 F1) (e : Ex F1 F) : Rep K F1 H0 F H σ Γ := ⟨e, r.h0, r.fh, r.tb, fun p o h n => r.nw p o h (fresh_back e0 n), r.len, r.sl, r.ow, r.inj⟩
theorem Ext.back (x : Ext F0 H0 F1 H1) (r : Ext F1 H0 F H) : Ext F0 H0 F H := ⟨x.ff.trans r.ff, r.hh, r.fh, fun t => r.tb ⟨(x.tb t).1, t.2⟩, fun p o h n => by
  cases q : F1 p with
  | none => exact r.nw p o h q
  | some u => exact x.nw p u q n⟩
theorem Rep.back (x : Ext F0 H0 F1 H1) (r : Rep K F1 H0 F H σ Γ) : Rep K F0 H0 F H σ Γ :=
  let y := x.back r.ext0
  ⟨y.ff, y.hh, y.fh, r.tb, y.nw, r.len, r.sl, r.ow, r.inj⟩
/-- a statement from where more is known: what follows knows that, too -/
theorem SOk.at {t : TS} {a : WS} (h : SOk K t a) {P : Po} (hq : a P Γ) (r : Rep K F0 H0 F H σ Γ) {E : Ends} (e1 : Ex F0 F1) (e2 : Ex F1 F) (x : Ext F0 H0 F1 H1)
    (nx : ∀ Γ σ F H, P.nx Γ → Rep K F0 H0 F H σ Γ → Ex F1 F → E.nx σ H) (rt : ∀ d v F H, P.rt d → Ext F0 H0 F H → R K F v d → E.rt v H) (bk : ∀ Γ σ F H, P.bk Γ → Rep K F0 H0 F H σ Γ → Ex F1 F → E.bk σ H) (ct : ∀ Γ σ F H, P.ct Γ → Rep K F0 H0 F H σ Γ → Ex F1 F → E.ct σ H) : t E σ H :=
  h P Γ hq F1 H0 F H σ (r.rebase e1 e2) E ⟨fun Γ' σ' F' H' z r' => nx Γ' σ' F' H' z (Rep.back x r') r'.f0, fun d v F' H' z x' rv => rt d v F' H' z (x.back x') rv, fun Γ' σ' F' H' z r' => bk Γ' σ' F' H' z (Rep.back x r') r'.f0, fun Γ' σ' F' H' z r' => ct Γ' σ' F' H' z (Rep.back x r') r'.f0⟩
end
/-- for: I holds between two turns -/
abbrev wFor (it : WA) (g : WG) (b : WS) : WS := fun P Γ => it Γ fun xs => ∃ I : Nat → G → Prop, I 0 Γ ∧ (∀ k x Γ', xs[k]? = some x → I k Γ' → g x Γ' fun Γ2 => b { nx := I (k + 1), rt := P.rt, bk := P.nx, ct := I (k + 1) } Γ2) ∧ ∀ Γ', I xs.length Γ' → P.nx Γ'
theorem s_for {wi : TI} {g : TG} {tb : TS} {wit : WA} {wg : WG} {wb : WS} {js : List Nat} (hi : IOk K wi wit) (hg : GOk K g wg js) (hb : SOk K tb wb) : SOk K (tFor wi g tb) (wFor wit wg wb) := fun P Γ hq F0 H0 F H σ r E w =>
  hi Γ _ hq F0 H0 F H σ r _ fun J xs F1 H1 z e1 hit => by
    obtain ⟨I, i0, turn, fin⟩ := z
    obtain ⟨Gd, Y, wk, good, yld⟩ := hit
    have x1 : Ext F0 H0 F1 H1 := r.ext0.trans e1
    refine for_it wk (fun k σ' H' => ∃ Γ' F', I k Γ' ∧ Rep K F0 H0 F' H' σ' Γ' ∧ Ex F1 F') ⟨Γ, F1, i0, r.ext e1, Ex.refl F1⟩ (fun k σ' H' _ ⟨Γ', F', _, r', x⟩ => good F' H' x r'.fh) (fun k v σ' H' H2 lt ⟨Γ', F', i, r', x⟩ y => ?_) fun σ' H' ⟨Γ', F', i, r', x⟩ => w.nx _ _ _ _ (fin Γ' i) r'
    obtain ⟨F2, d, hd, e2, rv⟩ := yld k F' H' v H2 lt x r'.fh y
    refine hg d Γ' _ (turn k d Γ' hd i) F0 H0 F2 H2 σ' v (r'.ext e2) rv _ fun Γ2 σ2 F3 H3 z2 r2 e3 _ => ?_
    exact hb.at z2 r2 x1.ff ((x.trans e2.ff).trans e3.ff) x1 (fun Γ4 σ4 F4 H4 z4 r4 x4 => ⟨Γ4, F4, z4, r4, x4⟩) w.rt (fun Γ4 σ4 F4 H4 z4 r4 _ => w.nx _ _ _ _ z4 r4) (fun Γ4 σ4 F4 H4 z4 r4 x4 => ⟨Γ4, F4, z4, r4, x4⟩)
/-- what may come of n turns: c tells which are taken, P what each gives -/
def Sel (c : Nat → Bool) (P : Nat → D → Prop) : Nat → List D → Prop
  | 0, ys => ys = []
  | n + 1, ys => if c n = true then ∃ zs y, ys = zs ++ [y] ∧ Sel c P n zs ∧ P n y else Sel c P n ys
theorem Sel.len {c : Nat → Bool} {P : Nat → D → Prop} : ∀ {n : Nat} {ys : List D}, Sel c P n ys → ys.length ≤ n
  | 0, ys, h => by
    cases (show ys = [] from h)
    exact Nat.le_refl _
  | n + 1, ys, h => by
    unfold Sel at h
    split at h
    · obtain ⟨zs, y, rfl, h1, _⟩ := h
      have := Sel.len h1
      simp
      omega
    · have := Sel.len h
      omega
abbrev wLc (it : WA) (g : WG) (t : WT) (e : WE) (vs : List Nat) : WA := fun Γ Q => it Γ fun xs => xs.length ≤ 100000 ∧ ∃ (c : Nat → Bool) (P : Nat → D → Prop),
  (∀ k x, xs[k]? = some x → g x (wipeG Γ vs) fun Γ2 => t Γ2 fun b => b = c k ∧ (b = true → e Γ2 (P k))) ∧ ∀ ys, Sel c P xs.length ys → Q ys
theorem f_lc {wi : TI} {g : TG} {tt : TT} {te : TE} {vs js : List Nat} {wit : WA} {wg : WG} {wt : WT} {we : WE} (hi : IOk K wi wit) (hg : GOk K g wg js) (ht : TOk K tt wt) (he : EOk K te we) (hj : ∀ j ∈ js, j ∈ vs := by decide) : FOk K (tLc wi g tt te vs) (wLc wit wg wt we vs) := fun Γ Q hq F0 H0 F H σ r QV w =>
  hi Γ _ hq F0 H0 F H σ r _ fun J xs F1 H1 z e1 hit => by
    obtain ⟨lx, c, P, turn, fin⟩ := z
    obtain ⟨Gd, Y, wk, good, yld⟩ := hit
    intro Dl hD
    have r1 := (r.ext e1).wipe vs
    refine lc_it wk (fun k H' => ∃ F' ys ws, Ext F1 H1 F' H' ∧ F' Dl = none ∧ H' Dl = some (.lst ws) ∧ RA K F' ws ys ∧ Sel c P k ys) ⟨F1, [], [], Ext.heap e1.fh (Ex.new hD), fresh_back e1.fh hD, upd_same, .nil, rfl⟩ (fun k H' _ ⟨F', ys, ws, x, _⟩ => good F' H' x.ff x.fh)
      (fun k v H' H2 lt ⟨F', ys, ws, x, hf, hd, ra, hs⟩ y => ?_) fun H' ⟨F', ys, ws, x, hf, hd, ra, hs⟩ => w Dl ws ys F' H' (fin ys hs) (e1.trans x) (ExT.back e1.hh hD) hf hd ra
    obtain ⟨F2, d, hx, e2, rv⟩ := yld k F' H' v H2 lt x.ff x.fh y
    have nof : ∀ {F3 H3 : Hp}, Ext F' H' F3 H3 → F3 Dl = none := fun {F3 H3} e3 => by
      cases q : F3 Dl with
      | none => rfl
      | some o =>
        exact ((e3.nw Dl o q hf).not hd (fun ps z => by cases z)).elim
    refine hg d _ _ (turn k d hx) F0 H0 F2 H2 _ v (r1.ext (x.trans e2)) rv _ fun Γ3 σ3 F3 H3 z3 r3 e3 w3 => ⟨by rw [w3 vs hj]; exact wipe_twice σ vs, ?_⟩
    refine ht Γ3 _ z3 F0 H0 F3 H3 σ3 r3 _ fun b F4 H4 z4 e4 => ?_
    obtain ⟨hb, z4⟩ := z4
    have e34 := (e2.trans e3).trans e4
    cases b with
    | true =>
      show te σ3 H4 _
      refine he Γ3 _ (z4 rfl) F0 H0 F4 H4 σ3 (r3.ext e4) _ fun u dy F5 H5 z5 e5 ru => ?_
      have e25 := e34.trans e5
      refine ⟨ws, e25.hh.kp hd, sz_lt (by have := hs.len; rw [ra.len]; omega), F5, ys ++ [dy], ws ++ [u], ?_, nof e25, upd_same, (ra.mono e25.ff).snoc ru, ?_⟩
      · have x5 := x.trans e25
        refine ⟨x5.ff, x5.hh.mut hD, fun a o q => ?_, x5.tb.mut (e25.hh.kp hd) noTab_lst, x5.nw⟩
        rw [upd_ne (ne_of_none q (nof e25))]
        exact x5.fh a o q
      · unfold Sel
        rw [← hb, if_pos rfl]
        exact ⟨ys, dy, rfl, hs, z5⟩
    | false =>
      show ∃ F' ys ws, _
      refine ⟨F4, ys, ws, x.trans e34, nof e34, e34.hh.kp hd, ra.mono e34.ff, ?_⟩
      unfold Sel
      rw [← hb, if_neg (by decide)]
      exact hs
/-- a def's promise over data -/
def spD (K : PySem.W.Frag) (S : List D → (D → Prop) → Prop) : Sp := fun vs H Q _ => ∃ F ds P, ExK F H ∧ RA K F vs ds ∧ S ds P ∧ ∀ v d F' H', P d → Ext F H F' H' → R K F' v d → Q v H'
abbrev wCall (S : List D → (D → Prop) → Prop) (a : WA) : WE := fun Γ Q => a Γ fun ds => S ds Q
theorem e_call {S : List D → (D → Prop) → Prop} {ta : TA} {wa : WA} (ha : AOk K ta wa) : EOk K (tCallD (spD K S) ta) (wCall S wa) := fun Γ Q hq F0 H0 F H σ r QV w =>
  ha Γ _ hq F0 H0 F H σ r _ fun vs ds F1 H1 z e1 ra => ⟨F1, ds, Q, (r.ext e1).ek, ra, z, fun v d F2 H2 h2 e2 r2 => w v d F2 H2 h2 (e1.trans e2) r2⟩
/-- a def's body, read -/
def spD_len {S : List D → (D → Prop) → Prop} {n : Nat} (h : ∀ ds P, S ds P → ds.length = n) : ∀ vs H Q E, spD K S vs H Q E → vs.length = n := fun vs H Q E ⟨F, ds, P, _, ra, s, _⟩ => by rw [ra.len]; exact h ds P s
def startG (n : Nat) (ds : List D) : G := ds.map Sl.d ++ List.replicate (n - ds.length) .u
theorem body_run {N : List Str} {S : List D → (D → Prop) → Prop} {t : TS} {a : WS} {vs : List V} {H : Hp} {Q : VK} {E : XK} (h : SOk K t a) (hs : spD K S vs H Q E) (hl : ∀ ds P, S ds P → ds.length ≤ N.length)
    (body : ∀ ds P, S ds P → a { nx := fun _ => P .n, rt := P } (startG N.length ds)) : t { nx := fun _ H' => Q .non H', rt := Q } (L2.start N vs) H := by
  obtain ⟨F, ds, P, e, ra, s, q⟩ := hs
  exact h _ _ (body ds P s) F H F H _ (rep_start e.1 e.2 ra (hl ds P s)) _ ⟨fun Γ' σ' F' H' z r' => q _ _ _ _ z r'.ext0 .n, fun d v F' H' z x rv => q _ _ _ _ z x rv, fun _ _ _ _ z _ => z.elim, fun _ _ _ _ z _ => z.elim⟩
end
end DL
theorem Lay.DefOk.d {P : PySem.Program} {w : PySem.World} {K : PySem.W.Frag} {mg : PySem.Str → Option PySem.Value} {base : PySem.Heap} {x : PySem.Str} {k : Nat} {ps : List PySem.Str} {sp : L2.Sp} (h : Lay.DefOk P w K mg base x k ps sp) : Lay.DefOk P w K mg base x k ps sp := h
namespace DL
variable [DL.TabsT]
open PySem PySem.Spec PyProof.Rows L2 Evl Lay ErrX
section
variable (K : PySem.W.Frag) {X : Cx} {pos p : Pos} {l e : Expr} {tl : TE} {t ta : TA} {tg : Expr}
theorem kx_isi (h : X.K = K := by rfl) : CallR X (.builtin "isinstance") (rIsi K) := h ▸ call_isi
theorem kx_piTup (hl : PE X l tl) (h : X.K = K := by rfl) : PI X tg l (iTup K tl) := h ▸ pi_tup hl
end
theorem pe_gint {X : Cx} {x : Str} {n : Int} {pos : Pos} (hm : ∃ t, X.mg x = some (.int n t)) (hg : Gl X x := by rfl) (hd : (x == ("__debug__" : Str)) = false := by decide) : PE X (.Name x pos) (tC (.int n)) := by
  obtain ⟨t, hm⟩ := hm
  exact pe_glob hg hm ⟨t, rfl⟩ hd
/-- a def and its promise: where it stands is kept, for calls by name -/
structure DOk (P : Program) (w : World) (K : PySem.W.Frag) (mg : Str → Option Value) (base : Heap) (x : Str) (st : Stmt) (k : Nat) (ps : List Str) (S : List D → (D → Prop) → Prop) : Prop where
  ex : ∃ f fd, FnG P w K mg base CX0 k f fd ps (spD K S) ∧ mg x = some (.ref f) ∧ Fun K x x st f fd ∧ Binds K fd ps []
section
variable {P : Program} {w : World} {K : PySem.W.Frag} {mg : Str → Option Value} {base : Heap}
theorem DOk.d {x : Str} {st : Stmt} {k : Nat} {ps : List Str} {S : List D → (D → Prop) → Prop} (h : DOk P w K mg base x st k ps S) : DefOk P w K mg base x k ps (spD K S) :=
  let ⟨f, fd, F, hm, hf, hb⟩ := h.ex
  ⟨f, fd, F, hm, hf.kp, hb⟩
theorem dok {x : Str} {st : Stmt} {N ps : List Str} {k : Nat} {S : List D → (D → Prop) → Prop} (Df : DefIn K mg x st ps) (sc : FnScope N ps (defScope st)) (len : ∀ ds P, S ds P → ds.length = ps.length) (hN : ps.length ≤ N.length := by decide)
    (body : ∀ (f : Addr) (cdv : Value) (A : Around) (outer : List Env) (s : Shared) (H : Hp) (E : XK), Room k (cxOf CX0 P w K mg base N x (defScope st) f cdv A outer s H E).A → (cxOf CX0 P w K mg base N x (defScope st) f cdv A outer s H E).A.guards = some [] →
      ∃ t a, PSs (cxOf CX0 P w K mg base N x (defScope st) f cdv A outer s H E).nox (defBody st) t ∧ SOk K t a ∧ ∀ ds Q, S ds Q → a { nx := fun _ => Q .n, rt := Q } (startG N.length ds)) : DOk P w K mg base x st (k + 1) ps S := by
  obtain ⟨f, fd, F, hm, hb⟩ := Df.ex
  refine ⟨f, fd, fng F sc (spD_len len) fun cdv A outer s H vs Q E hr hg h => ?_, hm, F, hb⟩
  obtain ⟨t, a, ht, hs, q⟩ := body f cdv A outer s H E hr hg
  exact ⟨t, ht.nox, body_run hs h (fun ds P z => by rw [len ds P z]; exact hN) q⟩
end
section
variable {K : PySem.W.Frag}
/-- the built-in class of data that is none of the program's objects -/
def tyS : D → Option String
  | .n => some "NoneType" | .b _ => some "bool" | .i _ => some "int" | .s _ => some "str" | .t _ => some "tuple" | .l _ => some "list" | .o _ _ _ => none | .j => none | .p _ => none | .c _ => none | .T _ => none | .q _ => some "dict" | .r _ _ _ _ => none
theorem tyX {F H : Hp} {v : V} {x : D} {n : String} (e : Ex F H) (r : R K F v x) (h : tyS x = some n) : TyX K H v (.type n) := by
  cases r with
  | n => cases h; exact .base .non
  | b => cases h; exact .base (.bl _)
  | i => cases h; exact .base (.int _)
  | s => cases h; exact .base (.str _)
  | t h1 r =>
    cases h
    rcases h1 with h1 | ⟨o, its, n, h1, h2, _⟩
    · rcases h1 with h1 | ⟨o, h1⟩
      · exact .base (.tup (e _ _ h1))
      · exact .fTuple (e _ _ h1)
    · exact .kTuple h1 h2
  | l h1 r => cases h; exact .base (.lst (e _ _ h1))
  | o => cases h
  | j => cases h
  | p => cases h
  | c => cases h
  | T => cases h
  | q k h1 => cases h; exact .base (.dK (e _ _ h1))
  | r0 => cases h
  | r => cases h
/-- isinstance(x, T) -/
abbrev wIsi (tab : String → Option Bool) : WE → WE := fun a Γ Q => a Γ fun x => match tyS x with
  | some n => match tab n with
    | some b => Q (.b b)
    | none => False
  | none => False
theorem e_isi {te : TE} {we : WE} {T : String} {tab : String → Option Bool} (ht : ∀ n b, tab n = some b → PySem.W.kitOne K (.type n) (.type T) = some b) (h : EOk K te we) : EOk K (tCB (rIsi K) (tCons te (tCons (tC (.ty T)) tNil))) (wIsi tab we) := fun Γ Q hq F0 H0 F H σ r QV w =>
  h Γ _ hq F0 H0 F H σ r _ fun v d F1 H1 z e1 rv => by
    cases q : tyS d with
    | none => rw [q] at z; exact z.elim
    | some n =>
      rw [q] at z
      cases q2 : tab n with
      | none =>
        have z : (match tab n with | some b => Q (.b b) | none => False) := z
        rw [q2] at z
        exact z.elim
      | some b =>
        have z : (match tab n with | some b => Q (.b b) | none => False) := z
        rw [q2] at z
        exact ⟨v, .ty T, .type n, .type T, b, rfl, .ty T, tyX e1.fh rv q, ht n b q2, w _ _ F1 H1 z e1 (.b b)⟩
def tabInt : String → Option Bool
  | "int" => some true | "bool" => some true | "str" => some false | "tuple" => some false | "list" => some false | "NoneType" => some false | "dict" => some false | _ => none
def tabBool : String → Option Bool
  | "int" => some false | "bool" => some true | "str" => some false | "tuple" => some false | "list" => some false | "NoneType" => some false | "dict" => some false | _ => none
def tabTuple : String → Option Bool
  | "int" => some false | "bool" => some false | "str" => some false | "tuple" => some true | "list" => some false | "NoneType" => some false | "dict" => some false | _ => none
theorem tab_int {n : String} {b : Bool} (h : tabInt n = some b) : PySem.W.kitOne K (.type n) (.type "int") = some b := by
  unfold tabInt at h
  split at h <;> first | (cases h; rfl) | (cases h; done)
theorem tab_bool {n : String} {b : Bool} (h : tabBool n = some b) : PySem.W.kitOne K (.type n) (.type "bool") = some b := by
  unfold tabBool at h
  split at h <;> first | (cases h; rfl) | (cases h; done)
theorem tab_tuple {n : String} {b : Bool} (h : tabTuple n = some b) : PySem.W.kitOne K (.type n) (.type "tuple") = some b := by
  unfold tabTuple at h
  split at h <;> first | (cases h; rfl) | (cases h; done)
abbrev wMax2 : List D → (D → Prop) → Prop := fun xs Q => match xs with
  | [.i a, .i b] => Q (.i (if b > a then b else a))
  | _ => False
abbrev wMin2 : List D → (D → Prop) → Prop := fun xs Q => match xs with
  | [.i a, .i b] => Q (.i (if b < a then b else a))
  | _ => False
theorem RA.two {F : Hp} {vs : List V} {a b : Int} (r : RA K F vs [.i a, .i b]) : vs = [.int a, .int b] := by
  cases r with
  | cons x r =>
    cases r with
    | cons y r =>
      cases r
      cases x
      cases y
      rfl
theorem c_max2 : COk K (fun xs H Q => ∃ i j, xs = [V.int i, V.int j] ∧ Q (V.int (if j > i then j else i)) H) wMax2 := fun xs Q hq F H vs e r QV q => by
  unfold wMax2 at hq
  split at hq
  · have := r.two
    subst this
    exact ⟨_, _, rfl, q _ _ F H hq (Ext.refl e) (.i _)⟩
  · exact hq.elim
theorem c_min2 : COk K (fun xs H Q => ∃ i j, xs = [V.int i, V.int j] ∧ Q (V.int (if j < i then j else i)) H) wMin2 := fun xs Q hq F H vs e r QV q => by
  unfold wMin2 at hq
  split at hq
  · have := r.two
    subst this
    exact ⟨_, _, rfl, q _ _ F H hq (Ext.refl e) (.i _)⟩
  · exact hq.elim
end
end DL
namespace DL
variable [DL.TabsT]
open PySem PySem.Spec PyProof.Rows L2 Evl Lay ErrX
/-- data without truths, objects: no deeper than k -/
inductive ID : Nat → D → Prop
  | n {k : Nat} : ID k .n
  | i {k : Nat} (v : Int) : ID k (.i v)
  | s {k : Nat} (v : Str) (h : PyData.strOk v = true) : ID k (.s v)
  | t {k : Nat} {xs : List D} (h : ∀ x ∈ xs, ID k x) : ID (k + 1) (.t xs)
  | l {k : Nat} {xs : List D} (h : ∀ x ∈ xs, ID k x) : ID (k + 1) (.l xs)
theorem depthAll_le {k : Nat} : ∀ {ds : List PyData}, (∀ d ∈ ds, d.depth ≤ k) → PyData.depthAll ds ≤ k
  | [], _ => by simp [PyData.depthAll]
  | d :: ds, h => by
    have h1 := h d (List.mem_cons_self ..)
    have h2 := depthAll_le fun e he => h e (List.mem_cons_of_mem _ he)
    simp only [PyData.depthAll]
    omega
theorem canAll {ds : List PyData} (h : ∀ d ∈ ds, d.canLay0 = true) : PyData.canLayAll0 ds = true := by
  induction ds with
  | nil => simp [PyData.canLayAll0]
  | cons d ds ih => simp only [PyData.canLayAll0, h d (List.mem_cons_self ..), ih fun e he => h e (List.mem_cons_of_mem _ he), Bool.and_self]
theorem pyA_of {xs : List D} {p : PyData → Prop} (h : ∀ x ∈ xs, ∃ d, py x = some d ∧ p d) : ∃ ds, pyA xs = some ds ∧ ∀ d ∈ ds, p d := by
  induction xs with
  | nil => exact ⟨[], by simp only [pyA], fun d hd => by cases hd⟩
  | cons x xs ih =>
    obtain ⟨d, h1, h2⟩ := h x (List.mem_cons_self ..)
    obtain ⟨ds, h3, h4⟩ := ih fun y hy => h y (List.mem_cons_of_mem _ hy)
    refine ⟨d :: ds, by simp only [pyA, h1, h3]; rfl, fun e he => ?_⟩
    rcases List.mem_cons.mp he with rfl | he
    · exact h2
    · exact h4 e he
theorem ID.py {k : Nat} {x : D} (h : ID k x) : ∃ d, DL.py x = some d ∧ d.canLay0 = true ∧ d.depth ≤ k := by
  induction h with
  | n => exact ⟨.none, by simp only [DL.py], rfl, Nat.zero_le _⟩
  | i v => exact ⟨.int v, by simp only [DL.py], rfl, Nat.zero_le _⟩
  | s v h => exact ⟨.str v, by simp only [DL.py], by simpa [PyData.canLay0] using h, Nat.zero_le _⟩
  | @t k xs h ih =>
    obtain ⟨ds, h1, h2⟩ := pyA_of ih
    refine ⟨.tuple ds, by simp only [DL.py, h1]; rfl, ?_, ?_⟩
    · simp only [PyData.canLay0]
      exact canAll fun d hd => (h2 d hd).1
    · have := depthAll_le fun d hd => (h2 d hd).2
      simp only [PyData.depth]
      omega
  | @l k xs h ih =>
    obtain ⟨ds, h1, h2⟩ := pyA_of ih
    refine ⟨.list ds, by simp only [DL.py, h1]; rfl, ?_, ?_⟩
    · simp only [PyData.canLay0]
      exact canAll fun d hd => (h2 d hd).1
    · have := depthAll_le fun d hd => (h2 d hd).2
      simp only [PyData.depth]
      omega
theorem eqv_eq : ∀ {k : Nat} {x : D}, ID k x → ∀ {m : Nat} {y : D}, ID m y → ∀ {d e : PyData}, DL.py x = some d → DL.py y = some e → (PyData.eqv d e = true ↔ x = y) := by
  have all : ∀ {xs : List D}, (∀ x ∈ xs, ∀ {m : Nat} {y : D}, ID m y → ∀ {d e : PyData}, DL.py x = some d → DL.py y = some e → (PyData.eqv d e = true ↔ x = y)) → ∀ {m : Nat} {ys : List D}, (∀ y ∈ ys, ID m y) → ∀ {ds es : List PyData}, pyA xs = some ds → pyA ys = some es → (PyData.eqvAll ds es = true ↔ xs = ys) := by
    intro xs
    induction xs with
    | nil =>
      intro _ m ys hy ds es h1 h2
      simp only [pyA] at h1
      cases h1
      cases ys with
      | nil =>
        simp only [pyA] at h2
        cases h2
        simp [PyData.eqvAll]
      | cons y ys =>
        simp only [pyA] at h2
        cases q : DL.py y with
        | none => rw [q] at h2; cases h2
        | some d =>
          cases q2 : pyA ys with
          | none => rw [q, q2] at h2; cases h2
          | some ds =>
            rw [q, q2] at h2
            cases h2
            simp [PyData.eqvAll]
    | cons x xs ih =>
      intro hx m ys hy ds es h1 h2
      simp only [pyA] at h1
      cases q : DL.py x with
      | none => rw [q] at h1; cases h1
      | some d =>
        cases q2 : pyA xs with
        | none => rw [q, q2] at h1; cases h1
        | some ds' =>
          rw [q, q2] at h1
          cases h1
          cases ys with
          | nil =>
            simp only [pyA] at h2
            cases h2
            simp [PyData.eqvAll]
          | cons y ys =>
            simp only [pyA] at h2
            cases r : DL.py y with
            | none => rw [r] at h2; cases h2
            | some e =>
              cases r2 : pyA ys with
              | none => rw [r, r2] at h2; cases h2
              | some es' =>
                rw [r, r2] at h2
                cases h2
                have e1 := hx x (List.mem_cons_self ..) (hy y (List.mem_cons_self ..)) q r
                have e2 := ih (fun z hz => hx z (List.mem_cons_of_mem _ hz)) (fun z hz => hy z (List.mem_cons_of_mem _ hz)) q2 r2
                show (PyData.eqvAll (d :: ds') (e :: es') = true) ↔ _
                simp only [PyData.eqvAll, Bool.and_eq_true, e1, e2, List.cons.injEq]
  have tl : ∀ {xs : List D} {d : PyData}, DL.py (.t xs) = some d → ∃ ds, pyA xs = some ds ∧ d = .tuple ds := fun {xs d} h => by
    simp only [DL.py] at h
    cases q : pyA xs with
    | none => rw [q] at h; cases h
    | some ds => rw [q] at h; cases h; exact ⟨ds, rfl, rfl⟩
  have ll : ∀ {xs : List D} {d : PyData}, DL.py (.l xs) = some d → ∃ ds, pyA xs = some ds ∧ d = .list ds := fun {xs d} h => by
    simp only [DL.py] at h
    cases q : pyA xs with
    | none => rw [q] at h; cases h
    | some ds => rw [q] at h; cases h; exact ⟨ds, rfl, rfl⟩
  intro k x hx
  induction hx with
  | n =>
    intro m y hy d e h1 h2
    simp only [DL.py] at h1
    cases h1
    cases hy with
    | t h => obtain ⟨ds, _, rfl⟩ := tl h2; simp [PyData.eqv]
    | l h => obtain ⟨ds, _, rfl⟩ := ll h2; simp [PyData.eqv]
    | _ => simp only [DL.py] at h2; cases h2; simp [PyData.eqv]
  | i v =>
    intro m y hy d e h1 h2
    simp only [DL.py] at h1
    cases h1
    cases hy with
    | t h => obtain ⟨ds, _, rfl⟩ := tl h2; simp [PyData.eqv]
    | l h => obtain ⟨ds, _, rfl⟩ := ll h2; simp [PyData.eqv]
    | _ => simp only [DL.py] at h2; cases h2; simp [PyData.eqv]
  | s v h =>
    intro m y hy d e h1 h2
    simp only [DL.py] at h1
    cases h1
    cases hy with
    | t h => obtain ⟨ds, _, rfl⟩ := tl h2; simp [PyData.eqv]
    | l h => obtain ⟨ds, _, rfl⟩ := ll h2; simp [PyData.eqv]
    | _ => simp only [DL.py] at h2; cases h2; simp [PyData.eqv]
  | t h ih =>
    intro m y hy d e h1 h2
    obtain ⟨ds, q1, rfl⟩ := tl h1
    cases hy with
    | t h' =>
      obtain ⟨es, q2, rfl⟩ := tl h2
      have := all ih h' q1 q2
      simp only [PyData.eqv, D.t.injEq]
      exact this
    | l h' => obtain ⟨es, _, rfl⟩ := ll h2; simp [PyData.eqv]
    | _ => simp only [DL.py] at h2; cases h2; simp [PyData.eqv]
  | l h ih =>
    intro m y hy d e h1 h2
    obtain ⟨ds, q1, rfl⟩ := ll h1
    cases hy with
    | l h' =>
      obtain ⟨es, q2, rfl⟩ := ll h2
      have := all ih h' q1 q2
      simp only [PyData.eqv, D.l.injEq]
      exact this
    | t h' => obtain ⟨es, _, rfl⟩ := tl h2; simp [PyData.eqv]
    | _ => simp only [DL.py] at h2; cases h2; simp [PyData.eqv]
/-- a comparison of data, both ways told -/
theorem eqD_of {k m : Nat} {x y : D} {Q : D → Prop} (hx : ID k x) (hy : ID m y) (h1 : x = y → Q (.b true)) (h2 : x ≠ y → Q (.b false)) (hk : k ≤ 64 := by decide) (hm : m ≤ 64 := by decide) : wEqD x y Q := by
  obtain ⟨d, p1, p2, p3⟩ := hx.py
  obtain ⟨e, q1, q2, q3⟩ := hy.py
  refine ⟨d, e, p1, q1, by unfold SeqAt.shaped; rw [p2, decide_eq_true (Nat.le_trans p3 hk)]; rfl, by unfold SeqAt.shaped; rw [q2, decide_eq_true (Nat.le_trans q3 hm)]; rfl, ?_⟩
  have z := eqv_eq hx hy p1 q1
  cases c : PyData.eqv d e with
  | true => exact h1 (z.mp c)
  | false =>
    refine h2 fun e' => ?_
    rw [z.mpr e'] at c
    cases c
theorem neD_of {k m : Nat} {x y : D} {Q : D → Prop} (hx : ID k x) (hy : ID m y) (h1 : x = y → Q (.b false)) (h2 : x ≠ y → Q (.b true)) (hk : k ≤ 64 := by decide) (hm : m ≤ 64 := by decide) : wNeD x y Q := by
  obtain ⟨d, p1, p2, p3⟩ := hx.py
  obtain ⟨e, q1, q2, q3⟩ := hy.py
  refine ⟨d, e, p1, q1, by unfold SeqAt.shaped; rw [p2, decide_eq_true (Nat.le_trans p3 hk)]; rfl, by unfold SeqAt.shaped; rw [q2, decide_eq_true (Nat.le_trans q3 hm)]; rfl, ?_⟩
  have z := eqv_eq hx hy p1 q1
  cases c : PyData.eqv d e with
  | true => exact h1 (z.mp c)
  | false =>
    refine h2 fun e' => ?_
    rw [z.mpr e'] at c
    cases c
/-- ints of a tuple -/
theorem ID.ints {k : Nat} {ns : List Int} : ∀ x ∈ ns.map D.i, ID k x := fun x hx => by
  obtain ⟨n, _, rfl⟩ := List.mem_map.mp hx
  exact .i n
theorem ID.p2 {k : Nat} {a b : Int} : ID (k + 1) (.t [.i a, .i b]) := .t (ID.ints (ns := [a, b]))
mutual
theorem short_of : ∀ d : PyData, d.showable = true → d.intsShort 1921 = true
  | .none, _ => rfl
  | .bool _, _ => rfl
  | .int i, h => by
    simp only [PyData.showable, decide_eq_true_eq] at h
    have := int_text_len_1921 h
    simp only [PyData.intsShort, decide_eq_true_eq]
    exact this
  | .str _, _ => rfl
  | .list xs, h => by
    simp only [PyData.intsShort]
    exact shortAll_of xs (by simpa only [PyData.showable] using h)
  | .tuple xs, h => by
    simp only [PyData.intsShort]
    exact shortAll_of xs (by simpa only [PyData.showable] using h)
  | .dict _, _ => rfl
theorem shortAll_of : ∀ ds : List PyData, PyData.showableAll ds = true → PyData.intsShortAll 1921 ds = true
  | [], _ => by simp only [PyData.intsShortAll]
  | d :: ds, h => by
    simp only [PyData.showableAll, Bool.and_eq_true] at h
    simp only [PyData.intsShortAll, short_of d h.1, shortAll_of ds h.2, Bool.and_self]
end
theorem shown_fits {d : PyData} (hc : d.canLay0 = true) (hs : d.showable = true) (hb : d.bulk ≤ 8000) : d.shown.length ≤ sizeLine := by
  have := PyData.shown_le_bulk 1921 (by decide) d (PyData.leavesShort_of_canLay0 1921 d hc (short_of d hs))
  rw [sizeLine_eq]
  omega
theorem repr_of {x : D} {d : PyData} {Q : D → Prop} (h : py x = some d) (hc : d.canLay0 = true) (hs : d.showable = true) (hd : d.depth ≤ 32) (hb : d.bulk ≤ 8000) (q : Q (.s d.shown)) : wRepr [x] Q := ⟨d, pyQ_of h, hs, hd, shown_fits hc hs hb, q⟩
theorem log2_small {i : Int} (h1 : -(2 ^ 1000) < i) (h2 : i < 2 ^ 1000) : i.natAbs.log2 < 1920 := by
  by_cases z : i.natAbs = 0
  · rw [z]
    decide
  · refine (Nat.log2_lt z).mpr (Nat.lt_of_lt_of_le (m := 2 ^ 1000) ?_ (Nat.pow_le_pow_right (by decide) (by decide)))
    have e : ((2 : Int) ^ 1000) = ((2 ^ 1000 : Nat) : Int) := by norm_cast
    rw [e] at h1 h2
    omega
/-- data that may be written out: no deeper than k, ints not beyond -/
inductive RD : Nat → D → Prop
  | n {k : Nat} : RD k .n
  | b {k : Nat} (v : Bool) : RD k (.b v)
  | i {k : Nat} {v : Int} (h : v.natAbs.log2 < 1920) : RD k (.i v)
  | s {k : Nat} (v : Str) (h : PyData.strOk v = true) : RD k (.s v)
  | t {k : Nat} {xs : List D} (h : ∀ x ∈ xs, RD k x) : RD (k + 1) (.t xs)
  | l {k : Nat} {xs : List D} (h : ∀ x ∈ xs, RD k x) : RD (k + 1) (.l xs)
mutual
def szD : D → Nat
  | .s v => v.cps.size
  | .t xs => szA xs
  | .l xs => szA xs
  | _ => 0
def szA : List D → Nat
  | [] => 0
  | x :: xs => szD x + 1 + szA xs
end
theorem showAll {ds : List PyData} (h : ∀ d ∈ ds, d.showable = true) : PyData.showableAll ds = true := by
  induction ds with
  | nil => simp [PyData.showableAll]
  | cons d ds ih => simp only [PyData.showableAll, h d (List.mem_cons_self ..), ih fun e he => h e (List.mem_cons_of_mem _ he), Bool.and_self]
theorem RD.py {k : Nat} {x : D} (h : RD k x) : ∃ d, DL.py x = some d ∧ d.canLay0 = true ∧ d.depth ≤ k ∧ d.showable = true := by
  induction h with
  | n => exact ⟨.none, by simp only [DL.py], rfl, Nat.zero_le _, rfl⟩
  | b v => exact ⟨.bool v, by simp only [DL.py], rfl, Nat.zero_le _, rfl⟩
  | @i k v h => exact ⟨.int v, by simp only [DL.py], rfl, Nat.zero_le _, by simpa [PyData.showable] using h⟩
  | s v h => exact ⟨.str v, by simp only [DL.py], by simpa [PyData.canLay0] using h, Nat.zero_le _, rfl⟩
  | @t k xs h ih =>
    obtain ⟨ds, h1, h2⟩ := pyA_of ih
    refine ⟨.tuple ds, by simp only [DL.py, h1]; rfl, ?_, ?_, ?_⟩
    · simp only [PyData.canLay0]
      exact canAll fun d hd => (h2 d hd).1
    · have := depthAll_le fun d hd => (h2 d hd).2.1
      simp only [PyData.depth]
      omega
    · simp only [PyData.showable]
      exact showAll fun d hd => (h2 d hd).2.2
  | @l k xs h ih =>
    obtain ⟨ds, h1, h2⟩ := pyA_of ih
    refine ⟨.list ds, by simp only [DL.py, h1]; rfl, ?_, ?_, ?_⟩
    · simp only [PyData.canLay0]
      exact canAll fun d hd => (h2 d hd).1
    · have := depthAll_le fun d hd => (h2 d hd).2.1
      simp only [PyData.depth]
      omega
    · simp only [PyData.showable]
      exact showAll fun d hd => (h2 d hd).2.2
mutual
theorem bulk_sz : ∀ (x : D) (d : PyData), py x = some d → d.bulk = szD x
  | .n, _, h => by simp only [py] at h; cases h; rfl
  | .b _, _, h => by simp only [py] at h; cases h; rfl
  | .i _, _, h => by simp only [py] at h; cases h; rfl
  | .s _, _, h => by simp only [py] at h; cases h; simp only [szD, PyData.bulk]
  | .t xs, d, h => by
    simp only [py] at h
    cases q : pyA xs with
    | none => rw [q] at h; cases h
    | some ds =>
      rw [q] at h
      cases h
      simp only [szD, PyData.bulk]
      exact bulk_szA xs ds q
  | .l xs, d, h => by
    simp only [py] at h
    cases q : pyA xs with
    | none => rw [q] at h; cases h
    | some ds =>
      rw [q] at h
      cases h
      simp only [szD, PyData.bulk]
      exact bulk_szA xs ds q
  | .o _ _ _, _, h => by simp only [py] at h; cases h
  | .j, _, h => by simp only [py] at h; cases h
  | .c _, _, h => by simp only [py] at h; cases h
  | .T _, _, h => by simp only [py] at h; cases h
  | .q _, _, h => by simp only [py] at h; cases h
theorem bulk_szA : ∀ (xs : List D) (ds : List PyData), pyA xs = some ds → PyData.bulkAll ds = szA xs
  | [], _, h => by simp only [pyA] at h; cases h; simp only [szA, PyData.bulkAll]
  | x :: xs, ds, h => by
    simp only [pyA] at h
    cases q : py x with
    | none => rw [q] at h; cases h
    | some d =>
      cases q2 : pyA xs with
      | none => rw [q, q2] at h; cases h
      | some es =>
        rw [q, q2] at h
        cases h
        show PyData.bulkAll (d :: es) = _
        simp only [szA, PyData.bulkAll, bulk_sz x d q, bulk_szA xs es q2]
end
/-- its text -/
def shD (x : D) : Str := match py x with
  | some d => d.shown
  | none => ""
theorem reprD {k : Nat} {x : D} {Q : D → Prop} (h : RD k x) (hb : szD x ≤ 8000) (q : Q (.s (shD x))) (hk : k ≤ 32 := by decide) : wRepr [x] Q := by
  obtain ⟨d, h1, h2, h3, h4⟩ := h.py
  refine repr_of h1 h2 h4 (Nat.le_trans h3 hk) (by rw [bulk_sz x d h1]; exact hb) ?_
  unfold shD at q
  rw [h1] at q
  exact q
theorem RD.small {k : Nat} {v : Int} (h1 : -1000000000000 ≤ v) (h2 : v ≤ 1000000000000) : RD k (.i v) := .i (log2_small (Int.lt_of_lt_of_le (by decide) h1) (Int.lt_of_le_of_lt h2 (by decide)))
theorem neS_same {y : Str} {Q : D → Prop} (q : Q (.b false)) : wNeS (.s y) (.s y) Q := by
  show Q (.b (!decide (y = y)))
  rw [decide_eq_true rfl]
  exact q
/-- what follows, shown once for several ways -/
theorem once {N G : Prop} (f : N → G) (h : N) : G := f h
theorem Sel.all {P : Nat → D → Prop} : ∀ {n : Nat} {ys : List D}, Sel (fun _ => true) P n ys → ys.length = n ∧ ∀ k y, ys[k]? = some y → P k y
  | 0, ys, h => by
    cases (show ys = [] from h)
    exact ⟨rfl, fun k y q => by rw [List.getElem?_nil] at q; cases q⟩
  | n + 1, ys, h => by
    unfold Sel at h
    rw [if_pos rfl] at h
    obtain ⟨zs, y, rfl, h1, h2⟩ := h
    obtain ⟨l, g⟩ := Sel.all h1
    refine ⟨by rw [List.length_append, l]; rfl, fun k z q => ?_⟩
    by_cases hk : k < zs.length
    · rw [List.getElem?_append_left hk] at q
      exact g k z q
    · rw [List.getElem?_append_right (by omega)] at q
      have e : k = n := by
        by_cases e : k - zs.length = 0
        · omega
        · rw [List.getElem?_eq_none (by show 1 ≤ _; omega)] at q
          cases q
      subst e
      rw [l, Nat.sub_self] at q
      cases q
      exact h2
/-- each element by its place -/
theorem Sel.map {v : Nat → D} {n : Nat} {ys : List D} (h : Sel (fun _ => true) (fun k d => d = v k) n ys) : ys = (List.range n).map v := by
  obtain ⟨l, g⟩ := h.all
  refine List.ext_getElem? fun k => ?_
  by_cases hk : k < n
  · rw [List.getElem?_map, List.getElem?_range hk]
    have : ys[k]? = some ys[k] := List.getElem?_eq_getElem (by omega)
    rw [this, g k _ this]
    rfl
  · rw [List.getElem?_eq_none (by omega), List.getElem?_eq_none (by rw [List.length_map, List.length_range]; omega)]
/-- those taken, by their places -/
theorem Sel.filter {c : Nat → Bool} {v : Nat → D} : ∀ {n : Nat} {ys : List D}, Sel c (fun k d => d = v k) n ys → ys = ((List.range n).filter c).map v
  | 0, ys, h => by
    cases (show ys = [] from h)
    rfl
  | n + 1, ys, h => by
    unfold Sel at h
    rw [List.range_succ, List.filter_append, List.map_append]
    split at h
    · rename_i hc
      obtain ⟨zs, y, rfl, h1, h2⟩ := h
      rw [Sel.filter h1, h2]
      simp [List.filter_cons, hc]
    · rename_i hc
      rw [Sel.filter h]
      simp [List.filter_cons, hc]
end DL
namespace TE
variable [DL.TabsT]
open PySem PySem.Spec PyProof.Rows L2
theorem new_meets (a : Addr) (vals : Array Value) :
    Meets (Builtin.«enumerate.__new__» ⟨[.type "enumerate", .ref a], []⟩) (fun _ R s => s.heap.IsTuple a vals ∧
      R (.ok (.ret (.ref (s.heap.push { cls := .type "tuple_iterator", data := .fields #[.ref a, .int 0 0] }).objs.size)))
        { s with heap := (s.heap.push { cls := .type "tuple_iterator", data := .fields #[.ref a, .int 0 0] }).push { cls := .type "enumerate", data := .fields #[.none, .bool false, .ref s.heap.objs.size, rawInt 0, .none, .none] } }) :=
  Meets.of_wp fun P w A R s hyp => by
    have sub := sub_enumerate
    obtain ⟨hT, hR⟩ := hyp
    have it1 : ∀ {A' : Around} {E' : Value → Shared → Prop} {Q' : Value → Shared → Prop}, Q' (.ref s.heap.objs.size) { s with heap := s.heap.push { cls := .type "tuple_iterator", data := .fields #[.ref a, .int 0 0] } } → wpAny (model P w) A' (pyIter (.ref a)) Q' E' s := fun q => wpAny_pyIter_tuple hT q
    obtain ⟨_, _, _, _, _⟩ := s
    wp_walk using it1
    refine wpAny_stack_any fun _ => wpAny_pure ?_
    split
    next c _ _ _ _ _ =>
      cases (c == Value.type "enumerate") <;> (wp_walk using it1; exact ⟨_, rfl, hR⟩)
    next => wp_walk using it1; exact ⟨_, rfl, hR⟩
section
variable {prog : Program} {w : World} {A : Around} {E : Value → Shared → Prop} {s : Shared}
theorem call_enum {a : Addr} {vals : Array Value} {Q : Value → Shared → Prop} (hT : s.heap.IsTuple a vals)
    (q : ∀ h', IsEnum h' (s.heap.objs.size + 1) s.heap.objs.size 0 .none → h'.IsTupleIter s.heap.objs.size a 0 → h'.objs.size = s.heap.objs.size + 2 → (∀ b o, s.heap.get? b = some o → h'.get? b = some o) → Q (.ref (s.heap.objs.size + 1)) { s with heap := h' }) :
    wpAny (model prog w) A (call (.type "enumerate") [.ref a]) Q E s := by
  refine callType_new F.called_enumerate (by decide) (F.typeCall_enumerate_1 _) (F.newCall_enumerate_1 _) (fun ob => F.args_object_init_2 ob _) F.entry_enumerate_new (new_meets a vals) ⟨hT, ?_⟩
  have e1 : (s.heap.push { cls := .type "tuple_iterator", data := .fields #[.ref a, .int 0 0] }).objs.size = s.heap.objs.size + 1 := Heap.size_push ..
  show _ ∧ _
  rw [e1]
  have en : IsEnum ((s.heap.push { cls := .type "tuple_iterator", data := .fields #[.ref a, .int 0 0] }).push { cls := .type "enumerate", data := .fields #[.none, .bool false, .ref s.heap.objs.size, rawInt 0, .none, .none] }) (s.heap.objs.size + 1) s.heap.objs.size 0 .none := by
    have z := Heap.get?_push_size (s.heap.push { cls := .type "tuple_iterator", data := .fields #[.ref a, .int 0 0] }) (o := { cls := .type "enumerate", data := .fields #[.none, .bool false, .ref s.heap.objs.size, rawInt 0, .none, .none] }) rfl
    rw [e1] at z
    exact z
  exact ⟨⟨_, en, rfl⟩, q _ en ⟨_, Heap.get?_push_of_some _ (Heap.get?_push_size _ rfl), rfl, rfl⟩ (by rw [Heap.size_push, e1]) fun b o z => Heap.get?_push_of_some _ (Heap.get?_push_of_some _ z)⟩
end
/-- the tuple at a, each item in a new pair with its place -/
def Iet (K : PySem.W.Frag) (a : Addr) : It :=
  ⟨fun i H => ∃ (xs : List V) (x : V), SqT K H a xs ∧ xs[i]? = some x, fun i H v H' => ∃ T x, v = .ref T ∧ H T = none ∧ H' = upd H T (.tup [.int (i : Nat), x]) ∧ ∀ xs, SqT K H a xs → xs[i]? = some x, fun i H => ∃ xs : List V, SqT K H a xs ∧ xs.length = i⟩
theorem turn_et {P : Program} {w : World} {K : PySem.W.Frag} {elts : List Expr} {kk : Nat} {tpos : Pos} (a e it : Addr) :
    Turn P w K (.Tuple elts kk tpos) (Iet K a) [e, it] e (fun i h => (∃ old, IsEnum h e it ((i : Nat) : Int) old) ∧ h.IsTupleIter it a i ∧ e ≠ it ∧ a ≠ it ∧ a ≠ e) where
  mem := List.mem_cons_self ..
  obj := fun i h st b hb => by
    obtain ⟨⟨old, he⟩, ⟨o, ho, hc, hd⟩, _⟩ := st
    rcases List.mem_cons.mp hb with rfl | hb
    · exact ⟨_, he, fun v z => (nomatch z)⟩
    · rcases List.mem_cons.mp hb with rfl | hb
      · exact ⟨o, ho, fun v z => by rw [hd] at z; cases z⟩
      · cases hb
  keep := fun i h h' st kp => ⟨let ⟨⟨old, he⟩, _⟩ := st; ⟨old, kp e (by simp) _ he⟩, st.2.1.at fun o z => kp it (by simp) o z, st.2.2⟩
  item := by
    intro X hP hw hK hc i pins s σ H E I hf st hg
    subst hP hw hK
    obtain ⟨⟨old, he⟩, hit, ne, na, nb⟩ := st
    obtain ⟨xs, x, hq, hx⟩ := hg
    obtain ⟨its, rv, pl, hz⟩ := I.tuple hq
    obtain ⟨u, hu, ru⟩ := rv.get hx
    have le : e < s.heap.objs.size := Heap.lt_size he
    have li : it < s.heap.objs.size := by
      obtain ⟨_, z, _⟩ := hit
      exact Heap.lt_size z
    have tp : s.heap.IsTuple a its.toArray := pl
    have hlt : i < its.toArray.size := by
      rw [List.size_toArray, ← rv.length]
      exact (List.getElem?_eq_some_iff.mp hx).1
    refine wpAny_pyNext_enum_itemD (Draws.tuple (A := X.A.in1) (I.ok.hd hc) it a na its.toArray) he ⟨hit, tp⟩ hlt ne (fun z => ?_) fun y h' tk hy ho st' hT hsz hk => ?_
    · rcases List.mem_cons.mp z with z | z
      · exact ne z
      · rcases List.mem_cons.mp z with z | z
        · exact nb z.symm
        · cases z
    have ey : y = u := by
      rw [List.getElem?_toArray, hu] at hy
      exact (Option.some.inj hy).symm
    subst ey
    refine ⟨_, rfl, wpAny_letOwnedTupleGo_enum (s := { s with heap := h', toks := tk + 1 }) ho fun h2 he' sb => ?_⟩
    have hT2 := (sb.2 _ (Nat.ne_of_gt le)).trans hT
    have new : ObjOk X.prog X.w (upd H s.heap.objs.size (.tup [.int (i : Nat), x])) h2 s.heap.objs.size (.tup [.int (i : Nat), x]) :=
      ⟨by show 2 ≤ sizeLine; decide, [.int i tk, y], .cons ⟨_, rfl⟩ (.cons ru .nil), ⟨_, hT2, rfl, _, rfl⟩⟩
    have J : L2.Inv X pins σ (upd H s.heap.objs.size (.tup [.int (i : Nat), x])) { s with heap := h2, toks := tk + 1 } :=
      I.turnedNew (ch := [e, it]) (fun b ob nb q => by
        have n1 : b ≠ e := fun z => nb (by rw [z]; exact List.mem_cons_self ..)
        have n2 : b ≠ it := fun z => nb (by rw [z]; exact List.mem_cons_of_mem _ (List.mem_cons_self ..))
        exact (sb.2 b n1).trans (hk b ob n1 n2 q)) hf (Nat.le_refl _) new
    refine ⟨.ref s.heap.objs.size, _, J, rfl, ⟨_, x, rfl, I.hok.fresh (Nat.le_refl _), rfl, fun ys hy => by rw [I.tuple_inj hy hq]; exact hx⟩, ⟨⟨y, ?_⟩, st'.1.at fun o q => (sb.2 it (Ne.symm ne)).trans q, ne, na, nb⟩, fun b hb => ?_⟩
    · rw [show ((i + 1 : Nat) : Int) = (i : Int) + 1 by omega]
      exact he'
    · have lb : b < s.heap.objs.size := by
        rcases List.mem_cons.mp hb with rfl | hb
        · exact le
        · rcases List.mem_cons.mp hb with rfl | hb
          · exact li
          · cases hb
      rw [upd_ne (Nat.ne_of_lt lb)]
      exact (hf b hb).1
  done := by
    intro X hP hw hK hc i pins s σ H E I hf st hg
    subst hP hw hK
    obtain ⟨⟨old, he⟩, hit, ne, na, nb⟩ := st
    obtain ⟨xs, hq, hx⟩ := hg
    obtain ⟨its, rv, pl, hz⟩ := I.tuple hq
    have tp : s.heap.IsTuple a its.toArray := pl
    obtain ⟨f0, f1, f2, f3, f4, f5⟩ := hf it (by simp)
    have en : i = its.toArray.size := by
      rw [List.size_toArray, ← rv.length]
      exact hx.symm
    exact wpAny_pyNext_enum_endD (Draws.tuple (A := X.A.in1) (I.ok.hd hc) it a na its.toArray) he ⟨en ▸ hit, tp⟩ fun h' eb => ⟨rfl, I.turned (t' := s.toks) (fun b o hb q => eb b o hb q) f0 f1 f3 f4 f5⟩
  self := fun A i s Q E st h => let ⟨⟨_, he⟩, _⟩ := st; wpAny_pyIter_enum he h
def iEt (K : PySem.W.Frag) (ta : TA) : TI := fun σ H R => ta σ H fun vs H1 => ∃ a xs, vs = [.ref a] ∧ SqT K H1 a xs ∧ R (Iet K a) H1
theorem kx_enumT (K : PySem.W.Frag) {X : Cx} {e : Expr} {ta : TA} {p pos tpos : Pos} {elts : List Expr} {kk : Nat} (hg : Gl X "enumerate") (hm : X.mg "enumerate" = none) (ha : PA X [e] ta) (hs : starEach [e] X.env = [(false, eval e X.env)] := by rfl) (hK : X.K = K := by rfl) :
    PI X (.Tuple elts kk tpos) (.Call (.Name "enumerate" p) [e] [] pos) (iEt K ta) := by
  subst hK
  refine ⟨fun pins s σ H R I h => ?_⟩
  refine Call_ (ld_blt I hg hm boot_enumerate (PyProof.Rows.callWith_type1 (thn (ha.run pos pins s σ H _ I h) fun us s1 ⟨vs, H1, I1, r1, q1⟩ => ?_) hs rfl))
  obtain ⟨a, xs, rfl, hq, q⟩ := q1
  rw [Vals.ref1 r1]
  obtain ⟨its, rv, pl, hz⟩ := I1.tuple hq
  have tp : s1.heap.IsTuple a its.toArray := pl
  have la : a < s1.heap.objs.size := by
    obtain ⟨o, ho, _⟩ := tp
    exact Heap.lt_size ho
  refine call_enum tp fun h' he hit hsz hk => wpAny_pyIter_enum he ?_
  refine ⟨s1.heap.objs.size + 1, [s1.heap.objs.size + 1, s1.heap.objs.size], _, _, H1, rfl, I1.kept (t' := s1.toks) hk, turn_et a _ s1.heap.objs.size, ⟨⟨.none, he⟩, hit, Nat.succ_ne_self _, Nat.ne_of_lt la, Nat.ne_of_lt (Nat.lt_succ_of_lt la)⟩, fun b hb => ?_, q⟩
  have le : s1.heap.objs.size ≤ b := by
    rcases List.mem_cons.mp hb with rfl | hb
    · exact Nat.le_succ _
    · rcases List.mem_cons.mp hb with rfl | hb
      · exact Nat.le_refl _
      · cases hb
  exact I1.fpOk le (I1.hok.fresh le)
theorem walk_et {K : PySem.W.Frag} {a : Addr} {xs : List V} : Walk (Iet K a) xs.length (fun H => SqT K H a xs) (YPair (fun i => some (.int (i : Nat))) (fun i => xs[i]?)) where
  goes := fun i _ hi q => ⟨xs, xs[i], q, List.getElem?_eq_getElem hi⟩
  stops := fun _ q => ⟨xs, q, rfl⟩
  yields := fun i H v H' _ q ⟨T, x, h1, h2, h3, h4⟩ => ⟨T, .int (i : Nat), x, h1, h2, h3, rfl, h4 xs q⟩
end TE
namespace DL
variable [DL.TabsT]
open PySem PySem.Spec PyProof.Rows L2 Evl Lay ErrX TE
section
variable {K : PySem.W.Frag}
def wItEt (a : WA) : WA := fun Γ Q => a Γ fun ds => match ds with
  | [.t xs] => Q (enumD 0 xs)
  | _ => False
theorem i_enumT {ta : TA} {wa : WA} (h : AOk K ta wa) : IOk K (iEt K ta) (wItEt wa) := fun Γ Q hq F0 H0 F H σ r QI w =>
  h Γ _ hq F0 H0 F H σ r _ fun vs ds F1 H1 z e1 ra => by
    cases ra with
    | nil => exact z.elim
    | cons a ra =>
      cases ra with
      | cons _ _ => cases a <;> exact z.elim
      | nil =>
        cases a with
        | @t p vs xs hp ra =>
          refine ⟨p, vs, rfl, ex_t e1.fh hp, w _ _ F1 H1 z e1 ⟨fun H => SqT K H p vs, YPair (fun i => some (.int (i : Nat))) (fun i => vs[i]?), ?_, fun F2 H2 a b => ex_t b (ex_t a hp), fun k F2 H2 v H3 lt a b y => ?_⟩⟩
          · rw [enumD_len, ← ra.len]
            exact walk_et (xs := vs)
          · obtain ⟨T, x, y, rfl, hT, rfl, q1, q2⟩ := y
            cases q1
            obtain ⟨d, q3, q4⟩ := ra.walk a q2
            obtain ⟨F3, x3, r3⟩ := pair_ok b hT (.i (k : Nat)) q4
            refine ⟨F3, _, enumD_get (k := 0) q3, x3, ?_⟩
            rw [Nat.zero_add]
            exact r3
        | _ => exact z.elim
end
end DL
namespace TSet
variable [DL.TabsT]
open PySem PySem.Spec PyProof.Rows L2
section
variable {P : Program} {w : World} {A : Around} {E : Value → Shared → Prop} {s : Shared}
variable {m : Addr} {Ks : List (Addr × List Int)} {rows : Array (Int × Value)} {era : Nat} {tab : SetTable}
/-- the way through the table, asked without adding -/
theorem look (R : SetTR P w s.heap m Ks rows era tab) {x : Addr} {k : List Int} (hx : IsT P w s.heap k x) (hu : A.units < cLine) {N : Nat} (hN : N < 10 * SetTable.turns tab.mask)
    (free : way tab.mask (thash P w k) N ∉ tab.place.toList) (full : ∀ c, c < N → way tab.mask (thash P w k) c ∈ tab.place.toList) {Q : SetFound → Shared → Prop}
    (yes : k ∈ Ks.map (·.2) → ∀ i, Q (.there (some i)) s) (no : k ∉ Ks.map (·.2) → ∀ j, Q (.free j false) s) :
    ∀ (fuel c : Nat) (at' : Option SetTable.Probe), at'.getD (tab.probeStart (thash P w k)) = nth tab.mask (runAt tab.mask (SetTable.bits (thash P w k) % (tab.mask + 1)) (SetTable.bits (thash P w k))) c → c ≤ N → N - c < fuel →
      (∀ (i : Nat) p, Ks[i]? = some p → p.2 = k → ∃ c', c ≤ c' ∧ c' < N ∧ tab.place.toList[i]? = some (way tab.mask (thash P w k) c')) →
      wpAny (model P w) A (setSearchFrom m (.ref x) (thash P w k) false fuel at') Q E s := by
  intro fuel
  induction fuel with
  | zero => exact fun c _ _ _ lt _ => absurd lt (Nat.not_lt_zero _)
  | succ fuel ih =>
    intro c at' hat hc lt held
    obtain ⟨ob, hob, ex, dat⟩ := R.ob
    rw [setSearchFrom_succ]
    refine wpAny_bind (wpAny_setState_of hob dat R.fits ?_)
    dsimp only
    refine wp_if_neg R.gw ?_
    try refine wpAny_bind (wpAny_pure ?_)
    generalize hp0 : runAt tab.mask (SetTable.bits (thash P w k) % (tab.mask + 1)) (SetTable.bits (thash P w k)) = p0 at hat
    have wayq : ∀ q, way tab.mask (thash P w k) q = (nth tab.mask p0 q).j := fun q => by rw [← hp0]
    have plain : (nth tab.mask p0 c).dummy = none := by
      have step : ∀ (n : Nat) (p : SetTable.Probe), p.dummy = none → (nth tab.mask p n).dummy = none := by
        intro n
        induction n with
        | zero => exact fun _ h => h
        | succ n ihn =>
          intro p h
          refine ihn (adv tab.mask p) ?_
          unfold adv
          split <;> exact h
      refine step c _ ?_
      rw [← hp0]
      rfl
    have sum : ∀ q, nth tab.mask (nth tab.mask p0 c) q = nth tab.mask p0 (c + q) := fun q => (nth_add tab.mask c p0 q).symm
    have got := go_spec tab R.tab.ris R.tab.dm (fun i => (rows[i]?.map (·.1)).getD 0) (thash P w k) (10 * SetTable.turns tab.mask) (N - c) (nth tab.mask p0 c) plain (by omega)
      (fun q hq => by rw [sum, ← wayq]; exact full (c + q) (by omega)) (by rw [sum, ← wayq, show c + (N - c) = N by omega]; exact free)
    have hash : ∀ (i : Nat) p, Ks[i]? = some p → (rows[i]?.map (·.1)).getD 0 = thash P w p.2 := fun i p hp => by rw [R.entry hp]; rfl
    rcases got with ⟨q, i, hq, hi, hh, first, found⟩ | ⟨none', found⟩
    · have prb : tab.probe (fun i => (rows[i]?.map (·.1)).getD 0) (thash P w k) (at'.getD (tab.probeStart (thash P w k))) = some (.candidate (way tab.mask (thash P w k) (c + q)) i (nth tab.mask p0 (c + (q + 1)))) := by
        rw [hat, wayq, ← sum, ← sum]
        exact found
      rw [prb]
      dsimp only
      rw [sum, ← wayq] at hi
      have il : i < Ks.length := by
        have z1 := (List.getElem?_eq_some_iff.mp hi).1
        have z2 := R.tab.sz
        rw [List.length_map] at z2
        rw [Array.length_toList] at z1
        omega
      have hKi : Ks[i]? = some Ks[i] := List.getElem?_eq_getElem il
      generalize Ks[i] = pr at hKi
      have mem := List.mem_of_getElem? hKi
      have tail : wpAny (model P w) A (searchRest m (.ref x) (thash P w k) false fuel rows tab (way tab.mask (thash P w k) (c + q)) i (nth tab.mask p0 (c + (q + 1)))) Q E s := by
        unfold searchRest
        rw [R.entry hKi]
        dsimp only
        refine wpAny_bind (wpAny_holding (wpAny_eqBool_tuple hu (R.tup pr mem) hx ?_))
        refine wpAny_bind (wpAny_setState_of hob dat R.fits ?_)
        dsimp only
        refine wp_if_neg (by simp) ?_
        try refine wpAny_bind (wpAny_pure ?_)
        rw [sameMem]
        dsimp only
        have live := slot_live R.tab.ris hi
        simp only [if_true, live, R.entry hKi]
        refine wpAny_bind (wpAny_isSame_ref_self (wpAny_bind (wpAny_pure ?_)))
        simp only [if_true]
        by_cases hk : pr.2 = k
        · refine wp_if_pos (by simp [hk]) ?_
          exact wpAny_pure (yes (List.mem_map.mpr ⟨pr, mem, hk⟩) i)
        · refine wp_if_neg (by simp [hk]) ?_
          refine ih (c + (q + 1)) _ (by rw [hp0]; rfl) (by omega) (by omega) fun i0 p1 h0 hk0 => ?_
          obtain ⟨c', b1, b2, b3⟩ := held i0 p1 h0 hk0
          refine ⟨c', ?_, b2, b3⟩
          rcases Nat.lt_trichotomy c' (c + q) with z | z | z
          · refine absurd ((hash i0 p1 h0).trans (congrArg (thash P w) hk0)) (first (c' - c) i0 (by omega) ?_)
            rw [sum, ← wayq, show c + (c' - c) = c' by omega]
            exact b3
          · rw [z] at b3
            have l0 := slot_live R.tab.ris b3
            rw [live] at l0
            injection l0 with l0
            rw [← l0, hKi] at h0
            exact absurd ((congrArg Prod.snd (Option.some.inj h0)).trans hk0) hk
          · omega
      by_cases led : tab.led = true
      · refine wp_if_neg (by simp [led]) ?_
        try refine wpAny_bind (wpAny_pure ?_)
        exact tail
      · refine wp_if_pos (by simp [led]) (wpAny_bind (seen_tup hx (fun y hy => ?_) ?_))
        · obtain ⟨en, hen, rfl⟩ := List.mem_map.mp hy
          have inr : en ∈ rows.toList := by
            have : en ∈ rows ∧ en.1 = thash P w k := by simpa using hen
            simpa using this.1
          rw [R.rows] at inr
          obtain ⟨p2, m2, rfl⟩ := List.mem_map.mp inr
          exact ⟨p2.2, p2.1, rfl, R.tup p2 m2⟩
        · refine wp_if_neg (by decide) ?_
          try refine wpAny_bind (wpAny_pure ?_)
          exact tail
    · have prb : tab.probe (fun i => (rows[i]?.map (·.1)).getD 0) (thash P w k) (at'.getD (tab.probeStart (thash P w k))) = some (.empty (way tab.mask (thash P w k) N) none) := by
        have e2 : way tab.mask (thash P w k) N = (nth tab.mask (nth tab.mask p0 c) (N - c)).j := by rw [sum, ← wayq, show c + (N - c) = N by omega]
        rw [hat, e2]
        exact found
      rw [prb]
      dsimp only
      refine wpAny_pure (no (fun hm => ?_) _)
      obtain ⟨p1, m1, hk1⟩ := List.mem_map.mp hm
      obtain ⟨i0, l0, e0⟩ := List.getElem_of_mem m1
      have h0 : Ks[i0]? = some p1 := by rw [List.getElem?_eq_getElem l0, e0]
      obtain ⟨c', b1, b2, b3⟩ := held i0 p1 h0 hk1
      refine none' (c' - c) i0 (by omega) ?_ ((hash i0 p1 h0).trans (congrArg (thash P w) hk1))
      rw [sum, ← wayq, show c + (c' - c) = c' by omega]
      exact b3
theorem find (R : SetTR P w s.heap m Ks rows era tab) {x : Addr} {k : List Int} (hx : IsT P w s.heap k x) (hu : A.units < cLine) {Q : Option Nat → Shared → Prop} (yes : k ∈ Ks.map (·.2) → ∀ i, Q (some i) s) (no : k ∉ Ks.map (·.2) → Q none s) :
    wpAny (model P w) A (setFind m (.ref x) (thash P w k)) Q E s := by
  have room := R.room
  obtain ⟨N, n1, n2, n3⟩ := R.tab.first (by rw [List.length_map]; omega) (thash P w k)
  have few : N < 100000 := by
    have : 10 * SetTable.turns tab.mask ≤ 1420 := by
      unfold SetTable.turns
      rcases R.tab.mok with e | e | e <;> omega
    omega
  obtain ⟨ob, hob, ex, dat⟩ := R.ob
  unfold setFind setFindIn
  refine wpAny_bind (wpAny_setState_of hob dat R.fits ?_)
  dsimp only
  refine wp_if_neg (by simp [byScan, Value.scannable]) ?_
  try refine wpAny_bind (wpAny_pure ?_)
  unfold setSearch
  refine wpAny_bind (look R hx hu n1 n2 n3 (fun h i => wpAny_pure (yes h i)) (fun h j => wpAny_pure (no h)) 100000 0 none rfl (Nat.zero_le _) (by omega) fun i p hp hk => ?_)
  have hi : (Ks.map fun p => thash P w p.2)[i]? = some (thash P w k) := by rw [List.getElem?_map, hp, ← hk]; rfl
  have il : i < tab.place.toList.length := by
    have z1 := (List.getElem?_eq_some_iff.mp hp).1
    have z2 := R.tab.sz
    rw [List.length_map] at z2
    rw [Array.length_toList]
    omega
  obtain ⟨c, hc, e⟩ := R.tab.before n2 hi (List.getElem?_eq_getElem il)
  exact ⟨c, Nat.zero_le _, hc, by rw [List.getElem?_eq_getElem il, e]⟩
theorem typ (R : SetTR P w s.heap m Ks rows era tab) : s.TypeIs (.ref m) "set" := let ⟨o, h, e, _⟩ := R.ob; ⟨o, h, e.1⟩
/-- x in m -/
theorem isIn (R : SetTR P w s.heap m Ks rows era tab) {x : Addr} {k : List Int} (hx : IsT P w s.heap k x) (hu : A.units + 64 < cLine) {Q : Value → Shared → Prop} (q : Q (.bool (decide (k ∈ Ks.map (·.2)))) { s with toks := s.toks + (k.length + 1) }) :
    wpAny (model P w) A (compareOp .In (.ref x) (.ref m)) Q E s := by
  have ty := typ R
  show wpAny _ _ (do return .bool (← contains (.ref m) (.ref x))) Q E s
  refine wpAny_bind ?_
  unfold contains
  try with_reducible refine wpAny_holding ?_
  refine wpAny_bind (wpAny_specialOf ty F.slot_set_contains.lookup ?_)
  show wpAny _ _ (if (some (Value.builtin "set.__contains__") == some Value.none) = true then _ else _) _ E s
  rw [if_neg (by rw [beq_builtin_none]; exact Bool.false_ne_true)]
  refine wpAny_bind (wpAny_callSpecialUnlessNone?_slot (name := Str.ofString "__contains__") ty F.slot_set_contains (wpAny_call_entry F.slot_set_contains ty entry_set_contains ?_ (F.args_set_contains_2 _ _)))
  unfold Builtin.«frozenset.__contains__» Builtin.Frozenset.oneOther
  simp only [List.isEmpty_nil, bind_assoc]
  unfold Builtin.Frozenset.addrOf Builtin.Frozenset.withSetAsKey setContains
  refine wpAny_bind (wpAny_pure ?_)
  try dsimp only
  refine wpAny_bind (wpAny_pure ?_)
  try dsimp only
  refine wpAny_bind (wpAny_tryCatch (wpAny_holding (wpAny_bind (wpAny_pyHash_tuple (by show A.units + 1 < _ ; omega) hx ?_))))
  refine wpAny_bind (find (s := { s with toks := s.toks + (k.length + 1) }) R hx (by show A.units + 1 < _; omega) (fun h i => ?_) fun h => ?_)
  · refine wpAny_pure ?_
    show wpAny _ _ (ret (Value.bool true)) _ _ _
    rw [decide_eq_true h] at q
    exact wpAny_pure ⟨_, rfl, wpAny_truthy_bool (wpAny_pure q)⟩
  · refine wpAny_pure ?_
    show wpAny _ _ (ret (Value.bool false)) _ _ _
    rw [decide_eq_false h] at q
    exact wpAny_pure ⟨_, rfl, wpAny_truthy_bool (wpAny_pure q)⟩
/-- m.add(x) -/
theorem add (R : SetTR P w s.heap m Ks rows era tab) {x : Addr} {k : List Int} (hx : IsT P w s.heap k x) (hu : A.units + 64 < cLine) (few : Ks.length + 1 < 64) {Q : Value → Shared → Prop}
    (q : ∀ h' L' r' e' t', Heap.SameBut m s.heap h' → SetTR P w h' m L' r' e' t' → (k ∈ Ks.map (·.2) → L' = Ks) → (k ∉ Ks.map (·.2) → L'.Perm ((x, k) :: Ks)) → Q .none { s with heap := h', toks := s.toks + (k.length + 1) }) :
    wpAny (model P w) A (call (.builtin "set.add") [.ref m, .ref x]) Q E s := by
  refine wpAny_call_entry F.slot_set_add (typ R) F.entry_set_add ?_ (F.args_set_add_2 _ _)
  unfold Builtin.«set.add» Builtin.Frozenset.oneOther
  simp only [List.isEmpty_nil, bind_assoc]
  unfold Builtin.Frozenset.addrOf setAdd
  refine wpAny_bind (wpAny_pure ?_)
  try dsimp only
  refine wpAny_bind (wpAny_pure ?_)
  try dsimp only
  refine wpAny_bind (wpAny_holding (wpAny_bind (wpAny_pyHash_tuple (by show A.units + 1 < _; omega) hx ?_)))
  refine add_at (s := { s with toks := s.toks + (k.length + 1) }) R hx (by show A.units + 1 < _; omega) few fun b h' L' r' e' t' sb R' y n => ?_
  show wpAny _ _ (ret Value.none) _ _ _
  exact wpAny_pure ⟨_, rfl, q h' L' r' e' t' sb R' y n⟩
end
section
variable {X : Cx}
theorem full {pins : List (Addr × Obj)} {σ : L2.St} {H : Hp} {s : Shared} {m : Addr} {Ks : List (Addr × List Int)} (I : L2.Inv X pins σ H s) (hm : H m = some (SetTO X.prog X.w m Ks)) (ht : ∀ p ∈ Ks, SqT X.K H p.1 (p.2.map V.int)) : ∃ rows era tab, SetTR X.prog X.w s.heap m Ks rows era tab :=
  (show SetT0 X.prog X.w s.heap m Ks from (I.hok m _ hm).1).full fun p hp => I.isT (ht p hp)
/-- the addition seen from above -/
theorem add_up {pins : List (Addr × Obj)} {σ : L2.St} {H : Hp} {s : Shared} {E : Value → Shared → Prop} {m x : Addr} {k : List Int} {Ks : List (Addr × List Int)} {Q : Value → Shared → Prop} (hu : X.A.units + 64 < cLine) (I : L2.Inv X pins σ H s) (hm : H m = some (SetTO X.prog X.w m Ks)) (ht : ∀ p ∈ Ks, SqT X.K H p.1 (p.2.map V.int)) (hx : SqT X.K H x (k.map V.int)) (few : Ks.length + 1 < 64)
    (q : ∀ s' L', (k ∈ Ks.map (·.2) → L' = Ks) → (k ∉ Ks.map (·.2) → L'.Perm ((x, k) :: Ks)) → L2.Inv X pins σ (upd H m (SetTO X.prog X.w m L')) s' → Q .none s') : wpAny (model X.prog X.w) X.A (call (.builtin "set.add") [.ref m, .ref x]) Q E s := by
  obtain ⟨rows, era, tab, R⟩ := full I hm ht
  refine add R (I.isT hx) hu few fun h' L' r' e' t' sb R' y n => q _ L' y n ?_
  have alive : ∃ u, h'.get? m = some u := let ⟨o, z, _⟩ := R'.ob; ⟨o, z⟩
  exact I.write (e := m) (t' := s.toks + (k.length + 1)) (by rw [hm]; trivial) (.inl rfl) (fun b u nb z => (sb.2 b nb).trans z) alive (setTO_new R'.t0)
/-- set() -/
def rNew (P : Program) (w : World) : List V → Hp → VK → Prop := fun xs H Q => xs = [] ∧ ∀ p, H p = none → Q (.ref p) (upd H p (SetTO P w p []))
theorem cr_new : CallR X (.type "set") (rNew X.prog X.w) := by
  intro pins s σ H xs us Q I r h
  obtain ⟨rfl, q⟩ := h
  cases r
  refine setR_new fun _ => ?_
  exact ⟨.ref _, _, I.laid (t' := s.toks) (fun b u z => Heap.get?_push_of_some _ z) (Nat.le_refl _) (setTO_new (setTR_fresh (P := X.prog) (w := X.w) (Heap.get?_push_size _ rfl)).t0), rfl, q _ (I.hok.fresh (Nat.le_refl _))⟩
/-- x in m -/
def rIn (K : PySem.W.Frag) (P : Program) (w : World) : R2 := fun x y H Q => ∃ (b m : Addr) (k : List Int) (Ks : List (Addr × List Int)), x = .ref b ∧ y = .ref m ∧ SqT K H b (k.map V.int) ∧ H m = some (SetTO P w m Ks) ∧ (∀ p ∈ Ks, SqT K H p.1 (p.2.map V.int)) ∧ Q (.bl (decide (k ∈ Ks.map (·.2)))) H
theorem op_in (hu : X.A.units + 64 < cLine) : OpR X (compareOp .In) (rIn X.K X.prog X.w) := by
  intro pins s σ H x y v u Q I rx ry h
  obtain ⟨b, m, k, Ks, rfl, rfl, hb, hm, ht, q⟩ := h
  cases rx
  cases ry
  obtain ⟨rows, era, tab, R⟩ := full I hm ht
  exact isIn R (I.isT hb) hu ⟨.bl _, H, I.tok _, rfl, q⟩
/-- m.add(e) -/
def tAdd (K : PySem.W.Frag) (P : Program) (w : World) (to : TE) (ta : TA) : TE := fun σ H Q => to σ H fun x H1 => (∃ m Ks, x = V.ref m ∧ H1 m = some (SetTO P w m Ks)) ∧ ta σ H1 fun xs H2 => ∃ (m b : Addr) (k : List Int) (Ks : List (Addr × List Int)), x = .ref m ∧ xs = [.ref b] ∧ H2 m = some (SetTO P w m Ks) ∧ (∀ p ∈ Ks, SqT K H2 p.1 (p.2.map V.int)) ∧ SqT K H2 b (k.map V.int) ∧ Ks.length + 1 < 64 ∧
  ∀ L', (k ∈ Ks.map (·.2) → L' = Ks) → (k ∉ Ks.map (·.2) → L'.Perm ((b, k) :: Ks)) → Q .non (upd H2 m (SetTO P w m L'))
theorem pe_add {o e : Expr} {to : TE} {t : TA} {apos cpos : Pos} (hu : X.A.units + 64 < cLine) (ho : PE X o to) (ha : PA X [e] t) (hbase : attributeBase o "add" X.env (eval o X.env) = eval o X.env := by rfl)
    (hfew : ((backTo cpos (starEach [e] X.env)).all (fun x => !x.1) && (backToKw cpos (keywordEach [] X.env)).all (fun x => x.1.isSome) && decide (([e] : List Expr).length + ([] : List Keyword).length + (if ([] : List Keyword).isEmpty then 0 else 1) < 30)) = true := by rfl)
    (hline : (apos.endLine == cpos.line) = true := by rfl) (hs : starEach [e] X.env = (false, eval e X.env) :: starEach [] X.env := by rfl) (hplain : (backTo cpos (starEach [] X.env)).any (·.1) = false := by rfl) :
    PE X (.Call (.Attribute o "add" apos) [e] [] cpos) (tAdd X.K X.prog X.w to t) := by
  refine ⟨fun pins s σ H Q I h => wpAny_Call_method_late hbase hfew hline rfl (thn (ho.run pins s σ H _ I h) fun v s1 ⟨x, H1, I1, r1, ty, q1⟩ => ?_)⟩
  obtain ⟨m, Ks, rfl, hm⟩ := ty
  cases r1
  obtain ⟨es, ep, t1, ⟨ob, hob, ex, _⟩, _⟩ := (show SetT0 X.prog X.w s1.heap m Ks from (I1.hok m _ hm).1).ex
  refine ⟨"set", "set.add", F.plainAttrs_set, F.slot_set_add, F.type_set_add, ⟨ob, hob, ex.1⟩, ?_, ?_⟩
  · intro b z
    cases z
    exact ⟨ob, hob, ex.2.1⟩
  have run := ha.run cpos pins s1 σ H1 _ I1 q1
  rw [hs] at run ⊢
  refine Calls.callWith_builtin (by show (false || (backTo cpos (starEach [] X.env)).any (·.1)) = false; rw [hplain]; rfl) (Calls.evalArgs_plain (thn run fun us s2 ⟨vs, H2, I2, r2, q2⟩ => ?_))
  obtain ⟨m', b, k, Ks', e1, rfl, hm2, ht2, hb2, few, q3⟩ := q2
  cases e1
  rw [Vals.ref1 r2]
  exact add_up hu I2 hm2 ht2 hb2 few fun s' L' y n J => ⟨.non, _, J, rfl, q3 L' y n⟩
/-- {e for target in iter if ..}, e a tuple of ints: at M the new set, the ledger of what it holds within -/
def tSct (K : PySem.W.Frag) (P : Program) (w : World) (wi : TI) (g : TG) (tt : TT) (te : TE) (vs : List Nat) : TE := fun σ H Q => wi σ H fun J H1 => ∀ M, H1 M = none → ∃ W : Nat → Nat → Hp → Prop, (∃ n, W 0 n (upd H1 M (SetTO P w M []))) ∧ ∀ i n H2, W i n H2 →
  (J.stop i H2 ∧ Q (.ref M) H2) ∨ (J.go i H2 ∧ ∃ Nx : Hp → Prop, (∀ H', Nx H' → ∃ n', n' < n ∧ W (i + 1) n' H') ∧ ∀ x H', J.yld i H2 x H' → g x (wipe σ vs) H' fun σ2 H3 => wipe σ2 vs = wipe σ vs ∧ tt σ2 H3 fun b H4 =>
    if b = true then te σ2 H4 fun y H5 => ∃ (a : Addr) (k : List Int) (L : List (Addr × List Int)), y = .ref a ∧ SqT K H5 a (k.map V.int) ∧ H5 M = some (SetTO P w M L) ∧ (∀ p ∈ L, SqT K H5 p.1 (p.2.map V.int)) ∧ L.length + 1 < 64 ∧
      ∀ L', (k ∈ L.map (·.2) → L' = L) → (k ∉ L.map (·.2) → L'.Perm ((a, k) :: L)) → Nx (upd H5 M (SetTO P w M L')) else Nx H4)
theorem pe_sct {elt tg iter : Expr} {ifs : List Expr} {scope : Scope} {own : List (PySem.Str × Nat)} {pos : Pos} {wi : TI} {g : TG} {tt : TT} {te : TE} (calm : X.calm = true) (hu : X.A.units + 64 < cLine) (nd : X.N.Nodup) (pi : PI X tg iter wi) (blk : BlkOk X.N X.env.scope scope own)
    (pgs : ∀ (s : Shared) (H : Hp) (C : Addr) (cl : List (PySem.Str × Addr)) (fp : List Addr), PG (X.blk s H scope (compEnvC scope cl C X.env) fp) tg g)
    (pts : ∀ (s : Shared) (H : Hp) (C : Addr) (cl : List (PySem.Str × Addr)) (fp : List Addr), PTs (X.blk s H scope (compEnvC scope cl C X.env) fp) ifs tt)
    (pes : ∀ (s : Shared) (H : Hp) (C : Addr) (cl : List (PySem.Str × Addr)) (fp : List Addr), PE (X.blk s H scope (compEnvC scope cl C X.env) fp) elt te) (fold : ∀ x, foldedSetIterable iter X.env x = pure x := by intro _; rfl) :
    PE X (.SetComp elt [⟨tg, iter, ifs, 0⟩] scope pos) (tSct X.K X.prog X.w wi g tt te (own.map (·.2))) := by
  refine ⟨fun pins s σ H Q I hq => ?_⟩
  rw [PpSet.eval_SetComp]
  have cap : ∀ y ∈ scope.names, y.2 = .free → ∃ c, X.env.cells.lookup y.1 = some c := fun y hy e => (blk.free y hy e).elim (fun z => I.ok.has _ (.inl z)) (fun z => I.ok.has _ (.inr z))
  refine wpAny_comprehension_free (use := none) rfl fold (closure_ok cap) blk.kind (fun y hy e => by rw [blk.uniq y hy, e]) (thn (pi.run pins s σ H _ I hq) fun xv s1 hx => thn hx fun itv s2 hit => ?_)
  obtain ⟨it, fp, tn, J, H2, rfl, I2, T, st2, f2, q⟩ := hit
  refine PpSet.newSet_ok (newEnv_comp ?_)
  generalize eM : s2.heap.objs.size = M
  have noM : H2 M = none := I2.hok.fresh (Nat.le_of_eq eM)
  obtain ⟨W, ⟨n0, w0⟩, go⟩ := q M noM
  generalize e3 : ({ s2 with heap := s2.heap.push { cls := .type "set", dict := none, data := .set #[] 0 (.fresh 0 0 (!X.w.params.followText "set-order")) } } : Shared) = s3
  have p3 : s3.heap = s2.heap.push { cls := .type "set", dict := none, data := .set #[] 0 (.fresh 0 0 (!X.w.params.followText "set-order")) } := by rw [← e3]
  have I3 : L2.Inv X pins σ (upd H2 M (SetTO X.prog X.w M [])) s3 := by
    rw [← e3]
    refine I2.laid (t' := s2.toks) (fun b o z => Heap.get?_push_of_some _ z) (Nat.le_of_eq eM) (setTO_new (setTR_fresh (P := X.prog) (w := X.w) ?_).t0)
    rw [← eM]
    exact Heap.get?_push_size _ rfl
  have old : ∀ b ∈ fp, b < s2.heap.objs.size := fun b hb => let ⟨o, z, _⟩ := T.obj _ _ st2 b hb; Heap.lt_size z
  have f3 : ∀ b ∈ fp, FpOk X pins (upd H2 M (SetTO X.prog X.w M [])) b ∧ b < s3.heap.objs.size := fun b hb => by
    have lt := old b hb
    refine ⟨⟨?_, (f2 b hb).2⟩, by rw [p3, Heap.size_push]; exact Nat.lt_succ_of_lt lt⟩
    rw [upd_ne (by rw [← eM]; exact Nat.ne_of_lt lt)]
    exact (f2 b hb).1
  have st3 : tn 0 s3.heap := T.keep _ _ _ st2 fun b _ o z => by rw [p3]; exact Heap.get?_push_of_some _ z
  have I4 := block_start I3 blk nd f3
  have qg := pgs s3 (upd H2 M (SetTO X.prog X.w M [])) s3.heap.objs.size (cellsFrom (s3.heap.objs.size + 1) scope.names (cloFrom X.env.cells scope.names [])) fp
  have qt := pts s3 (upd H2 M (SetTO X.prog X.w M [])) s3.heap.objs.size (cellsFrom (s3.heap.objs.size + 1) scope.names (cloFrom X.env.cells scope.names [])) fp
  have qe := pes s3 (upd H2 M (SetTO X.prog X.w M [])) s3.heap.objs.size (cellsFrom (s3.heap.objs.size + 1) scope.names (cloFrom X.env.cells scope.names [])) fp
  show codeAny _ _ (.compStart (.SetComp elt [⟨tg, iter, ifs, 0⟩] scope pos) 0 (.ref it) (.ref M) (compEnvC scope (cellsFrom (s3.heap.objs.size + 1) scope.names (cloFrom X.env.cells scope.names [])) s3.heap.objs.size X.env))
    (compPost (model X.prog X.w) X.A X.xe none _ (.ref M) s3.heap.objs.size) { s3 with heap := pushCells (s3.heap.push { cls := .type "dict", data := .dict #[] }) scope.names }
  have nofp : ∀ b ∈ fp, (upd H2 M (SetTO X.prog X.w M [])) b = none := fun b hb => (f3 b hb).1.1
  generalize ece : compEnvC scope (cellsFrom (s3.heap.objs.size + 1) scope.names (cloFrom X.env.cells scope.names [])) s3.heap.objs.size X.env = ce at I4 qg qt qe ⊢
  have loc : ce.locals = s3.heap.objs.size := by rw [← ece]; rfl
  generalize eH3 : upd H2 M (SetTO X.prog X.w M []) = H3 at I3 I4 qg qt qe w0 nofp f3
  generalize e4 : ({ s3 with heap := pushCells (s3.heap.push { cls := .type "dict", data := .dict #[] }) scope.names } : Shared) = s4 at I4 ⊢
  have st4 : tn 0 s4.heap := T.keep _ _ _ st3 fun b _ o z => by rw [← e4]; exact pushCells_keeps _ _ _ _ (Heap.get?_push_of_some _ z)
  have at1 : ∀ {σ1 : L2.St} {H1 : Hp} {s1 : Shared}, L2.Inv (X.blk s3 H3 scope ce fp) [] σ1 H1 s1 → (∀ b ∈ fp, H1 b = none) → ∀ b ∈ fp, FpOk (X.blk s3 H3 scope ce fp) [] H1 b := fun {σ1 H1 s1} J1 hn b hb =>
    ⟨hn b hb, (J1.ok.exf b hb).1, J1.ok.exfs b hb, .inl hb, fun x c z => (J1.ok.exf b hb).2 x c z, fun p hp => by cases (show p ∈ ([] : List (Addr × Obj)) from hp)⟩
  refine DL.once (fun lp => PpSet.codeAny_compStart_set lp (T.self X.A 0 _ _ _ st4 lp)) ?_
  refine PpSet.compLoopS_any (fun n s5 => ∃ i H5, L2.Inv (X.blk s3 H3 scope ce fp) [] (wipe σ (own.map (·.2))) H5 s5 ∧ tn i s5.heap ∧ (∀ b ∈ fp, H5 b = none) ∧ W i n H5) ?_ n0 ⟨0, H3, I4, st4, nofp, w0⟩
  rintro n s5 ⟨i, H5, I5, st5, no5, w5⟩
  rcases go i n H5 w5 with ⟨stop, done⟩ | ⟨more, Nx, hNx, step⟩
  · refine thnF (T.done (X.blk s3 H3 scope ce fp) rfl rfl rfl calm i [] s5 _ H5 (fun _ _ => False) I5 (at1 I5 no5) st5 stop) fun r s6 ⟨hr, I6⟩ => ?_
    subst hr
    have I7 : L2.Inv X pins σ H5 s6 := I3.call' (ch := fp) I6.os I6.base I6.hok I6.bare fun b hb => let z := (f3 b hb).1.2; ⟨z.2.2.1, z.1, z.2.2.2.1, z.2.2.2.2⟩
    have noC : H5 s3.heap.objs.size = none := loc ▸ I6.free
    obtain ⟨m, hns, _⟩ := I6.loc
    have hns : s6.heap.Ns s3.heap.objs.size m := loc ▸ hns
    refine ⟨m, hns, fun h'' sb => ?_⟩
    obtain ⟨k0, k1, k2, k3, k4, k5⟩ := I3.fpOk (Nat.le_refl _) noC
    exact ⟨.ref M, H5, I7.turned (t' := s6.toks) (fun b o nb z => (sb.2 b nb).trans z) k0 k1 k3 k4 k5, rfl, done⟩
  · refine thnF (T.item (X.blk s3 H3 scope ce fp) rfl rfl rfl calm i [] s5 _ H5 (fun _ _ => False) I5 (at1 I5 no5) st5 more) fun r s6 ⟨u, hr, nxt⟩ => ?_
    subst hr
    refine thnF nxt fun _ s7 ⟨x, H7, I7, r7, y7, st7, no7⟩ => ?_
    refine thnF (qg.run _ s7 _ H7 x u _ (I7.pinned (at1 I7 no7) (T.obj _ _ st7)) r7 (step x H7 y7)) fun _ s8 ⟨σ8, H8, I8, wp8, q8⟩ => ?_
    refine thnF (qt.run _ s8 σ8 H8 _ I8 q8) fun b s9 ⟨H9, I9, q9⟩ => ?_
    have close : ∀ {s' : Shared} {H' : Hp}, L2.Inv (X.blk s3 H3 scope ce fp) ([] ++ pinsAt fp s7.heap) σ8 H' s' → Nx H' → ∃ m, m < n ∧ ∃ i H', L2.Inv (X.blk s3 H3 scope ce fp) [] (wipe σ (own.map (·.2))) H' s' ∧ tn i s'.heap ∧ (∀ b ∈ fp, H' b = none) ∧ W i m H' := fun {s' H'} J' nx => by
      obtain ⟨n', lt, w'⟩ := hNx H' nx
      have stays : ∀ b ∈ fp, ∀ o, s7.heap.get? b = some o → s'.heap.get? b = some o ∧ H' b = none := fun b hb o z =>
        let y := J'.pin (b, o) (List.mem_append_right _ (List.mem_append_right _ (mem_pinsAt hb z)))
        ⟨y.1, y.2.1⟩
      refine ⟨n', lt, i + 1, H', (J'.unpinned (pins := [])).weak (by rw [← wp8, wipe_length]) (fun j v z => ?_), T.keep _ _ _ st7 fun b hb o z => (stays b hb o z).1, fun b hb => ?_, w'⟩
      · rw [← wp8] at z
        exact (wipe_some z).1
      · obtain ⟨o, z, _⟩ := T.obj _ _ st7 b hb
        exact (stays b hb o z).2
    cases b with
    | false =>
      simp only [Bool.false_eq_true, if_false] at q9 ⊢
      exact close I9 q9
    | true =>
      simp only [if_true] at q9 ⊢
      refine thnF (qe.run _ s9 σ8 H9 _ I9 q9) fun z s10 ⟨yv, H10, I10, r10, a, k, L, ey, ha, hL, ht, few, nx⟩ => ?_
      subst ey
      cases (show z = Value.ref a from r10)
      exact add_up (X := X.blk s3 H3 scope ce fp) hu I10 hL ht ha few fun s11 L' y1 y2 I11 => close I11 (nx L' y1 y2)
end
end TSet
namespace DL
variable [DL.TabsT]
open PySem PySem.Spec PyProof.Rows L2 Evl Lay ErrX
section
variable (K : PySem.W.Frag) (P : Program) (w : World) {X : Cx}
theorem kx_newS (hP : X.prog = P := by rfl) (hw : X.w = w := by rfl) : CallR X (.type "set") (TSet.rNew P w) := by
  subst hP hw
  exact TSet.cr_new
theorem kx_inS (hu : X.A.units + 64 < cLine) (hK : X.K = K := by rfl) (hP : X.prog = P := by rfl) (hw : X.w = w := by rfl) : OpR X (compareOp .In) (TSet.rIn K P w) := by
  subst hK hP hw
  exact TSet.op_in hu
/-- len of a set of tuples -/
def rLenS : List V → Hp → VK → Prop := fun xs H Q => ∃ (m : Addr) (L : List (Addr × List Int)), xs = [.ref m] ∧ H m = some (SetTO P w m L) ∧ Q (.int (L.length : Nat)) H
theorem kx_lenS (hP : X.prog = P := by rfl) (hw : X.w = w := by rfl) : CallR X (.builtin "len") (rLenS P w) := by
  subst hP hw
  intro pins s σ H xs us Q I r h
  obtain ⟨m, L, rfl, hm, q⟩ := h
  rw [Vals.ref1 r]
  have R0 : SetT0 X.prog X.w s.heap m L := (I.hok m _ hm).1
  obtain ⟨es, ep, t, ⟨o, ho, ex, hd⟩, rows, tab, nd, pl, led, room, few⟩ := R0.ex
  have e1 : es.size = L.length := by
    have := congrArg List.length rows
    unfold rowsOf at this
    rw [Array.length_toList, List.length_map] at this
    exact this
  have e2 := tab.sz
  rw [List.length_map] at e2
  have fit : t.fits es.size = true := by
    unfold SetTable.fits SetTable.fill
    rw [tab.dm, Bool.and_eq_true, beq_iff_eq, decide_eq_true_eq]
    refine ⟨by omega, ?_⟩
    show t.place.size + 0 ≤ t.mask
    omega
  refine call_len_set ho ex hd fit (by omega) ⟨.int (L.length : Nat), H, I.tok _, ?_, q⟩
  rw [e1]
  exact ⟨_, rfl⟩
/-- m.add(e) -/
theorem kx_addS {o e : Expr} {to : TE} {t : TA} {apos cpos : Pos} (hu : X.A.units + 64 < cLine) (ho : PE X o to) (ha : PA X [e] t) (hbase : attributeBase o "add" X.env (eval o X.env) = eval o X.env := by rfl)
    (hfew : ((backTo cpos (starEach [e] X.env)).all (fun x => !x.1) && (backToKw cpos (keywordEach [] X.env)).all (fun x => x.1.isSome) && decide (([e] : List Expr).length + ([] : List Keyword).length + (if ([] : List Keyword).isEmpty then 0 else 1) < 30)) = true := by rfl)
    (hline : (apos.endLine == cpos.line) = true := by rfl) (hs : starEach [e] X.env = (false, eval e X.env) :: starEach [] X.env := by rfl) (hplain : (backTo cpos (starEach [] X.env)).any (·.1) = false := by rfl) (hK : X.K = K := by rfl) (hP : X.prog = P := by rfl) (hw : X.w = w := by rfl) :
    PE X (.Call (.Attribute o "add" apos) [e] [] cpos) (TSet.tAdd K P w to t) := by
  subst hK hP hw
  exact TSet.pe_add hu ho ha hbase hfew hline hs hplain
theorem kx_sct {elt tg iter : Expr} {ifs : List Expr} {scope : Scope} {own : List (PySem.Str × Nat)} {pos : Pos} {wi : TI} {g : TG} {tt : TT} {te : TE} (calm : X.calm = true) (hu : X.A.units + 64 < cLine) (nd : X.N.Nodup) (pi : PI X tg iter wi) (blk : BlkOk X.N X.env.scope scope own)
    (pgs : ∀ (s : Shared) (H : Hp) (C : Addr) (cl : List (PySem.Str × Addr)) (fp : List Addr), PG (X.blk s H scope (compEnvC scope cl C X.env) fp) tg g)
    (pts : ∀ (s : Shared) (H : Hp) (C : Addr) (cl : List (PySem.Str × Addr)) (fp : List Addr), PTs (X.blk s H scope (compEnvC scope cl C X.env) fp) ifs tt)
    (pes : ∀ (s : Shared) (H : Hp) (C : Addr) (cl : List (PySem.Str × Addr)) (fp : List Addr), PE (X.blk s H scope (compEnvC scope cl C X.env) fp) elt te) (fold : ∀ x, foldedSetIterable iter X.env x = pure x := by intro _; rfl) (hK : X.K = K := by rfl) (hP : X.prog = P := by rfl) (hw : X.w = w := by rfl) :
    PE X (.SetComp elt [⟨tg, iter, ifs, 0⟩] scope pos) (TSet.tSct K P w wi g tt te (own.map (·.2))) := by
  subst hK hP hw
  exact TSet.pe_sct calm hu nd pi blk pgs pts pes fold
end
section
variable {K : PySem.W.Frag} {P : Program} {w : World}
theorem RA.intsT {F H : Hp} {p : Addr} {ns : List Int} (e : Ex F H) (r : R K F (.ref p) (.t (ns.map D.i))) : SqT K H p (ns.map V.int) := by
  cases r with
  | t h ra =>
    have := ra.toInts
    subst this
    exact ex_t e h
theorem perm2 {p : Addr} {ns : List Int} {L L' : List (Addr × List Int)} {ks : List (List Int)} (h : L'.Perm ((p, ns) :: L)) (pm : (L.map (·.2)).Perm ks) : (L'.map (·.2)).Perm (ns :: ks) := by
  have z : (L'.map (fun z : Addr × List Int => z.2)).Perm (ns :: L.map (fun z : Addr × List Int => z.2)) := h.map _
  exact z.trans (List.Perm.cons ns pm)
/-- x = set() -/
abbrev wNewS (P : Program) (w : World) (k : Nat) : WS := fun Po Γ => Po.nx (put Γ k (.os (SetTO P w) []))
theorem s_newS {k : Nat} : SOk K (tAsg (tCB (TSet.rNew P w) tNil) (gName k)) (wNewS P w k) := fun Po Γ hq F0 H0 F H σ r E want => ⟨rfl, fun p hp => by
  have e := Ext.heap r.fh (Ex.new (o := SetTO P w p []) hp)
  exact want.nx _ _ _ _ hq ((r.ext e).setW (fresh_back r.fh hp) (ExT.back r.h0 hp) upd_same ⟨[], rfl, List.Perm.nil, fun q hq => by cases hq⟩ fun m ys _ q s => by
    obtain ⟨p', _, a, _, _, d, nf⟩ := r.ow m ys q
    rw [s] at a
    cases a
    exact Free.not hp d nf.nt.1)⟩
/-- e in x, x a set of one's own -/
abbrev wInS (P : Program) (w : World) (k : Nat) (a : WE) : WE := fun Γ Q => a Γ fun x => match x with
  | .t xs => match nth Γ k with
    | .w (.s f ks _) => f = SetTO P w ∧ ∃ ns : List Int, xs = ns.map D.i ∧ Q (.b (decide (ns ∈ ks)))
    | _ => False
  | _ => False
theorem e_inS {k : Nat} {ta : TE} {wa : WE} (ha : EOk K ta wa) : EOk K (tOp (TSet.rIn K P w) ta (tVar k)) (wInS P w k wa) := fun Γ Q hq F0 H0 F H σ r QV want =>
  ha Γ _ hq F0 H0 F H σ r _ fun v d F1 H1 z e1 rv => by
    cases rv with
    | @t p vs xs h ra =>
      have z : (match nth Γ k with | .w (.s f ks _) => f = SetTO P w ∧ ∃ ns : List Int, xs = ns.map D.i ∧ Q (.b (decide (ns ∈ ks))) | _ => False) := z
      cases q : nth Γ k with
      | u => rw [q] at z; exact z.elim
      | d x => rw [q] at z; exact z.elim
      | w o =>
        rw [q] at z
        cases o with
        | l xs => exact z.elim
        | la _ _ _ => exact z.elim
        | s f ks nt =>
          obtain ⟨rfl, ns, rfl, hQ⟩ := z
          obtain ⟨m, ho, a, b, c, hd, L, rfl, pm, ht⟩ := (r.ext e1).ow k _ q
          refine ⟨.ref m, a, p, m, ns, L, rfl, rfl, RA.intsT e1.fh (.t h ra), hd, fun q hq => ex_t e1.fh (ht q hq), ?_⟩
          have e : decide (ns ∈ L.map (·.2)) = decide (ns ∈ ks) := by
            rw [Bool.eq_iff_iff, decide_eq_true_iff, decide_eq_true_iff]
            exact pm.mem_iff
          rw [e]
          exact want _ _ F1 H1 hQ e1 (.b _)
    | _ => exact z.elim
/-- x.add(e), x a set of one's own -/
abbrev wAddS (P : Program) (w : World) (k : Nat) (a : WE) : WS := fun Po Γ => match nth Γ k with
  | .w (.s f ks _) => f = SetTO P w ∧ ks.length + 1 < 64 ∧ a Γ fun x => match x with
    | .t xs => ∃ ns : List Int, xs = ns.map D.i ∧ (ns ∈ ks → Po.nx Γ) ∧ (ns ∉ ks → Po.nx (put Γ k (.os (SetTO P w) (ns :: ks))))
    | _ => False
  | _ => False
theorem s_addS {k : Nat} {te : TE} {we : WE} (h : EOk K te we) : SOk K (tDrop (TSet.tAdd K P w (tVar k) (tCons te tNil))) (wAddS P w k we) := fun Po Γ hq F0 H0 F H σ r E want => by
  unfold wAddS at hq
  cases q : nth Γ k with
  | u => rw [q] at hq; exact hq.elim
  | d x => rw [q] at hq; exact hq.elim
  | w o =>
    rw [q] at hq
    cases o with
    | l xs => exact hq.elim
    | la _ _ _ => exact hq.elim
    | s f ks nt =>
      obtain ⟨rfl, few, hq⟩ := hq
      obtain ⟨m, ho, a, b, c, hd, L, eL, pm, ht⟩ := r.ow k _ q
      subst eL
      refine ⟨.ref m, a, ⟨m, L, rfl, hd⟩, h Γ _ hq F0 H0 F H σ r _ fun v d F1 H1 z e1 rv => ?_⟩
      cases rv with
      | @t p vs xs hp ra =>
        obtain ⟨ns, rfl, z1, z2⟩ := z
        have r1 := r.ext e1
        have tt : ∀ q ∈ L, SqT K F1 q.1 (q.2.map V.int) := fun q hq => ex_t e1.ff (ht q hq)
        have tf : SqT K F1 p (ns.map V.int) := by
          have := ra.toInts
          subst this
          exact hp
        have len : L.length = ks.length := by
          have := pm.length_eq
          rw [List.length_map] at this
          exact this
        refine ⟨m, p, ns, L, rfl, rfl, e1.hh.kp hd, fun q hq => ex_t e1.fh (tt q hq), ex_t e1.fh tf, by omega, fun L' y1 y2 => ?_⟩
        by_cases hin : ns ∈ ks
        · rw [y1 (pm.mem_iff.mpr hin)]
          have same : upd H1 m (SetTO P w m L) = H1 := by
            funext b
            unfold upd
            split
            · rename_i e
              rw [e]
              exact (e1.hh.kp hd).symm
            · rfl
          rw [same]
          exact want.nx _ _ _ _ (z1 hin) r1
        · have pm' := y2 fun z => hin (pm.mem_iff.mp z)
          refine want.nx _ _ _ _ (z2 hin) (r1.chgW q a ⟨L', rfl, perm2 pm' pm, fun q hq => ?_⟩)
          rcases List.mem_cons.mp (pm'.mem_iff.mp hq) with rfl | hq
          · exact tf
          · exact tt q hq
      | _ => exact z.elim
/-- which different ones come of n turns -/
def SelS (c : Nat → Bool) (Pd : Nat → List Int → Prop) : Nat → List (List Int) → Prop
  | 0, ys => ys = []
  | n + 1, ys => if c n = true then ∃ zs y, SelS c Pd n zs ∧ Pd n y ∧ ((y ∈ zs ∧ ys = zs) ∨ (y ∉ zs ∧ ys.Perm (y :: zs))) else SelS c Pd n ys
theorem SelS.len {c : Nat → Bool} {Pd : Nat → List Int → Prop} : ∀ {n : Nat} {ys : List (List Int)}, SelS c Pd n ys → ys.length ≤ n
  | 0, ys, h => by
    cases (show ys = [] from h)
    exact Nat.le_refl _
  | n + 1, ys, h => by
    unfold SelS at h
    split at h
    · obtain ⟨zs, y, h1, _, h2⟩ := h
      have := SelS.len h1
      rcases h2 with ⟨_, rfl⟩ | ⟨_, h2⟩
      · omega
      · have := h2.length_eq
        simp at this
        omega
    · have := SelS.len h
      omega
theorem SelS.perm {c : Nat → Bool} {Pd : Nat → List Int → Prop} {n : Nat} {ys zs : List (List Int)} (h : SelS c Pd n ys) (p : zs.Perm ys) : ∃ us, SelS c Pd n us ∧ us.length = zs.length := ⟨ys, h, p.length_eq.symm⟩
/-- len({e for ..}) -/
abbrev wLenSc (it : WA) (g : WG) (t : WT) (e : WE) (vs : List Nat) : WE := fun Γ Q => it Γ fun xs => xs.length ≤ 60 ∧ ∃ (c : Nat → Bool) (Pd : Nat → List Int → Prop),
  (∀ k x, xs[k]? = some x → g x (wipeG Γ vs) fun Γ2 => t Γ2 fun b => b = c k ∧ (b = true → e Γ2 fun d => ∃ ns : List Int, d = .t (ns.map D.i) ∧ Pd k ns)) ∧ ∀ ys, SelS c Pd xs.length ys → Q (.i (ys.length : Nat))
theorem e_lenSc {wi : TI} {g : TG} {tt : TT} {te : TE} {vs js : List Nat} {wit : WA} {wg : WG} {wt : WT} {we : WE} (hi : IOk K wi wit) (hg : GOk K g wg js) (ht : TOk K tt wt) (he : EOk K te we) (hj : ∀ j ∈ js, j ∈ vs := by decide) :
    EOk K (tCB (rLenS P w) (tCons (TSet.tSct K P w wi g tt te vs) tNil)) (wLenSc wit wg wt we vs) := fun Γ Q hq F0 H0 F H σ r QV want =>
  hi Γ _ hq F0 H0 F H σ r _ fun J xs F1 H1 z e1 hit => by
    obtain ⟨lx, c, Pd, turn, fin⟩ := z
    obtain ⟨Gd, Y, wk, good, yld⟩ := hit
    intro M hM
    have r1 := (r.ext e1).wipe vs
    refine ⟨fun i n H' => n = xs.length - i ∧ i ≤ xs.length ∧ ∃ F' L ys, Ext F1 H1 F' H' ∧ F' M = none ∧ H' M = some (SetTO P w M L) ∧ (L.map (·.2)).Perm ys ∧ (∀ q ∈ L, SqT K F' q.1 (q.2.map V.int)) ∧ SelS c Pd i ys,
      ⟨xs.length, by simp, Nat.zero_le _, F1, [], [], Ext.heap e1.fh (Ex.new hM), fresh_back e1.fh hM, upd_same, List.Perm.nil, fun q hq => (by cases hq), rfl⟩, ?_⟩
    rintro i n H' ⟨rfl, hi, F', L, ys, x, hf, hd, pm, ht2, hs⟩
    have gd := good F' H' x.ff x.fh
    by_cases lt : i < xs.length
    · refine .inr ⟨wk.goes i H' lt gd, fun H2 => i + 1 ≤ xs.length ∧ ∃ F' L ys, Ext F1 H1 F' H2 ∧ F' M = none ∧ H2 M = some (SetTO P w M L) ∧ (L.map (·.2)).Perm ys ∧ (∀ q ∈ L, SqT K F' q.1 (q.2.map V.int)) ∧ SelS c Pd (i + 1) ys, fun H2 q => ⟨_, by omega, rfl, q.1, q.2⟩, fun v H2 y => ?_⟩
      obtain ⟨F2, d, hx, e2, rv⟩ := yld i F' H' v H2 lt x.ff x.fh (wk.yields i H' v H2 lt gd y)
      have nof : ∀ {F3 H3 : Hp}, Ext F' H' F3 H3 → F3 M = none := fun {F3 H3} e3 => by
        cases q : F3 M with
        | none => rfl
        | some o =>
          exact ((e3.nw M o q hf).not hd (fun ps z => by cases z)).elim
      refine hg d _ _ (turn i d hx) F0 H0 F2 H2 _ v (r1.ext (x.trans e2)) rv _ fun Γ3 σ3 F3 H3 z3 r3 e3 w3 => ⟨by rw [w3 vs hj]; exact wipe_twice σ vs, ?_⟩
      refine ht Γ3 _ z3 F0 H0 F3 H3 σ3 r3 _ fun b F4 H4 z4 e4 => ?_
      obtain ⟨hb, z4⟩ := z4
      have e34 := (e2.trans e3).trans e4
      cases b with
      | true =>
        show te σ3 H4 _
        refine he Γ3 _ (z4 rfl) F0 H0 F4 H4 σ3 (r3.ext e4) _ fun u dy F5 H5 z5 e5 ru => ?_
        obtain ⟨ns, rfl, pd⟩ := z5
        have e25 := e34.trans e5
        cases ru with
        | @t p us _ hp ra =>
          have := ra.toInts
          subst this
          have tt2 : ∀ q ∈ L, SqT K F5 q.1 (q.2.map V.int) := fun q hq => ex_t e25.ff (ht2 q hq)
          have len : L.length = ys.length := by
            have := pm.length_eq
            rw [List.length_map] at this
            exact this
          have ll := hs.len
          refine ⟨p, ns, L, rfl, ex_t e5.fh hp, e25.hh.kp hd, fun q hq => ex_t e5.fh (tt2 q hq), by omega, fun L' y1 y2 => ?_⟩
          have x5 := x.trans e25
          have up : ∀ (o : HO), Ext F1 H1 F5 (upd H5 M o) := fun o => ⟨x5.ff, x5.hh.mut hM, (fun a o' q => by rw [upd_ne (ne_of_none q (nof e25))]; exact x5.fh a o' q), x5.tb.mut (e25.hh.kp hd) noTab_set, x5.nw⟩
          refine ⟨lt, ?_⟩
          by_cases hin : ns ∈ ys
          · rw [y1 (pm.mem_iff.mpr hin)]
            refine ⟨F5, L, ys, up _, nof e25, upd_same, pm, tt2, ?_⟩
            unfold SelS
            rw [← hb, if_pos rfl]
            exact ⟨ys, ns, hs, pd, .inl ⟨hin, rfl⟩⟩
          · have pm' := y2 fun z => hin (pm.mem_iff.mp z)
            refine ⟨F5, L', ns :: ys, up _, nof e25, upd_same, perm2 pm' pm, fun q hq => ?_, ?_⟩
            · rcases List.mem_cons.mp (pm'.mem_iff.mp hq) with rfl | hq
              · exact hp
              · exact tt2 q hq
            · unfold SelS
              rw [← hb, if_pos rfl]
              exact ⟨ys, ns, hs, pd, .inr ⟨hin, List.Perm.refl _⟩⟩
      | false =>
        show _ ∧ _
        refine ⟨lt, F4, L, ys, x.trans e34, nof e34, e34.hh.kp hd, pm, fun q hq => ex_t e34.ff (ht2 q hq), ?_⟩
        unfold SelS
        rw [← hb, if_neg (by decide)]
        exact hs
    · have e : i = xs.length := by omega
      subst e
      refine .inl ⟨wk.stops H' gd, M, L, rfl, hd, ?_⟩
      have len : L.length = ys.length := by
        have := pm.length_eq
        rw [List.length_map] at this
        exact this
      rw [len]
      exact want _ _ F' H' (fin ys hs) (e1.trans x) (.i _)
end
end DL
namespace Lay
open PySem PySem.Spec PyProof.Rows L2 Evl
end Lay
namespace DL
variable [DL.TabsT]
open PySem PySem.Spec PyProof.Rows L2 Evl Lay ErrX
open PySem.W (Frag nsIn codeIn keepIn)
def chkM (K : Frag) (n : Str) (v : Int) : Bool := match nsIn K mainGlobals n with
  | some (some (.int i _)) => i == v
  | _ => false
theorem m_of {K : Frag} {h : Heap} {mg : Str → Option Value} (X : K.In h) (G : h.Ns mainGlobals mg) {n : Str} {v : Int} (hm : chkM K n v = true) : ∃ t, mg n = some (.int v t) := by
  unfold chkM at hm
  split at hm
  · rename_i i t e
    have := beq_iff_eq.mp hm
    subst this
    exact ⟨t, PySem.W.mg_of X G e⟩
  · cases hm
/-- without tables -/
def noTbl (H : Hp) : Hp := fun p => match H p with
  | some (.tbl _) => none
  | o => o
theorem noTbl_ex (H : Hp) : Ex (noTbl H) H := fun p o h => by
  unfold noTbl at h
  split at h
  · cases h
  · exact h
theorem noTbl_nt (H : Hp) : NTF (noTbl H) := fun p ps h => by
  unfold noTbl at h
  split at h
  · cases h
  · rename_i n
    exact n ps h
theorem noTbl_l {K : Frag} {H : Hp} {a : Addr} {xs : List V} (h : SqL K H a xs) : SqL K (noTbl H) a xs := by
  have k : ∀ o : HO, H a = some o → (∀ ps, o ≠ .tbl ps) → noTbl H a = some o := fun o h n => by
    unfold noTbl
    split
    · rename_i ps e
      rw [h] at e
      exact absurd (Option.some.inj e) (n ps)
    · exact h
  rcases h with h | h
  · rcases h with h | ⟨o, h⟩
    · exact .inl (.inl (k _ h fun ps z => by cases z))
    · exact .inl (.inr ⟨o, k _ h fun ps z => by cases z⟩)
  · exact .inr h
end DL
theorem L2.Room.u65 {k : Nat} {A : PySem.Around} (r : L2.Room k A) : A.units + 65 < PySem.cLine := by
  have := r.un
  omega
namespace DL
variable [DL.TabsT]
open PySem PySem.Spec PyProof.Rows L2 Evl Lay ErrX
section
variable {X : Cx}
variable (K : PySem.W.Frag)
theorem kx_inD (hu : X.A.units + 65 < cLine) (h : X.K = K := by rfl) : OpR X (compareOp .In) (rInD K) := h ▸ op_inD hu
theorem kx_notInD (hu : X.A.units + 65 < cLine) (h : X.K = K := by rfl) : OpR X (compareOp .NotIn) (rNotInD K) := h ▸ op_notInD hu
end
section
variable {K : PySem.W.Frag}
abbrev isN : D → Bool := fun x => match x with
  | .n => true
  | _ => false
abbrev wNotN : D → D → (D → Prop) → Prop := fun x y Q => match y with
  | .n => Q (.b (!isN x))
  | _ => False
theorem isN_ok {F : Hp} {v : V} {x : D} (r : R K F v x) : decide (v = .non) = isN x := by
  cases r <;> rfl
theorem o_notN : OOk K (fun x y H Q => y = .non ∧ Q (.bl (!decide (x = .non))) H) wNotN := fun x y Q hq F H vx vy e rx ry QV q => by
  unfold wNotN at hq
  split at hq
  · cases ry
    refine ⟨rfl, ?_⟩
    rw [isN_ok rx]
    exact q _ _ F H hq (Ext.refl e) (.b _)
  · exact hq.elim
/-- a + b of lists: a new list -/
abbrev wCat (a b : WE) : WA := fun Γ Q => a Γ fun x => b Γ fun y => match x, y with
  | .l xs, .l ys => xs.length + ys.length ≤ 100000 ∧ Q (xs ++ ys)
  | _, _ => False
theorem f_cat {ta tb : TE} {a b : WE} (h1 : EOk K ta a) (h2 : EOk K tb b) : FOk K (tOp rCat ta tb) (wCat a b) := fun Γ Q hq F0 H0 F H σ r QV w =>
  h1 Γ _ hq F0 H0 F H σ r _ fun v x F1 H1 z1 e1 rx => h2 Γ _ z1 F0 H0 F1 H1 σ (r.ext e1) _ fun u y F2 H2 z2 e2 ry => by
    have z2 : (match (generalizing := false) x, y with | .l xs, .l ys => xs.length + ys.length ≤ 100000 ∧ Q (xs ++ ys) | _, _ => False) := z2
    have rx := rx.mono e2.ff
    split at z2
    · cases rx with
      | @l p vs xs hp ra =>
        cases ry with
        | @l p' ws ys hp' rb =>
          refine ⟨p, p', vs, ws, rfl, rfl, e2.fh _ _ hp, e2.fh _ _ hp', sz_of (by rw [ra.len, rb.len]; exact z2.1), fun a ha => ?_⟩
          exact w a (vs ++ ws) _ F2 _ z2.2 ((e1.trans e2).trans (Ext.heap e2.fh (Ex.new ha))) (ExT.back (e1.trans e2).hh ha) (fresh_back e2.fh ha) upd_same (ra.app rb)
    · exact z2.elim
/-- tuple(l) -/
def rTupleOf (K : PySem.W.Frag) : List V → Hp → VK → Prop := fun xs H Q => ∃ p ys, xs = [.ref p] ∧ ((SqL K H p ys ∧ ∀ l, H l = none → Q (.ref l) (upd H l (.tup ys))) ∨ (SqT K H p ys ∧ Q (.ref p) H))
theorem kx_tupleOf (K : PySem.W.Frag) {X : Cx} (h : X.K = K := by rfl) : CallR X (.type "tuple") (rTupleOf K) := h ▸ call_tuple_of
abbrev wTupleOf : List D → (D → Prop) → Prop := fun xs Q => match xs with
  | [.l ys] => Q (.t ys)
  | [.t ys] => Q (.t ys)
  | _ => False
theorem c_tupleOf : COk K (rTupleOf K) wTupleOf := fun xs Q hq F H vs e r QV q => by
  unfold wTupleOf at hq
  split at hq
  · cases r with
    | cons a r =>
      cases r
      cases a with
      | @l p ws _ hp ra =>
        refine ⟨p, ws, rfl, .inl ⟨sq_of (e _ _ hp), fun l hl => ?_⟩⟩
        exact q _ _ (upd F l (.tup ws)) _ hq (Ext.new e hl) (.t (st_of upd_same) (ra.mono (Ex.new (fresh_back e hl))))
  · cases r with
    | cons a r =>
      cases r
      cases a with
      | @t p ws _ hp ra => exact ⟨p, ws, rfl, .inr ⟨ex_t e hp, q _ _ F H hq (Ext.refl e) (.t hp ra)⟩⟩
  · exact hq.elim
/-- x in l, deep -/
def wInD : D → D → (D → Prop) → Prop := fun x y Q => ∃ d xs ds, y = .l xs ∧ py x = some d ∧ pyA xs = some ds ∧ SeqAt.shaped d = true ∧ SeqAt.shaped (.list ds) = true ∧ Q (.b (ds.any fun z => PyData.eqv z d))
def wNotInD : D → D → (D → Prop) → Prop := fun x y Q => ∃ d xs ds, y = .l xs ∧ py x = some d ∧ pyA xs = some ds ∧ SeqAt.shaped d = true ∧ SeqAt.shaped (.list ds) = true ∧ Q (.b (!ds.any fun z => PyData.eqv z d))
theorem o_inD : OOk K (rInD K) wInD := fun x y Q ⟨d, xs, ds, hy, h1, h2, s1, s2, hq⟩ F H vx vy x' rx ry QV q => by
  subst hy
  exact ⟨d, ds, rx.dp x' h1, ry.dp x' (by show (pyA xs).map PyData.list = _; rw [h2]; rfl), s1, s2, q _ _ F H hq (Ext.refl x') (.b _)⟩
theorem o_notInD : OOk K (rNotInD K) wNotInD := fun x y Q ⟨d, xs, ds, hy, h1, h2, s1, s2, hq⟩ F H vx vy x' rx ry QV q => by
  subst hy
  exact ⟨d, ds, rx.dp x' h1, ry.dp x' (by show (pyA xs).map PyData.list = _; rw [h2]; rfl), s1, s2, q _ _ F H hq (Ext.refl x') (.b _)⟩
end
end DL
namespace DL
variable [DL.TabsT]
open PySem PySem.Spec PyProof.Rows L2 Evl Lay ErrX
section
variable {K : PySem.W.Frag}
def cutD (xs : List D) (lo hi : Option Int) : List D := (xs.drop (HT.sIx xs.length 0 lo)).take (HT.sIx xs.length xs.length hi - HT.sIx xs.length 0 lo)
theorem RA.cut {F : Hp} {vs : List V} {xs : List D} (r : RA K F vs xs) (lo hi : Option Int) : RA K F (cutV vs lo hi) (cutD xs lo hi) := by
  unfold cutV cutD
  rw [r.len]
  exact (r.drop _).take _
theorem RA.rep {F : Hp} {vs : List V} {xs : List D} (r : RA K F vs xs) : ∀ n : Nat, RA K F (List.replicate n vs).flatten (List.replicate n xs).flatten
  | 0 => .nil
  | n + 1 => by
    rw [List.replicate_succ, List.replicate_succ, List.flatten_cons, List.flatten_cons]
    exact r.app (r.rep n)
abbrev WPt := G → (Option Int → Prop) → Prop
def PtOk (K : PySem.W.Frag) (tp : L2.St → Hp → (Option Int → Hp → Prop) → Prop) (wp : WPt) : Prop := ∀ Γ Q, wp Γ Q → ∀ F0 H0 F H σ, Rep K F0 H0 F H σ Γ → ∀ QV : Option Int → Hp → Prop, (∀ o F' H', Q o → Ext F H F' H' → QV o H') → tp σ H QV
abbrev wNoPart : WPt := fun _ Q => Q none
abbrev wPart (e : WE) : WPt := fun Γ Q => e Γ fun d => match d with
  | .i k => Q (some k)
  | _ => False
theorem p_none : PtOk K tNoPart wNoPart := fun Γ Q hq F0 H0 F H σ r QV q => q none F H hq (Ext.refl r.fh)
theorem p_some {te : TE} {we : WE} (h : EOk K te we) : PtOk K (tPart te) (wPart we) := fun Γ Q hq F0 H0 F H σ r QV q =>
  h Γ _ hq F0 H0 F H σ r _ fun v d F1 H1 z e1 rv => by
    cases rv with
    | i k => exact ⟨k, rfl, q (some k) F1 H1 z e1⟩
    | _ => exact z.elim
end
end DL
namespace DL
variable [DL.TabsT]
open PySem PySem.Spec PyProof.Rows L2 Evl Lay ErrX
section
variable {K : PySem.W.Frag}
theorem RA.reverse {F : Hp} : ∀ {vs : List V} {xs : List D}, RA K F vs xs → RA K F vs.reverse xs.reverse
  | _, _, .nil => .nil
  | _, _, .cons h r => by
    rw [List.reverse_cons, List.reverse_cons]
    exact (RA.reverse r).snoc h
end
end DL
namespace DO
variable [DL.TabsT]
open PySem PySem.Spec PyProof.Rows L2 Evl Lay ErrX DL
/-- what is asked of a class of the program -/
structure Cl (K : PySem.W.Frag) (C : Addr) : Prop where
  cls : Cls K C
  ha : PySem.W.findIn K (.ref C) "__class__" = some (some (.builtin "object.__class__"))
  hn : PySem.W.specialIn K (.builtin "object.__class__") "__get__" = some (some (.builtin "getset_descriptor.__get__"))
  htk : PySem.W.takesIn K (.builtin "object.__class__") = some true
  hm : PySem.W.mroIn K C (.type "object") = some true
  no : ∀ n, n ∈ ["NoneType", "bool", "int", "str", "tuple", "list", "dict"] → PySem.W.kitOne K (.type n) (.ref C) = some false
section
variable {X : Cx} {x : Str} {p pos : Pos} {e : Expr} {es : List Expr} {t : TA} {k : Nat} {ps : List Str} {sp : Sp} {C f : Addr} {fd : FuncData}
/-- C(..), its __init__ a def that knows the guards -/
theorem run_mkG {pins : List (Addr × Obj)} {σ : L2.St} {H : Hp} {s : Shared} {Q : VK} {us : List Value} {vs : List V} (M : Mk X.K C f) (F : FnG X.prog X.w X.K X.mg X.base CX0 k f fd ps sp) (room : Room (k + 1) X.A) (gd : X.A.guards = some []) (bd : Binds X.K fd ps [])
    (I : L2.Inv X pins σ H s) (r : Vals vs us) (h : ∀ x dx, H x = none → H dx = none → dx ≠ x → sp (.ref x :: vs) (upd (upd H dx (.own x)) x (.ins C dx [])) (fun v H2 => v = .non ∧ Q (.ref x) H2) E0) :
    wpAny (model X.prog X.w) X.A (call (.ref C) us) (EP X pins σ Q) X.xe s := by
  have q0 := h (s.heap.objs.size + 1) s.heap.objs.size (I.hok.fresh (Nat.le_succ _)) (I.hok.fresh (Nat.le_refl _)) (fun z => absurd z (Nat.ne_of_lt (Nat.lt_succ_self _)))
  have I' := L2.Inv.made (C := C) I
  have rr : Vals (V.ref (s.heap.objs.size + 1) :: vs) (Value.ref (s.heap.objs.size + 1) :: us) := .cons rfl r
  have ll : ((Value.ref (s.heap.objs.size + 1) :: us) ++ []).length = ps.length := by
    rw [List.append_nil, ← rr.length]
    exact F.len _ _ _ _ q0
  have b0 := bd _ (Value.ref (s.heap.objs.size + 1) :: us) I'.kIn ll
  rw [List.append_nil] at b0
  refine wpAny_call (make_map (f := f) I.kIn M.makes M.init (beq_iff_eq.mp M.fn) (codeAny_mono (F.run (X.A.under (.builtin "type.__call__" ⟨.ref C :: us, []⟩)) X.stack _ _ ⟨Value.ref (s.heap.objs.size + 1) :: us, []⟩ _ _ _ E0 (room.make C us []) (by exact gd) (I'.env0.make C us []) b0 rr q0) fun res s' z => ?_))
  cases res with
  | error er => exact False.elim z
  | ok fl =>
    cases fl with
    | ret u =>
      obtain ⟨v, H', J, rv, ev, q⟩ := I'.after z
      subst ev
      exact ⟨rv, ⟨V.ref (s.heap.objs.size + 1), H', J, rfl, q⟩⟩
    | next => exact False.elim z
    | brk => exact False.elim z
    | cont => exact False.elim z
end
/-- a class with an __init__, and what this promises -/
structure MkOk (P : Program) (w : World) (K : PySem.W.Frag) (mg : Str → Option Value) (base : Heap) (x : Str) (C : Addr) (k : Nat) (ps : List Str) (sp : Sp) : Prop where
  ex : ∃ f fd, FnG P w K mg base CX0 k f fd ps sp ∧ Binds K fd ps [] ∧ Mk K C f
  mg : mg x = some (.ref C)
section
variable {X : Cx} {x : Str} {p pos : Pos} {e : Expr} {es : List Expr} {t : TA} {k : Nat} {ps : List Str} {sp : Sp} {C : Addr}
theorem pe_mkG (M : MkOk X.prog X.w X.K X.mg X.base x C k ps sp) (room : Room (k + 1) X.A) (gd : X.A.guards = some []) (ha : PA X (e :: es) t) (gl : Gl X x := by rfl) (hdb : (x == ("__debug__" : Str)) = false := by decide)
    (h1 : starEach (e :: es) X.env = (false, eval e X.env) :: starEach es X.env := by rfl) (h2 : (backTo pos (starEach es X.env)).any (·.1) = false := by rfl) : PE X (.Call (.Name x p) (e :: es) [] pos) (tMake C sp [] E0 t) := by
  obtain ⟨f, fd, F, bd, mk⟩ := M.ex
  refine ⟨fun pins s σ H Q I h => wpAny_Call_Name_kw (ld_glob I gl M.mg ?_ hdb)⟩
  refine PySem.W.callWith_K (h₀ := X.base) I.ok.mod.kin mk.kp (thn (ha.run pos pins s σ H _ I h) fun us s1 ⟨vs, H1, I1, r, q⟩ => ⟨I1.kIn, ?_⟩) h1 h2
  exact run_mkG mk F room gd bd I1 r fun x dx a b c => by
    have := q x dx a b c
    rw [List.append_nil] at this
    exact this
end
section
variable {K : PySem.W.Frag}
/-- what an __init__ does, over data: from the arguments (but self) to the attributes -/
def spMk (K : PySem.W.Frag) (C : Addr) (ns : List Str) (S : List D → (List D → Prop) → Prop) : Sp := fun vs H Q _ => ∃ (x dx : Addr) (ws : List V) (F : Hp) (ds : List D) (P : List D → Prop), vs = .ref x :: ws ∧ H x = some (.ins C dx []) ∧ ExK F H ∧ RA K F ws ds ∧ S ds P ∧
  ∀ F' H' us xs, P xs → Ext F H F' H' → RA K F' us xs → ns.length = us.length → Q .non (upd H' x (.ins C dx (ns.zip us)))
abbrev wMk (C : Addr) (ns : List Str) (S : List D → (List D → Prop) → Prop) (a : WA) : WE := fun Γ Q => a Γ fun ds => S ds fun xs => Q (.o C ns xs)
theorem e_mk {C : Addr} {ns : List Str} {S : List D → (List D → Prop) → Prop} {ta : TA} {wa : WA} (h : AOk K ta wa) : EOk K (tMake C (spMk K C ns S) [] E0 ta) (wMk C ns S wa) := fun Γ Q hq F0 H0 F H σ r QV w =>
  h Γ _ hq F0 H0 F H σ r _ fun vs ds F1 H1 z e1 ra => by
    intro x dx nx ndx ne
    rw [List.append_nil]
    have fx := fresh_back e1.fh nx
    have fdx := fresh_back e1.fh ndx
    have up : Ex H1 (upd (upd H1 dx (.own x)) x (.ins C dx [])) := fun a o q => by
      rw [upd_ne (ne_of_none q nx), upd_ne (ne_of_none q ndx)]
      exact q
    refine ⟨x, dx, vs, F1, ds, _, rfl, upd_same, ⟨e1.fh.trans up, TabG.of up (r.ext e1).tb⟩, ra, z, fun F' H' us xs hx e rx hl => ⟨rfl, ?_⟩⟩
    have f'x : F' x = none := by
      cases q : F' x with
      | none => rfl
      | some o =>
        exact ((e.nw x o q fx).not upd_same (fun ps z => by cases z)).elim
    have f'dx : F' dx = none := by
      cases q : F' dx with
      | none => rfl
      | some o =>
        exact ((e.nw dx o q fdx).not (by rw [upd_ne ne, upd_same]) (fun ps z => by cases z)).elim
    have h'dx : H' dx = some (.own x) := e.hh.kp (by rw [upd_ne ne, upd_same])
    have ff : Ex F' (upd (upd F' dx (.own x)) x (.ins C dx (ns.zip us))) := fun a o q => by
      rw [upd_ne (ne_of_none q f'x), upd_ne (ne_of_none q f'dx)]
      exact q
    refine w (.ref x) _ (upd (upd F' dx (.own x)) x (.ins C dx (ns.zip us))) _ hx ?_ (.o (dx := dx) (vs := us) upd_same (by rw [upd_ne ne, upd_same]) hl (rx.mono ff))
    refine ⟨e1.ff.trans (e.ff.trans ff), ((e1.hh.trans (ExT.of up)).trans e.hh).mut (ExT.back e1.hh nx), fun a o q => ?_, ((e1.tb.trans (TabG.of up)).trans e.tb).mut (e.hh.kp upd_same) noTab_ins |>.told.told, fun a o q n => ?_⟩
    · by_cases ax : a = x
      · subst ax
        rw [upd_same] at q ⊢
        exact q
      · rw [upd_ne ax] at q ⊢
        by_cases ad : a = dx
        · subst ad
          rw [upd_same] at q
          cases q
          exact h'dx
        · rw [upd_ne ad] at q
          exact e.fh _ _ q
    · by_cases ax : a = x
      · rw [ax]
        exact ExT.back e1.hh nx
      · rw [upd_ne ax] at q
        by_cases ad : a = dx
        · rw [ad]
          exact ExT.back e1.hh ndx
        · rw [upd_ne ad] at q
          cases q1 : F1 a with
          | none =>
            have := e.nw a o q q1
            exact ExT.back e1.hh (ExT.back (ExT.of up) this)
          | some o1 => exact e1.nw a o1 q1 n
/-- an attribute, a property that tells one -/
def luD (f : Str) : List Str → List D → Option D
  | n :: ns, x :: xs => if f == n then some x else luD f ns xs
  | _, _ => none
theorem luD_ok {F : Hp} {f : Str} : ∀ {ns : List Str} {vs : List V} {xs : List D} {y : D}, RA K F vs xs → luD f ns xs = some y → ∃ v, (ns.zip vs).lookup f = some v ∧ R K F v y
  | [], _, _, _, _, h => by cases h
  | n :: ns, _, _, y, .nil, h => by cases h
  | n :: ns, _, _, y, .cons a r, h => by
    unfold luD at h
    rw [List.zip_cons_cons, List.lookup_cons]
    split at h
    · rename_i q
      rw [q]
      cases h
      exact ⟨_, rfl, a⟩
    · rename_i q
      rw [Bool.not_eq_true] at q
      rw [q]
      exact luD_ok r h
theorem at_ok {C : Addr} {f : Str} {Q : D → Prop} {F H : Hp} {v : V} {d : D} (e : Ex F H) (rv : R K F v d) (z : match (generalizing := false) d with | .o C' ns xs => C' = C ∧ (match luD f ns xs with | some y => Q y | none => False) | _ => False) : ∃ a dx fs u y, v = .ref a ∧ H a = some (.ins C dx fs) ∧ fs.lookup f = some u ∧ R K F u y ∧ Q y := by
  split at z
  · rename_i C' ns xs
    obtain ⟨rfl, z⟩ := z
    cases rv with
    | @o a _ dx _ vs _ h1 h2 h3 ra =>
      cases q : luD f ns xs with
      | none => rw [q] at z; exact z.elim
      | some y =>
        rw [q] at z
        obtain ⟨u, lu, ru⟩ := luD_ok ra q
        exact ⟨a, dx, _, u, y, rfl, e _ _ h1, lu, ru, z⟩
  · exact z.elim
/-- the one attribute -/
abbrev wAtC (C : Addr) (f : Str) (a : WE) : WE := fun Γ Q => a Γ fun d => ∃ y, d = .o C [f] [y] ∧ Q y
theorem luD_one {f : Str} {y : D} : luD f [f] [y] = some y := by
  unfold luD
  simp
theorem e_prop1 {C : Addr} {f : Str} {ta : TE} {wa : WE} (h : EOk K ta wa) : EOk K (tProp C (getSp C f) [] E0 ta) (wAtC C f wa) := fun Γ Q hq F0 H0 F H σ r QV w =>
  h Γ _ hq F0 H0 F H σ r _ fun v d F1 H1 z e1 rv => by
    obtain ⟨y, rfl, hy⟩ := z
    obtain ⟨a, dx, fs, u, y', rfl, ha, lu, ru, q⟩ := at_ok (Q := Q) (f := f) e1.fh rv ⟨rfl, by rw [luD_one]; exact hy⟩
    exact ⟨a, dx, fs, rfl, ha, a, dx, fs, u, rfl, ha, lu, w u y' F1 H1 q e1 ru⟩
/-- isinstance(x, C) -/
abbrev wIsC (C : Addr) (a : WE) : WE := fun Γ Q => a Γ fun x => match x with
  | .o C' _ _ => C' = C ∧ Q (.b true)
  | _ => match tyS x with
    | some _ => Q (.b false)
    | none => False
theorem tyS_mem {x : D} {n : String} (h : tyS x = some n) : n ∈ ["NoneType", "bool", "int", "str", "tuple", "list", "dict"] := by
  unfold tyS at h
  split at h <;> first | (cases h; simp) | cases h
theorem e_isC {C : Addr} {te : TE} {we : WE} (c : Cl K C) (h : EOk K te we) : EOk K (tCB (rIsi K) (tCons te (tCons (tC (.ref C)) tNil))) (wIsC C we) := fun Γ Q hq F0 H0 F H σ r QV w =>
  h Γ _ hq F0 H0 F H σ r _ fun v d F1 H1 z e1 rv => by
    have other : ∀ n, tyS d = some n → Q (.b false) → tCons (tC (.ref C)) tNil σ H1 fun vs H2 => rIsi K (v :: vs) H2 QV := fun n q z => ⟨v, .ref C, .type n, .ref C, false, rfl, .own C, tyX e1.fh rv q, c.no n (tyS_mem q), w _ _ F1 H1 z e1 (.b false)⟩
    have z : (match (generalizing := false) d with | .o C' _ _ => C' = C ∧ Q (.b true) | _ => match tyS d with | some _ => Q (.b false) | none => False) := z
    split at z
    · rename_i C' ns xs
      obtain ⟨rfl, z⟩ := z
      cases rv with
      | @o a _ dx _ vs _ h1 h2 h3 ra =>
        exact ⟨.ref a, _, _, _, true, rfl, .own _, .base (.ins (e1.fh _ _ h1) c.cls c.ha c.hn c.htk c.hm), by unfold PySem.W.kitOne; rw [if_pos (by simp)], w _ _ F1 H1 z e1 (.b true)⟩
    · cases q : tyS d with
      | none => rw [q] at z; exact z.elim
      | some n => rw [q] at z; exact other n q z
end
end DO
namespace DO
variable [DL.TabsT]
open PySem PySem.Spec PyProof.Rows L2 Evl Lay ErrX DL
abbrev Pr := Int × Int
def pt (p : Pr) : D := .t [.i p.1, .i p.2]
def tp (p : Pr) : PyData := .tuple [.int p.1, .int p.2]
theorem pyA_pt : ∀ X : List Pr, pyA (X.map pt) = some (X.map tp)
  | [] => rfl
  | p :: X => by
    show (py (pt p)).bind (fun d => (pyA (X.map pt)).map fun ds => d :: ds) = _
    rw [pyA_pt X]
    rfl
theorem eqv_tp (p q : Pr) : PyData.eqv (tp p) (tp q) = true ↔ p = q := by
  have z := eqv_eq (ID.p2 (k := 0) (a := p.1) (b := p.2)) (ID.p2 (k := 0) (a := q.1) (b := q.2)) (d := tp p) (e := tp q) rfl rfl
  rw [z]
  constructor
  · intro h
    injection h with h
    injection h with h1 h2
    injection h1 with h1
    injection h2 with h2 _
    injection h2 with h2
    exact Prod.ext h1 h2
  · rintro rfl
    rfl
theorem id_pt {k : Nat} {p : Pr} : ID (k + 1) (pt p) := ID.p2
theorem id_ptsL {k : Nat} {X : List Pr} : ID (k + 2) (.l (X.map pt)) := .l fun x hx => by
  obtain ⟨p, _, rfl⟩ := List.mem_map.mp hx
  exact id_pt
theorem shp {X : List Pr} : SeqAt.shaped (.list (X.map tp)) = true := by
  obtain ⟨d, p1, p2, p3⟩ := (id_ptsL (k := 0) (X := X)).py
  have : d = .list (X.map tp) := by
    have q : py (.l (X.map pt)) = some (.list (X.map tp)) := by
      show (pyA (X.map pt)).map PyData.list = _
      rw [pyA_pt]
      rfl
    rw [q] at p1
    exact (Option.some.inj p1).symm
  subst this
  unfold SeqAt.shaped
  rw [p2, decide_eq_true (Nat.le_trans p3 (by decide))]
  rfl
theorem any_tp {X : List Pr} {p : Pr} : ((X.map tp).any fun z => PyData.eqv z (tp p)) = decide (p ∈ X) := by
  rw [Bool.eq_iff_iff, decide_eq_true_iff]
  constructor
  · intro h
    obtain ⟨z, hz, ez⟩ := List.any_eq_true.mp h
    obtain ⟨q, hq, rfl⟩ := List.mem_map.mp hz
    have := (eqv_tp q p).mp ez
    subst this
    exact hq
  · intro h
    exact List.any_eq_true.mpr ⟨tp p, List.mem_map.mpr ⟨p, h, rfl⟩, (eqv_tp p p).mpr rfl⟩
abbrev idx (L : List Pr) (q : Pr) : Nat := @List.idxOf Pr instBEqOfDecidableEq q L
def rIdxL (K : PySem.W.Frag) : V → List V → Hp → VK → Prop := fun x xs H Q => ∃ (a : Addr) (y : V) (zs : List V) (L : List Pr) (q : Pr), x = .ref a ∧ xs = [y] ∧ SqL K H a zs ∧ DpAll K H zs (L.map tp) ∧ Dp K H y (tp q) ∧ q ∈ L ∧ Q (.int (idx L q : Nat)) H
section
variable {X : Cx}
theorem kx_idxL (K : PySem.W.Frag) (hu : X.A.units + 65 < cLine) (hK : X.K = K := by rfl) : MtR X "list.index" (rIdxL K) := by
  subst hK
  intro pins s σ H x xs v us Q I rx rs h
  obtain ⟨a, y, zs, L, q, rfl, rfl, hs, hd, hy, hm, hq⟩ := h
  cases rx
  cases rs with
  | cons ry rt =>
    cases rt
    obtain ⟨bs, r1⟩ := Dp.reads I _ _ _ hy ry
    obtain ⟨its, rv, hl, hz⟩ := I.list hs
    obtain ⟨as, h4⟩ := Dp.readsAll I _ _ its hd rv
    have hn := SeqAt.ReadsAll.length _ its as h4
    rw [List.length_map] at hn
    refine PySem.W.index_list_datum (x := q) (xs := L) (vs := its) hl.isList ⟨as, h4⟩ ⟨bs, r1⟩ (Nat.lt_of_le_of_lt (Nat.add_le_add_left (by decide : 1 + PySem.W.Datum.depth Pr ≤ 65) _) hu) (by rw [← hn, ← rv.length]; exact hz) hm ⟨.int (idx L q : Nat), H, I.tok _, ⟨_, rfl⟩, hq⟩
end
section
variable {K : PySem.W.Frag}
abbrev wIdxL (a b : WE) : WE := fun Γ Q => a Γ fun x => ∃ L : List Pr, x = .l (L.map pt) ∧ b Γ fun y => ∃ q : Pr, y = pt q ∧ q ∈ L ∧ Q (.i (idx L q : Nat))
theorem e_idxL {ta tb : TE} {wa wb : WE} (ha : EOk K ta wa) (hb : EOk K tb wb) : EOk K (tBM K "list" (rIdxL K) ta (tCons tb tNil)) (wIdxL wa wb) := fun Γ Q hq F0 H0 F H σ r QV w =>
  ha Γ _ hq F0 H0 F H σ r _ fun v x F1 H1 z e1 rx => by
    obtain ⟨L, rfl, z⟩ := z
    cases rx with
    | @l p vs _ hp ra =>
      refine ⟨.inl ⟨rfl, vs, sq_of (e1.fh _ _ hp)⟩, hb Γ _ z F0 H0 F1 H1 σ (r.ext e1) _ fun u y F2 H2 z2 e2 ru => ?_⟩
      obtain ⟨q, rfl, hm, hq⟩ := z2
      exact ⟨p, u, vs, L, q, rfl, rfl, sq_of (e2.fh _ _ (e2.ff _ _ hp)), RA.dp e2.fh (ra.mono e2.ff) (pyA_pt L), R.dp e2.fh ru rfl, hm, w _ _ F2 H2 hq (e1.trans e2) (.i _)⟩
def wMinL : List D → (D → Prop) → Prop := fun xs Q => ∃ ns : List Int, xs = [.l (ns.map D.i)] ∧ 0 < ns.length ∧ ∀ m, m ∈ ns → (∀ y, y ∈ ns → m ≤ y) → Q (.i m)
theorem one_l {F : Hp} {vs : List V} {ys : List D} (r : RA K F vs [.l ys]) : ∃ p us, vs = [.ref p] ∧ F p = some (.lst us) ∧ RA K F us ys := by
  cases r with
  | cons a r =>
    cases r
    cases a with
    | l h r => exact ⟨_, _, rfl, h, r⟩
theorem kx_minL (K : PySem.W.Frag) {X : Cx} (hc : X.calm = true) (hK : X.K = K := by rfl) : CallR X (.builtin "min") (rMin K) := hK ▸ cr_min hc
theorem c_minL : COk K (rMin K) wMinL := fun xs Q ⟨ns, e0, hl, hq⟩ F H vs e r QV q => by
  subst e0
  obtain ⟨p, us, rfl, h, ra⟩ := one_l r
  have := ra.toInts
  subst this
  exact ⟨p, ns, rfl, sq_of (e _ _ h), hl, fun m h1 h2 => q _ _ F H (hq m h1 h2) (Ext.refl e) (.i m)⟩
/-- by columns, then by lines -/
def lexle (p q : Pr) : Prop := p.1 < q.1 ∨ (p.1 = q.1 ∧ p.2 ≤ q.2)
/-- sorted(xs), xs a list of pairs of ints -/
def rSortQ (K : PySem.W.Frag) : List V → Hp → VK → Prop := fun vs H Q => ∃ (a : Addr) (Z : List (V × Pr)), vs = [.ref a] ∧ SqL K H a (Z.map (·.1)) ∧ (∀ z ∈ Z, ∃ t, z.1 = .ref t ∧ SqT K H t [.int z.2.1, .int z.2.2]) ∧
  ∀ (Z' : List (V × Pr)) (p : Addr), Z'.Perm Z → (Z'.map (·.2)).Pairwise lexle → H p = none → Q (.ref p) (upd H p (.lst (Z'.map (·.1))))
theorem perm_lift {α β : Type} (f : α → β) : ∀ {ys : List β} {Z : List α}, ys.Perm (Z.map f) → ∃ Z' : List α, Z'.Perm Z ∧ Z'.map f = ys
  | [], Z, h => by
    have : Z = [] := List.map_eq_nil_iff.mp h.symm.eq_nil
    subst this
    exact ⟨[], List.Perm.refl _, rfl⟩
  | y :: ys, Z, h => by
    have hy : y ∈ Z.map f := h.mem_iff.mp (List.mem_cons_self ..)
    obtain ⟨z, hz, rfl⟩ := List.mem_map.mp hy
    obtain ⟨A, B, rfl⟩ := List.append_of_mem hz
    have p2 : (A ++ z :: B).Perm (z :: (A ++ B)) := List.perm_middle
    have h2 : ys.Perm ((A ++ B).map f) := (h.trans (p2.map f)).cons_inv
    obtain ⟨Z', q1, q2⟩ := perm_lift f h2
    exact ⟨z :: Z', (q1.cons z).trans p2.symm, by rw [List.map_cons, q2]⟩
theorem snds {kv : Value → Pr} : ∀ {Z : List (V × Pr)} {out : List Value}, Z.map (·.1) = out.map backV → (∀ u ∈ out, ∃ a, u = Value.ref a) → (∀ z ∈ Z, ∀ t, z.1 = .ref t → kv (.ref t) = z.2) → Z.map (·.2) = out.map kv
  | [], [], _, _, _ => rfl
  | [], _ :: _, h, _, _ => by cases h
  | _ :: _, [], h, _, _ => by cases h
  | z :: Z, u :: out, h, h1, h2 => by
    rw [List.map_cons, List.map_cons] at h
    injection h with e1 e2
    obtain ⟨a, rfl⟩ := h1 u (List.mem_cons_self ..)
    rw [List.map_cons, List.map_cons, snds e2 (fun v hv => h1 v (List.mem_cons_of_mem _ hv)) fun y hy => h2 y (List.mem_cons_of_mem _ hy), h2 z (List.mem_cons_self ..) a e1]
open Classical in
theorem kx_sortQ (K : PySem.W.Frag) {X : Cx} (hK : X.K = K := by rfl) : CallR X (.builtin "sorted") (rSortQ K) := by
  subst hK
  intro pins s σ H vs us Q I r h
  obtain ⟨a, Z, rfl, hs, hz, q⟩ := h
  obtain ⟨its, rv, hl, hsz⟩ := I.list hs
  rw [Vals.ref1 r]
  have refs : ∀ x ∈ Z.map (·.1), ∃ a, x = V.ref a := fun x hx => by
    obtain ⟨z, hz', rfl⟩ := List.mem_map.mp hx
    obtain ⟨t, e, _⟩ := hz z hz'
    exact ⟨t, e⟩
  obtain ⟨e1, e2⟩ := refs_back rv refs
  have kdef : ∃ kv : Value → Pr, ∀ z ∈ Z, ∀ t, z.1 = .ref t → kv (.ref t) = z.2 := by
    refine ⟨fun u => match u with | .ref t => (if h : ∃ p : Pr, SqT X.K H t [.int p.1, .int p.2] then Classical.choose h else (0, 0)) | _ => (0, 0), fun z hz' t et => ?_⟩
    obtain ⟨t', e, st⟩ := hz z hz'
    rw [et] at e
    cases e
    have ex : ∃ p : Pr, SqT X.K H t [.int p.1, .int p.2] := ⟨z.2, st⟩
    show (if h : ∃ p : Pr, SqT X.K H t [.int p.1, .int p.2] then Classical.choose h else (0, 0)) = z.2
    rw [dif_pos ex]
    have e3 := I.tuple_inj (Classical.choose_spec ex) st
    injection e3 with e4 e5
    injection e4 with e4
    injection e5 with e5 _
    injection e5 with e5
    exact Prod.ext e4 e5
  obtain ⟨kv, hk⟩ := kdef
  refine SrtO.sorted_pairsO (k := kv) hl.isList (by rw [← rv.length]; exact hsz) (fun v hv => ?_) fun h' d out h1 h2 kp hd hn => ?_
  · obtain ⟨t, rfl⟩ := e2 v hv
    have hm : V.ref t ∈ Z.map (·.1) := by rw [e1]; exact List.mem_map.mpr ⟨_, hv, rfl⟩
    obtain ⟨z, hz', ez⟩ := List.mem_map.mp hm
    obtain ⟨t', e, st⟩ := hz z hz'
    have ez : z.1 = V.ref t := ez
    rw [ez] at e
    cases e
    obtain ⟨its2, r2, ⟨o, ho, hc, n, hd⟩, _⟩ := I.tuple st
    obtain ⟨u1, u2, rfl, ri, rj⟩ := vals2 r2
    obtain ⟨t1, rfl⟩ := ri
    obtain ⟨t2, rfl⟩ := rj
    rw [hk z hz' t ez]
    exact ⟨t, o, t1, t2, n, rfl, ho, hc, hd⟩
  · have h3 : ∀ u ∈ out, ∃ a, u = Value.ref a := fun u hu => e2 u (h2.perm.mem_iff.mp hu)
    obtain ⟨n, hn⟩ := hn
    have pm : (out.map backV).Perm (Z.map (·.1)) := by
      rw [e1]
      exact h2.perm.map backV
    obtain ⟨Z', q1, q2⟩ := perm_lift _ pm
    have sn := snds (kv := kv) q2 h3 fun z hz' => hk z (q1.mem_iff.mp hz')
    have pw : (Z'.map (·.2)).Pairwise lexle := by
      rw [sn, List.pairwise_map]
      refine h1.imp fun {x y} z => ?_
      have := SrtO.lexB_no.mp z
      unfold lexle
      omega
    refine ⟨.ref d, upd H d (.lst (Z'.map (·.1))), I.laid (t' := s.toks) kp hd ⟨?_, out, n, by rw [q2]; exact vals_back h3, hn⟩, rfl, q Z' d q1 pw (I.hok.fresh hd)⟩
    rw [List.length_map, q1.length_eq]
    rw [List.length_map] at hsz
    exact hsz
def wSortQ : List D → (D → Prop) → Prop := fun xs Q => ∃ L : List Pr, xs = [.l (L.map pt)] ∧ ∀ L' : List Pr, L'.Perm L → L'.Pairwise lexle → Q (.l (L'.map pt))
theorem pt_tupI {F H : Hp} {v : V} {p : Pr} (e : Ex F H) (r : R K F v (pt p)) : TupI K H v [p.1, p.2] := by
  cases r with
  | @t a vs _ h ra =>
    have := (ra.toInts (ns := [p.1, p.2]))
    subst this
    exact ⟨a, rfl, ex_t e h⟩
theorem ra_pairs {F : Hp} : ∀ {vs : List V} {L : List Pr}, RA K F vs (L.map pt) → ∃ Z : List (V × Pr), Z.map (·.1) = vs ∧ Z.map (·.2) = L ∧ ∀ z ∈ Z, R K F z.1 (pt z.2)
  | [], [], _ => ⟨[], rfl, rfl, fun z hz => by cases hz⟩
  | [], _ :: _, h => by cases h
  | _ :: _, [], h => by cases h
  | u :: vs, p :: L, h => by
    cases h with
    | cons a r =>
      obtain ⟨Z, h1, h2, h3⟩ := ra_pairs r
      exact ⟨(u, p) :: Z, by rw [List.map_cons, h1], by rw [List.map_cons, h2], fun z hz => by
        rcases List.mem_cons.mp hz with rfl | hz
        · exact a
        · exact h3 z hz⟩
theorem ra_of {F : Hp} : ∀ {Z : List (V × Pr)}, (∀ z ∈ Z, R K F z.1 (pt z.2)) → RA K F (Z.map (·.1)) ((Z.map (·.2)).map pt)
  | [], _ => .nil
  | z :: Z, h => .cons (h z (List.mem_cons_self ..)) (ra_of fun y hy => h y (List.mem_cons_of_mem _ hy))
theorem c_sortQ : COk K (rSortQ K) wSortQ := fun xs Q ⟨L, e0, hq⟩ F H vs e r QV q => by
  subst e0
  obtain ⟨a, us, rfl, h, ra⟩ := one_l r
  obtain ⟨Z, z1, z2, z3⟩ := ra_pairs ra
  refine ⟨a, Z, rfl, by rw [z1]; exact sq_of (e _ _ h), fun z hz => ?_, fun Z' p pm pw np => ?_⟩
  · obtain ⟨t, e1, st⟩ := pt_tupI e (z3 z hz)
    exact ⟨t, e1, st⟩
  · have z3' : ∀ z ∈ Z', R K F z.1 (pt z.2) := fun z hz => z3 z (pm.mem_iff.mp hz)
    have pm2 : (Z'.map (·.2)).Perm L := z2 ▸ pm.map (·.2)
    exact q _ _ (upd F p (.lst (Z'.map (·.1)))) _ (hq (Z'.map (·.2)) pm2 pw) (Ext.new e np) (.l upd_same ((ra_of z3').mono (Ex.new (fresh_back e np))))
end
end DO
namespace DL
variable [DL.TabsT]
open PySem PySem.Spec PyProof.Rows L2 Evl Lay ErrX
section
variable {K : PySem.W.Frag}
/-- what a list of one's own holds -/
def ownL : Sl → Option (List D)
  | .w (.l xs) => some xs
  | .w (.la _ _ xs) => some xs
  | _ => none
theorem Rep.own {F0 H0 F H : Hp} {σ : L2.St} {Γ : G} (r : Rep K F0 H0 F H σ Γ) {k : Nat} {xs : List D} (h : ownL (nth Γ k) = some xs) : ∃ p vs, σ[k]? = some (some (.ref p)) ∧ H p = some (.lst vs) ∧ RA K F vs xs := by
  cases q : nth Γ k with
  | u => rw [q] at h; cases h
  | d x => rw [q] at h; cases h
  | w o =>
    rw [q] at h
    obtain ⟨p, ho, a, b, c, d, f⟩ := r.ow k _ q
    cases o with
    | s _ _ => cases h
    | l ys =>
      cases h
      obtain ⟨vs, rfl, ra⟩ := f
      exact ⟨p, vs, a, d, ra⟩
    | la q vs ys =>
      cases h
      obtain ⟨_, rfl, ra⟩ := f
      exact ⟨p, vs, a, d, ra⟩
abbrev inOwn (neg : Bool) (x : D) (xs : List D) (Q : D → Prop) : Prop := ∃ d ds, py x = some d ∧ pyA xs = some ds ∧ SeqAt.shaped d = true ∧ SeqAt.shaped (.list ds) = true ∧ Q (.b (xor neg (ds.any fun z => PyData.eqv z d)))
abbrev wInO (neg : Bool) (k : Nat) (a : WE) : WE := fun Γ Q => a Γ fun x => match ownL (nth Γ k) with
  | some xs => inOwn neg x xs Q
  | none => False
theorem inO_ok {neg : Bool} {k : Nat} {Q : D → Prop} {x : D} {F0 H0 F H : Hp} {σ : L2.St} {Γ : G} {v : V} (r : Rep K F0 H0 F H σ Γ) (rv : R K F v x) (z : match (generalizing := false) ownL (nth Γ k) with | some xs => inOwn neg x xs Q | none => False) :
    ∃ p d ds, σ[k]? = some (some (.ref p)) ∧ Dp K H v d ∧ Dp K H (.ref p) (.list ds) ∧ SeqAt.shaped d = true ∧ SeqAt.shaped (.list ds) = true ∧ Q (.b (xor neg (ds.any fun z => PyData.eqv z d))) := by
  cases q : ownL (nth Γ k) with
  | none => rw [q] at z; exact z.elim
  | some xs =>
    rw [q] at z
    obtain ⟨d, ds, h1, h2, s1, s2, hq⟩ := z
    obtain ⟨p, vs, a, hd, ra⟩ := r.own q
    exact ⟨p, d, ds, a, R.dp r.fh rv h1, .lst (sq_of hd) (RA.dp r.fh ra h2), s1, s2, hq⟩
theorem e_notInO {k : Nat} {ta : TE} {wa : WE} (h : EOk K ta wa) : EOk K (tOp (rNotInD K) ta (tVar k)) (wInO true k wa) := fun Γ Q hq F0 H0 F H σ r QV w =>
  h Γ _ hq F0 H0 F H σ r _ fun v x F1 H1 z e1 rv => by
    obtain ⟨p, d, ds, a, h1, h2, s1, s2, hQ⟩ := inO_ok (r.ext e1) rv z
    rw [Bool.true_xor] at hQ
    exact ⟨.ref p, a, d, ds, h1, h2, s1, s2, w _ _ F1 H1 hQ e1 (.b _)⟩
theorem upd_id {H : Hp} {p : Addr} {o : HO} (h : H p = some o) : upd H p o = H := by
  funext a
  by_cases q : a = p
  · subst q
    rw [upd_same, h]
  · rw [upd_ne q]
/-- the list of one's own told otherwise -/
theorem Rep.tag {F0 H0 F H : Hp} {σ : L2.St} {Γ : G} (r : Rep K F0 H0 F H σ Γ) {k : Nat} {p : Addr} {ho : HO} {o o' : Own} (hk : nth Γ k = .w o) (hs : σ[k]? = some (some (.ref p))) (hp : H p = some ho) (h : OwnOk K F p o' ho) : Rep K F0 H0 F H σ (put Γ k (.w o')) := by
  have := r.chgW hk hs h
  rw [upd_id hp] at this
  exact this
/-- for x in l, l one's own, which stays -/
abbrev wForO (k : Nat) (g : WG) (b : WS) : WS := fun P Γ => match nth Γ k with
  | .w (.l xs) => ∀ p vs, ∃ I : Nat → G → Prop, I 0 (put Γ k (.w (.la p vs xs))) ∧ (∀ j Γ', I j Γ' → nth Γ' k = .w (.la p vs xs)) ∧
      (∀ j x Γ', xs[j]? = some x → I j Γ' → g x Γ' fun Γ2 => b { nx := I (j + 1), rt := P.rt, bk := fun _ => False, ct := I (j + 1) } Γ2) ∧ ∀ Γ', I xs.length Γ' → P.nx (put Γ' k (.ol xs))
  | _ => False
theorem s_forO {k : Nat} {g : TG} {tb : TS} {wg : WG} {wb : WS} {js : List Nat} (hg : GOk K g wg js) (hb : SOk K tb wb) : SOk K (tFor (iList K (tVar k)) g tb) (wForO k wg wb) := fun P Γ hq F0 H0 F H σ r E w => by
  unfold wForO at hq
  cases q : nth Γ k with
  | u => rw [q] at hq; exact hq.elim
  | d x => rw [q] at hq; exact hq.elim
  | w o =>
    rw [q] at hq
    cases o with
    | s _ _ => exact hq.elim
    | la _ _ _ => exact hq.elim
    | l xs =>
      obtain ⟨p, vs, a, b, c, d, ra⟩ := r.ol k xs q
      obtain ⟨I, i0, keep, turn, fin⟩ := hq p vs
      have r0 := r.tag (o' := .la p vs xs) q a d ⟨rfl, rfl, ra⟩
      refine ⟨.ref p, a, p, rfl, ⟨vs, sq_of d⟩, ?_⟩
      refine for_it (walk_list (xs := vs)) (fun i σ' H' => ∃ Γ' F', I i Γ' ∧ Rep K F0 H0 F' H' σ' Γ' ∧ Ex F F') ⟨_, F, i0, r0, Ex.refl F⟩ (fun i σ' H' _ ⟨Γ', F', z, r', x⟩ => ?_) (fun i v σ' H' H2 lt ⟨Γ', F', z, r', x⟩ y => ?_) fun σ' H' ⟨Γ', F', z, r', x⟩ => ?_
      · obtain ⟨p', ho, a', _, _, d', e1, e2, _⟩ := r'.ow k _ (keep i Γ' z)
        subst e1 e2
        exact sq_of d'
      · obtain ⟨rfl, y⟩ := y
        obtain ⟨p', ho, a', _, _, d', e1, e2, ra'⟩ := r'.ow k _ (keep i Γ' z)
        obtain ⟨dx, q1, q2⟩ := ra'.get y
        refine hg dx Γ' _ (turn i dx Γ' q1 z) F0 H0 F' _ σ' v r' q2 _ fun Γ2 σ2 F3 H3 z2 r2 e3 _ => ?_
        exact hb.at z2 r2 r.f0 (x.trans e3.ff) r.ext0 (fun Γ4 σ4 F4 H4 z4 r4 x4 => ⟨Γ4, F4, z4, r4, x4⟩) w.rt (fun _ _ _ _ z4 _ _ => z4.elim) (fun Γ4 σ4 F4 H4 z4 r4 x4 => ⟨Γ4, F4, z4, r4, x4⟩)
      · rw [ra.len] at z
        obtain ⟨p', ho, a', b', _, d', e1, e2, ra'⟩ := r'.ow k _ (keep _ Γ' z)
        subst e1 e2
        exact w.nx _ _ _ _ (fin Γ' z) (r'.tag (o' := .l xs) (keep _ Γ' z) a' d' ⟨vs, rfl, ra'⟩)
/-- x, y = l, m: two new lists at once -/
abbrev wPackO (i j : Nat) (f g : WA) : WS := fun P Γ => i ≠ j ∧ i < Γ.length ∧ j < Γ.length ∧ f Γ fun xs => g Γ fun ys => P.nx (put (put Γ i (.ol xs)) j (.ol ys))
theorem s_packO {tf tg : TE} {wf wg : WA} {i j : Nat} (hf : FOk K tf wf) (hg : FOk K tg wg) : SOk K (tAsg (tTup (tCons tf (tCons tg tNil))) (gTup K 2 (gCons (gName i) (gCons (gName j) gNil)))) (wPackO i j wf wg) := fun P Γ hq F0 H0 F H σ r E w => by
  obtain ⟨ij, il, jl, hq⟩ := hq
  refine hf Γ _ hq F0 H0 F H σ r _ fun p vs xs F1 H1 z e1 hp hfp h1 ra => ?_
  have r1 := r.ext e1
  refine hg Γ _ z F0 H0 F1 H1 σ r1 _ fun p' ws ys F2 H2 z2 e2 hp' hfp' h2 rb => ?_
  have pp : p ≠ p' := fun e => by
    subst e
    exact hp'.not h1 (fun ps z => by cases z)
  have fp2 : F2 p = none := by
    cases q : F2 p with
    | none => rfl
    | some o =>
      exact ((e2.nw p o q hfp).not h1 (fun ps z => by cases z)).elim
  refine ⟨by show 2 ≤ sizeLine; decide, fun t ht => ?_⟩
  refine ⟨t, [.ref p, .ref p'], rfl, st_of upd_same, rfl, ?_⟩
  have e3 : Ext F1 H1 F2 (upd H2 t (.tup [.ref p, .ref p'])) := e2.trans (Ext.heap e2.fh (Ex.new ht))
  have hne : ∀ {a : Addr} {o : HO}, H2 a = some o → (upd H2 t (.tup [.ref p, .ref p'])) a = some o := fun {a o} h => by
    rw [upd_ne (ne_of_none h ht)]
    exact h
  have old : ∀ (H : Hp) (p : Addr) (σ : L2.St) (Γ : G) (F H' : Hp), Rep K F0 H0 F H' σ Γ → Free H' p → ∀ m ys, nth Γ m = .w ys → σ[m]? = some (some (.ref p)) → False := fun H p σ Γ F H' r np m ys q s => by
    obtain ⟨p', _, a, _, _, d, nf⟩ := r.ow m ys q
    rw [s] at a
    cases a
    exact Free.not np d nf.nt.1
  have r2 := (r1.ext e3).setO (k := i) (p := p) (vs := vs) (xs := xs) fp2 (ExT.back r.h0 hp) (hne (e2.hh.kp h1)) (ra.mono e2.ff) fun m ys _ q s => old H p σ Γ F H r hp m ys q s
  have r3 := r2.setO (k := j) (p := p') (vs := ws) (xs := ys) hfp' (ExT.back r1.h0 hp') (hne h2) rb fun m zs mj q s => by
    rw [nth_put] at q
    split at q
    · rename_i c
      obtain ⟨rfl, _⟩ := c
      rw [List.getElem?_set_self (by rw [r.len]; exact il)] at s
      cases s
      exact pp rfl
    · rename_i c
      by_cases mi : m = i
      · exact c ⟨mi, il⟩
      · rw [List.getElem?_set_ne (fun e => mi e.symm)] at s
        exact old H1 p' σ Γ F1 H1 r1 hp' m zs q s
  exact ⟨.ref p, [.ref p'], rfl, .ref p', [], rfl, rfl, w.nx _ _ _ _ z2 r3⟩
end
end DL
namespace DL
variable [DL.TabsT]
open PySem PySem.Spec PyProof.Rows L2 Evl Lay ErrX
section
variable {K : PySem.W.Frag}
/-- l[i], l one's own -/
abbrev wIxO (k : Nat) (b : WE) : WE := fun Γ Q => match ownL (nth Γ k) with
  | some xs => b Γ fun y => match y with
    | .i i => ∃ x, L2.atI xs i = some x ∧ Q x
    | _ => False
  | none => False
theorem e_ixO {k : Nat} {tb : TE} {wb : WE} (hb : EOk K tb wb) : EOk K (tOp (rIxL K) (tVar k) tb) (wIxO k wb) := fun Γ Q hq F0 H0 F H σ r QV w => by
  cases q : ownL (nth Γ k) with
  | none =>
    have hq : (match (generalizing := false) ownL (nth Γ k) with | some xs => wb Γ fun y => (match y with | .i i => ∃ x, L2.atI xs i = some x ∧ Q x | _ => False) | none => False) := hq
    rw [q] at hq
    exact hq.elim
  | some xs =>
    have hq : (match (generalizing := false) ownL (nth Γ k) with | some xs => wb Γ fun y => (match y with | .i i => ∃ x, L2.atI xs i = some x ∧ Q x | _ => False) | none => False) := hq
    rw [q] at hq
    obtain ⟨p, vs, a, hd, ra⟩ := r.own q
    refine ⟨.ref p, a, hb Γ _ hq F0 H0 F H σ r _ fun u y F1 H1 z e1 ru => ?_⟩
    cases ru with
    | i i =>
      obtain ⟨x, hx, hQ⟩ := z
      obtain ⟨v, hv, rv⟩ := (ra.mono e1.ff).atI hx
      exact ⟨p, vs, i, v, rfl, rfl, sq_of (e1.hh.kp hd), hv, w _ _ F1 H1 hQ e1 rv⟩
    | _ => exact z.elim
end
end DL
namespace DO
variable [DL.TabsT]
open PySem PySem.Spec PyProof.Rows L2 Evl Lay ErrX DL
/-- the j-th statement of a class -/
def clsFn (s : Stmt) (j : Nat) : Stmt := match s with
  | .ClassDef _ _ _ body _ _ _ _ _ _ _ => body.getD j (.Pass ⟨0, 0, 0, 0⟩)
  | _ => .Pass ⟨0, 0, 0, 0⟩
/-- where a property stands, and what it tells -/
structure PropD (P : Program) (w : World) (K : PySem.W.Frag) (mg : Str → Option Value) (base : Heap) (C : Addr) (f fld : Str) (k : Nat) : Prop where
  cls : Cls K C
  ex : ∃ p g fd, PropOf K C f p g ∧ FnOk P w K mg base CX0 k g fd ["self"] (getSp C fld) ∧ Binds K fd ["self"] []
theorem pe_propD {X : Cx} {C : Addr} {f fld : Str} {k : Nat} {e : Expr} {pos : Pos} {ta : TE} (D : PropD X.prog X.w X.K X.mg X.base C f fld k) (room : Room (k + 1) X.A) (he : PE X e ta) (hab : attributeBase e f X.env (eval e X.env) = eval e X.env) :
    PE X (.Attribute e f pos) (tProp C (getSp C fld) [] E0 ta) := by
  obtain ⟨p, g, fd, hp, F, bd⟩ := D.ex
  exact pe_prop he D.cls hp F room bd .nil (fun _ _ _ _ _ _ _ z => z.elim) hab
theorem propD_mk {P : Program} {w : World} {K : PySem.W.Frag} {mg : Str → Option Value} {base : Heap} {C p g : Addr} {f fld qual : Str} {st : Stmt} {fd : FuncData} {N : List Str} {p1 p2 p3 : Pos} (c : Cls K C) (n : NoAttr K C fld) (hp : PropOf K C f p g) (F : Fun K f qual st g fd) (S : FnScope N ["self"] (defScope st)) (hN : N[0]? = some ("self" : Str))
    (hb : defBody st = [.Return (some (.Attribute (.Name "self" p1) fld p2)) p3]) (bd : Binds K fd ["self"] []) : PropD P w K mg base C f fld 1 := by
  obtain ⟨oc, od, kV, doc, pm, an, cdv, ct, osl, rfl, lk, code⟩ := F.ex
  exact ⟨c, p, g, _, hp, fn_getter (k := 0) lk code S hN hb c n, bd⟩
/-- a class's __init__ by its body -/
theorem mkok {P : Program} {w : World} {K : PySem.W.Frag} {mg : Str → Option Value} {base : Heap} {x qual : Str} {st : Stmt} {f C : Addr} {fd : FuncData} {N ps : List Str} {k : Nat} {sp : Sp} (hm : mg x = some (.ref C)) (M : Mk K C f) (F : Fun K "__init__" qual st f fd) (bd : Binds K fd ps []) (S : FnScope N ps (defScope st)) (len : ∀ vs H Q E, sp vs H Q E → vs.length = ps.length)
    (body : ∀ (cdv : Value) (A : Around) (outer : List Env) (s : Shared) (H : Hp) (vs : List V) (Q : VK) (E : XK), Room k (cxOf CX0 P w K mg base N qual (defScope st) f cdv A outer s H E).A → (cxOf CX0 P w K mg base N qual (defScope st) f cdv A outer s H E).A.guards = some [] → sp vs H Q E →
      ∃ t, PSs (cxOf CX0 P w K mg base N qual (defScope st) f cdv A outer s H E).nox (defBody st) t ∧ t { nx := fun _ H' => Q .non H', rt := Q } (start N vs) H) : MkOk P w K mg base x C (k + 1) ps sp := by
  refine ⟨⟨f, fd, fng F S len fun cdv A outer s H vs Q E hr hg h => ?_, bd, M⟩, hm⟩
  obtain ⟨t, ht, q⟩ := body cdv A outer s H vs Q E hr hg h
  exact ⟨t, ht.nox, q⟩
/-- self is not told -/
theorem rep_self {K : PySem.W.Frag} {F H : Hp} {x : Addr} {ws : List V} {ds : List D} {N : List Str} (e : ExK F H) (r : RA K F ws ds) (hl : ds.length + 1 ≤ N.length) : Rep K F H F H (start N (.ref x :: ws)) (.u :: (ds.map Sl.d ++ List.replicate (N.length - (ds.length + 1)) .u)) := by
  have r0 := rep_start (vs := .non :: ws) (ds := .n :: ds) (N := N) e.1 e.2 (.cons .n r) hl
  exact r0.drop (k := 0) (o := some (.ref x))
section
variable {K : PySem.W.Frag}
/-- f(..) alone; self.a = g(..) -/
theorem init2 {C : Addr} {fld : Str} {N : List Str} {Q : VK} {ws : List V} {ds : List D} {x dx : Addr} {F H : Hp} {t1 t2 : TE} {w1 w2 : WE} {Pd : D → Prop} (c : Cls K C) (n : NoAttr K C fld) (h1 : EOk K t1 w1) (h2 : EOk K t2 w2) (hx : H x = some (.ins C dx [])) (e : ExK F H) (ra : RA K F ws ds) (hl : ds.length + 1 ≤ N.length)
    (hq : w1 (.u :: (ds.map Sl.d ++ List.replicate (N.length - (ds.length + 1)) .u)) fun _ => w2 (.u :: (ds.map Sl.d ++ List.replicate (N.length - (ds.length + 1)) .u)) Pd)
    (fin : ∀ F' H' v y, Pd y → Ext F H F' H' → R K F' v y → Q .non (upd H' x (.ins C dx [(fld, v)]))) :
    t1 (start N (.ref x :: ws)) H fun _ H1 => sFld K (tVar 0) t2 fld { nx := fun _ H' => Q .non H', rt := Q } (start N (.ref x :: ws)) H1 := by
  have r := rep_self (x := x) e ra hl
  refine h1 _ _ hq F H F H _ r _ fun v y F1 H1 z e1 rv => ?_
  refine h2 _ _ z F H F1 H1 _ (r.ext e1) _ fun v2 y2 F2 H2 z2 e2 rv2 => ?_
  exact ⟨.ref x, rfl, x, C, dx, [], rfl, (e1.trans e2).hh.kp hx, c, n, by decide, fin F2 H2 v2 y2 z2 (e1.trans e2) rv2⟩
end
end DO
namespace Lay
variable [DL.TabsT]
open PySem PySem.Spec PyProof.Rows L2 Evl
theorem cdivP {a t : Int} (h : 0 < t) (h2 : t < 2 ^ 250) : CDivP a t := by
  refine ⟨h, ?_⟩
  unfold Builtin.divisionGoesByPylong
  have n1 : t.natAbs < 2 ^ 250 := by
    have e : ((t.natAbs : Nat) : Int) = t := by omega
    have : ((t.natAbs : Nat) : Int) < ((2 ^ 250 : Nat) : Int) := by
      rw [e, Int.natCast_pow]
      exact h2
    exact Int.ofNat_lt.mp this
  have n2 : t.natAbs.log2 < 250 := (Nat.log2_lt (by omega)).mpr n1
  have n3 : (if (t == 0) = true then 0 else t.natAbs.log2 / 30 + 1) ≤ 300 := by
    split
    · omega
    · omega
  simp only [Bool.and_eq_false_iff, decide_eq_false_iff_not]
  left
  omega
theorem eu_dmW {i j : Int} {σ : L2.St} {H : Hp} {ta tb : TE} (h : EvA (tCons ta (tCons tb tNil)) σ H [.int i, .int j]) (hc : CDivP i j) :
    EvU (tCB (fun xs H Q => ∃ i j, xs = [V.int i, V.int j] ∧ CDivP i j ∧ ∀ p, H p = none → Q (V.ref p) (upd H p (HO.tup [V.int (i / j), V.int (i % j)]))) (tCons ta (tCons tb tNil))) σ H [.int (i / j), .int (i % j)] := fun H1 e Q q =>
  h H1 e _ fun H2 x2 => ⟨i, j, rfl, hc, fun p hp => q p _ (fresh_back x2 hp) (x2.trans (Ex.new hp)) upd_same⟩
end Lay
namespace DO
variable [DL.TabsT]
open PySem PySem.Spec PyProof.Rows L2 Evl Lay ErrX DL
theorem shaped_id {k : Nat} {x : D} {d : PyData} (h : ID k x) (hp : py x = some d) (hk : k ≤ 64 := by decide) : SeqAt.shaped d = true := by
  obtain ⟨e, p1, p2, p3⟩ := h.py
  rw [hp] at p1
  cases p1
  unfold SeqAt.shaped
  rw [p2, decide_eq_true (Nat.le_trans p3 hk)]
  rfl
theorem shp1 {q : Pr} : SeqAt.shaped (tp q) = true := shaped_id (id_pt (k := 0) (p := q)) rfl
end DO
namespace Lay
variable [DL.TabsT]
open PySem PySem.Spec PyProof.Rows L2 DL
/-- parameters by name in another order -/
def g210 {α : Type} : List α → List α
  | [a, b, c] => [c, b, a]
  | l => l
theorem g210_vals : ∀ {zs : List V} {ws : List Value}, Vals zs ws → Vals (g210 zs) (g210 ws)
  | _, _, .cons a (.cons b (.cons c .nil)) => .cons c (.cons b (.cons a .nil))
  | _, _, .nil => .nil
  | _, _, .cons a .nil => .cons a .nil
  | _, _, .cons a (.cons b .nil) => .cons a (.cons b .nil)
  | _, _, .cons a (.cons b (.cons c (.cons d r))) => .cons a (.cons b (.cons c (.cons d r)))
end Lay
namespace DL
variable [DL.TabsT]
open PySem PySem.Spec PyProof.Rows L2 Lay
theorem RA.g210 {K : PySem.W.Frag} {F : Hp} : ∀ {vs : List V} {ds : List D}, RA K F vs ds → RA K F (Lay.g210 vs) (Lay.g210 ds)
  | _, _, .cons a (.cons b (.cons c .nil)) => .cons c (.cons b (.cons a .nil))
  | _, _, .nil => .nil
  | _, _, .cons a .nil => .cons a .nil
  | _, _, .cons a (.cons b .nil) => .cons a (.cons b .nil)
  | _, _, .cons a (.cons b (.cons c (.cons d r))) => .cons a (.cons b (.cons c (.cons d r)))
end DL
namespace DL
variable [DL.TabsT]
open PySem PySem.Spec PyProof.Rows L2 Evl Lay ErrX
section
variable {K : PySem.W.Frag}
def noOwn : G → Bool
  | [] => true
  | .w _ :: _ => false
  | _ :: Γ => noOwn Γ
theorem noOwn_nth : ∀ {Γ : G} {k : Nat} {o : Own}, noOwn Γ = true → nth Γ k = .w o → False
  | [], _, _, _, h => by simp [nth] at h
  | .u :: Γ, 0, _, _, h => by simp [nth] at h
  | .d _ :: Γ, 0, _, _, h => by simp [nth] at h
  | .w _ :: Γ, _, _, n, _ => by simp [noOwn] at n
  | .u :: Γ, k + 1, o, n, h => noOwn_nth (Γ := Γ) (k := k) n h
  | .d _ :: Γ, k + 1, o, n, h => noOwn_nth (Γ := Γ) (k := k) n h
theorem Rep.mut {F0 H0 F H : Hp} {σ : L2.St} {Γ : G} (r : Rep K F0 H0 F H σ Γ) (no : noOwn Γ = true) {p : Addr} {o u : HO} (hf : F p = none) (h0 : Free H0 p) (hp : H p = some u) (nt : NoTab p u) : Rep K F0 H0 F (upd H p o) σ Γ :=
  ⟨r.f0, r.h0.mut h0, fun a ob q => by
    rw [upd_ne (ne_of_none q hf)]
    exact r.fh a ob q, r.tb.mut hp nt, r.nw, r.len, r.sl, fun k o h => (noOwn_nth no h).elim, fun k m o o' p _ h => (noOwn_nth no h).elim⟩
end
end DL
namespace DO
variable [DL.TabsT]
open PySem PySem.Spec PyProof.Rows L2 Evl Lay ErrX DL
def prL (l : List Int) : Pr := (l.getD 0 0, l.getD 1 0)
section
variable {P : Program} {w : World} {s : Shared} {A : Around} {E : Value → Shared → Prop}
theorem pair_at {h : Heap} {b : Addr} {x y : Int} (t : TS.TupInts h (.ref b) [x, y]) : Srt.IsPair h (.ref b) x y := by
  obtain ⟨a, xs, e, ⟨o, ho, hc, n, hd⟩, i⟩ := t
  obtain ⟨l⟩ := xs
  cases i with
  | cons n1 t1 i =>
    cases i with
    | cons n2 t2 i =>
      cases i with
      | nil => exact ⟨a, o, t1, t2, n, e, ho, hc, hd⟩
def kQ (h : Heap) (v : Value) : Pr := prL (TS.intsOf h v)
theorem sorted_setQ {a : Addr} {L : List (Addr × List Int)} {es : Array (Int × Value)} {ep : Nat} {t : SetTable} {Q : Value → Shared → Prop} (R : SetTR P w s.heap a L es ep t) (hh : A.handled = none) (h2 : ∀ p ∈ L, ∃ x y, p.2 = [x, y])
    (hQ : ∀ s' p (out : List Value) (c : Nat) (L' : List (Addr × List Int)), (∀ b o, s.heap.get? b = some o → s'.heap.get? b = some o) → s'.gens = s.gens → s'.os = s.os → s.heap.objs.size ≤ p →
      s'.heap.get? p = some (seqObj "list" out.toArray c) → L'.map (fun q => Value.ref q.1) = out → L'.Perm L → (L'.map fun q => prL q.2).Pairwise lexle → Q (.ref p) s') :
    wpAny (model P w) A (call (.builtin "sorted") [.ref a]) Q E s := by
  obtain ⟨o, ho, hex, hd⟩ := R.ob
  refine Calls.call_function_entry kind_sorted plain_sorted entry_sorted (args_sorted1 _) ?_
  unfold Builtin.«sorted»
  refine wpAny_bind (m := checkCount "sorted" 1 1 _) (wpAny_pure ?_)
  have few := R.few
  have sz := R.size
  refine wpAny_bind (collect_set (A := A.in1) hh ⟨o, ho, hex.1, hd⟩ R.fits (by unfold scanBound; omega) R.tab.ris R.led fun s1 vs k1 hz g1 o1 pm => ?_)
  have hes : es.toList.map (·.2) = L.map fun q => Value.ref q.1 := by
    rw [R.rows]
    unfold rowsOf
    rw [List.map_map] <;> rfl
  rw [hes] at pm
  have hvl : vs.length < 64 := by rw [pm.length_eq, List.length_map]; exact few
  have hz2 : vs.length ≤ sizeLine := by rw [sizeLine_eq]; omega
  refine wpAny_bind (wpAny_newList ?_ hz2)
  have hoL : (s1.heap.push (seqObj "list" vs.toArray 0)).get? s1.heap.objs.size = some (seqObj "list" vs.toArray 0) := Heap.get?_push_size _ rfl
  generalize hG : s1.heap.push (seqObj "list" vs.toArray 0) = G at hoL ⊢
  have kG : ∀ b u, s.heap.get? b = some u → G.get? b = some u := fun b u e => by
    rw [← hG]
    exact Heap.get?_push_of_some _ (k1 b u e)
  have tk : ∀ q ∈ L, TS.TupInts G (.ref q.1) q.2 := fun q hq => tupInts_of (P := P) (w := w) (isT_keep (R.tup q hq) kG)
  have hp : ∀ v ∈ vs, Srt.IsPair G v (kQ G v).1 (kQ G v).2 := fun v hv => by
    obtain ⟨q, hq, e⟩ := List.mem_map.mp (pm.mem_iff.mp hv)
    obtain ⟨x, y, exy⟩ := h2 q hq
    have tq := tk q hq
    have ei : kQ G v = (x, y) := by
      rw [← e]
      unfold kQ
      rw [tq.ints, exy]
      rfl
    rw [ei, ← e]
    rw [exy] at tq
    exact pair_at tq
  refine wpAny_bind (wpAny_holding (wpAny_call_entry slot_list_sort ⟨_, hoL, rfl⟩ entry_list_sort (SrtO.list_sort_ord (s := { s1 with heap := G }) (SrtO.swo_lex (kQ G)) hoL hz2 (fun h2 => SrtO.pairs_sortableO (by omega) hp fun o e => by
    have e : G.get? s1.heap.objs.size = some o := e
    rw [hoL] at e
    injection e with e
    rw [← e]
    exact fun c => absurd (Value.type.inj c) (by decide)) fun out a1 a2 => ⟨_, rfl, ?_⟩) (args_list_sort _)))
  obtain ⟨c, hc⟩ := sortedHeap_at (vs := vs) (out := out.toArray) hoL
  obtain ⟨L', q1, q2⟩ := perm_lift (fun q : Addr × List Int => Value.ref q.1) (a2.perm.trans pm)
  refine wpAny_pure ⟨_, rfl, hQ _ s1.heap.objs.size out c L' (fun b u e => ?_) g1 o1 hz hc q2 q1 ?_⟩
  · have q := k1 b u e
    have hlt := Heap.lt_size q
    have hz3 : G.objs.size = s1.heap.objs.size + 1 := by rw [← hG, size_push']
    show (sortedHeap G s1.heap.objs.size vs out.toArray).get? b = some u
    rw [sortedHeap_old (Nat.ne_of_lt hlt) (by rw [hz3]; exact Nat.lt_succ_of_lt hlt)]
    exact kG b u e
  · rw [← q2] at a1
    rw [List.pairwise_map]
    refine List.Pairwise.imp_of_mem (fun {x y} hx hy z => ?_) (List.pairwise_map.mp a1)
    have z := SrtO.lexB_no.mp z
    have ek : ∀ q ∈ L', kQ G (.ref q.1) = prL q.2 := fun q hq => by
      unfold kQ
      rw [(tk q (q1.mem_iff.mp hq)).ints]
    rw [ek x hx, ek y hy] at z
    unfold lexle
    omega
end
section
variable {X : Cx}
/-- sorted(set), the tuples pairs of ints -/
def rSortS (K : PySem.W.Frag) (P : Program) (w : World) : List V → Hp → VK → Prop := fun vs H Q => ∃ (a : Addr) (L : List (Addr × List Int)), vs = [V.ref a] ∧ H a = some (SetTO P w a L) ∧ (∀ p ∈ L, SqT K H p.1 (p.2.map V.int)) ∧ (∀ p ∈ L, ∃ x y, p.2 = [x, y]) ∧
  ∀ (L' : List (Addr × List Int)) (p : Addr), L'.Perm L → (L'.map (·.2)).Nodup → (L'.map fun q => prL q.2).Pairwise lexle → H p = none → Q (.ref p) (upd H p (.lst (L'.map fun q => V.ref q.1)))
theorem kx_sortS (K : PySem.W.Frag) (hc : X.calm = true) (hK : X.K = K := by rfl) : CallR X (.builtin "sorted") (rSortS K X.prog X.w) := by
  subst hK
  intro pins s σ H vs us Q I r h
  obtain ⟨a, L, rfl, ha, hk, h2, q⟩ := h
  have R0 : SetT0 X.prog X.w s.heap a L := (I.hok a _ ha).1
  obtain ⟨es, ep, t, R⟩ := R0.full fun p hp => I.isT (hk p hp)
  rw [Vals.ref1 r]
  refine sorted_setQ R (I.ok.hd hc) h2 fun s' p out c L' k g o hp hg hout pm pw => ?_
  have few := R.few
  have hlen : (L'.map fun q => V.ref q.1).length ≤ sizeLine := by rw [List.length_map, sizeLine_eq, pm.length_eq]; omega
  have hn : H p = none := I.hok.fresh hp
  have hv : Vals (L'.map fun q => V.ref q.1) out := by rw [← hout]; exact vals_of_refs L'
  obtain ⟨h1, t1, dr1, tk1, os1⟩ := s'
  cases g
  cases o
  have J : L2.Inv X pins σ (upd H p (.lst (L'.map fun q => V.ref q.1))) { s with heap := h1, gens := s.gens, drawn := dr1, toks := tk1 } :=
    I.call (ch := []) (Un.laid k hp hn) (I.hok.laid k hp ⟨hlen, out, c, hv, hg⟩) I.bare (fun _ z => nomatch z)
  exact ⟨.ref p, _, J, rfl, q L' p pm ((pm.map (·.2)).nodup_iff.mpr R.nd) pw hn⟩
end
section
variable {K : PySem.W.Frag} {P : Program} {w : World}
theorem ra_ks {F : Hp} : ∀ {vs : List V} {L : List Pr}, RA K F vs (L.map pt) → ∃ ks : List (Addr × Pr), vs = ks.map (fun k => V.ref k.1) ∧ ks.map (·.2) = L ∧ ∀ k ∈ ks, R K F (.ref k.1) (pt k.2)
  | [], [], _ => ⟨[], rfl, rfl, fun z hz => by cases hz⟩
  | [], _ :: _, h => by cases h
  | _ :: _, [], h => by cases h
  | u :: vs, p :: L, h => by
    cases h with
    | cons a r =>
      obtain ⟨ks, h1, h2, h3⟩ := ra_ks r
      have hu : ∃ t, u = V.ref t := by
        obtain ⟨t, e, _⟩ := pt_tupI (Ex.refl F) a
        exact ⟨t, e⟩
      obtain ⟨t, rfl⟩ := hu
      refine ⟨(t, p) :: ks, by rw [List.map_cons, h1], by rw [List.map_cons, h2], fun z hz => ?_⟩
      rcases List.mem_cons.mp hz with rfl | hz
      · exact a
      · exact h3 z hz
theorem ra_back {F : Hp} : ∀ {L : List (Addr × List Int)}, (∀ q ∈ L, R K F (.ref q.1) (pt (prL q.2))) → RA K F (L.map fun q => V.ref q.1) ((L.map fun q => prL q.2).map pt)
  | [], _ => .nil
  | z :: Z, h => .cons (h z (List.mem_cons_self ..)) (ra_back fun y hy => h y (List.mem_cons_of_mem _ hy))
end
end DO
namespace DO
variable [DL.TabsT]
open PySem PySem.Spec PyProof.Rows L2 Evl Lay ErrX DL
section
variable {K : PySem.W.Frag}
theorem ra_fun {F : Hp} (f : Nat → Int) : ∀ l : List Nat, RA K F (l.map fun i => V.int (f i)) (l.map fun i => D.i (f i))
  | [] => .nil
  | a :: l => .cons (.i _) (ra_fun f l)
abbrev wLstRg (we : WE) : WA := fun Γ Q => we Γ fun d => match d with
  | .i n => (0 ≤ n ∧ n ≤ 100000) ∧ Q ((List.range n.toNat).map fun k => D.i ((k : Nat) : Int))
  | _ => False
theorem f_lstRg {te : TE} {we : WE} (h : EOk K te we) : FOk K (tLstRg (tRg1 te)) (wLstRg we) := fun Γ Q hq F0 H0 F H σ r QV q =>
  h Γ _ hq F0 H0 F H σ r _ fun v d F1 H1 z e1 rv => by
    cases rv with
    | i n =>
      obtain ⟨⟨n0, n1⟩, z⟩ := z
      refine ⟨n, rfl, RgOk.of_le (by omega) (by omega) (by omega) n0, fun p hp => ?_⟩
      refine q _ _ _ F1 _ z (e1.trans (Ext.heap e1.fh (Ex.new hp))) (ExT.back e1.hh hp) (fresh_back e1.fh hp) upd_same ?_
      unfold rgV
      rw [Int.sub_zero]
      have e : ((List.range n.toNat).map fun i => V.int (0 + ((i : Nat) : Int))) = (List.range n.toNat).map fun i => V.int ((fun i : Nat => ((i : Nat) : Int)) i) := by
        refine List.map_congr_left fun i _ => ?_
        rw [Int.zero_add]
      rw [e]
      exact ra_fun _ _
    | _ => exact z.elim
end
end DO
namespace DL
variable [DL.TabsT]
open PySem PySem.Spec PyProof.Rows L2 Evl Lay ErrX
section
variable {K : PySem.W.Frag}
abbrev wLc2T (it : WA) (g : WG) (t : WT) (it1 : WA) (g1 : WG) (t1 : WT) (e : WE) (vs vs1 : List Nat) : WA := fun Γ Q => it Γ fun xs => xs.length ≤ 1000 ∧ ∃ (c : Nat → Bool) (Pd : Nat → List D → Prop),
  (∀ k x, xs[k]? = some x → g x (wipeG Γ vs) fun Γ2 => t Γ2 fun b => b = c k ∧ (b = true → noOwn (wipeG Γ2 vs1) = true ∧ it1 Γ2 fun ys => ys.length ≤ 100 ∧ ∃ (c1 : Nat → Bool) (P1 : Nat → D → Prop),
    (∀ j y, ys[j]? = some y → g1 y (wipeG Γ2 vs1) fun Γ3 => t1 Γ3 fun b1 => b1 = c1 j ∧ (b1 = true → e Γ3 (P1 j))) ∧ ∀ zs, Sel c1 P1 ys.length zs → Pd k zs)) ∧
  ∀ zss : List (List D), zss.length = xs.length → (∀ k zs, zss[k]? = some zs → if c k = true then Pd k zs else zs = []) → Q zss.flatten
theorem f_lc2T {wi wi1 : TI} {g g1 : TG} {tt tt1 : TT} {te : TE} {vs vs1 js js1 : List Nat} {wit wit1 : WA} {wg wg1 : WG} {wt wt1 : WT} {we : WE} (hi : IOk K wi wit) (hg : GOk K g wg js) (ht : TOk K tt wt) (hi1 : IOk K wi1 wit1) (hg1 : GOk K g1 wg1 js1) (ht1 : TOk K tt1 wt1) (he : EOk K te we) (hj : ∀ j ∈ js, j ∈ vs := by decide) (hj1 : ∀ j ∈ js1, j ∈ vs1 := by decide) :
    FOk K (tLc2 wi g tt wi1 g1 tt1 te vs vs1) (wLc2T wit wg wt wit1 wg1 wt1 we vs vs1) := fun Γ Q hq F0 H0 F H σ r QV w =>
  hi Γ _ hq F0 H0 F H σ r _ fun J xs F1 H1 z e1 hit => by
    obtain ⟨lx, c, Pd, turn, fin⟩ := z
    obtain ⟨Gd, Y, wk, good, yld⟩ := hit
    intro Dl hD
    have r1 := (r.ext e1).wipe vs
    refine ⟨fun i m H' => m = xs.length - i ∧ i ≤ xs.length ∧ ∃ F' zss ws, Ext F1 H1 F' H' ∧ F' Dl = none ∧ H' Dl = some (.lst ws) ∧ RA K F' ws (List.flatten zss) ∧ zss.length = i ∧ (∀ k zs, zss[k]? = some zs → if c k = true then Pd k zs else zs = []) ∧ (List.flatten zss).length ≤ i * 100,
      ⟨xs.length, by simp, Nat.zero_le _, F1, [], [], Ext.heap e1.fh (Ex.new hD), fresh_back e1.fh hD, upd_same, .nil, rfl, fun k zs h => by simp at h, Nat.zero_le _⟩, ?_⟩
    rintro i m H' ⟨rfl, hile, F', zss, ws, x, hf, hd, ra, zl, zp, zn⟩
    have gd := good F' H' x.ff x.fh
    have nof : ∀ {F' H' F3 H3 : Hp} {ws : List V}, F' Dl = none → H' Dl = some (.lst ws) → Ext F' H' F3 H3 → F3 Dl = none := fun {F' H' F3 H3 ws} hf hd e3 => by
      cases q : F3 Dl with
      | none => rfl
      | some o =>
        exact ((e3.nw Dl o q hf).not hd (fun ps z => by cases z)).elim
    by_cases lt : i < xs.length
    · refine .inr ⟨wk.goes i H' lt gd, fun H2 => i + 1 ≤ xs.length ∧ ∃ F' zss ws, Ext F1 H1 F' H2 ∧ F' Dl = none ∧ H2 Dl = some (.lst ws) ∧ RA K F' ws (List.flatten zss) ∧ zss.length = i + 1 ∧ (∀ k zs, zss[k]? = some zs → if c k = true then Pd k zs else zs = []) ∧ (List.flatten zss).length ≤ (i + 1) * 100, fun H2 q => ⟨_, by omega, rfl, q.1, q.2⟩, fun v H2 y => ?_⟩
      obtain ⟨F2, d, hx, e2, rv⟩ := yld i F' H' v H2 lt x.ff x.fh (wk.yields i H' v H2 lt gd y)
      refine hg d _ _ (turn i d hx) F0 H0 F2 H2 _ v (r1.ext (x.trans e2)) rv _ fun Γ3 σ3 F3 H3 z3 r3 e3 w3 => ⟨by rw [w3 vs hj]; exact wipe_twice σ vs, ?_⟩
      refine ht Γ3 _ z3 F0 H0 F3 H3 σ3 r3 _ fun b F3' H3' zt et => ?_
      obtain ⟨hb, z3⟩ := zt
      have e3 := e3.trans et
      have r3 := r3.ext et
      cases b with
      | false =>
        show i + 1 ≤ xs.length ∧ ∃ F' zss ws, _
        have e23 := e2.trans e3
        refine ⟨by omega, F3', zss ++ [[]], ws, x.trans e23, nof hf hd e23, e23.hh.kp hd, ?_, by rw [List.length_append, zl]; rfl, fun k zs' h => ?_, ?_⟩
        · rw [List.flatten_append, List.flatten_singleton, List.append_nil]
          exact ra.mono e23.ff
        · rw [List.getElem?_append] at h
          split at h
          · exact zp k zs' h
          · rename_i hk
            have : k = zss.length := by
              have := (List.getElem?_eq_some_iff.mp h).1
              simp at this
              omega
            subst this
            simp at h
            subst h
            rw [zl, ← hb, if_neg (by decide)]
        · rw [List.flatten_append, List.flatten_singleton, List.append_nil]
          omega
      | true =>
      obtain ⟨no3, z3⟩ := z3 rfl
      show wi1 σ3 H3' _
      refine hi1 Γ3 _ z3 F0 H0 F3' H3' σ3 r3 _ fun J1 ys F4 H4 z4 e4 hit1 => ?_
      obtain ⟨ly, c1, P1, turn1, fin1⟩ := z4
      obtain ⟨Gd1, Y1, wk1, good1, yld1⟩ := hit1
      have e24 := (e2.trans e3).trans e4
      have x4 := x.trans e24
      have r4 := (r3.ext e4).wipe vs1
      have h0D : Free H0 Dl := ExT.back r1.h0 hD
      refine ⟨fun j m H' => m = ys.length - j ∧ j ≤ ys.length ∧ ∃ F' zs ws, Ex F4 F' ∧ Rep K F0 H0 F' H' (L2.wipe σ3 vs1) (wipeG Γ3 vs1) ∧ Ext F1 H1 F' H' ∧ F' Dl = none ∧ H' Dl = some (.lst ws) ∧ RA K F' ws (List.flatten zss ++ zs) ∧ Sel c1 P1 j zs,
        ⟨ys.length, by simp, Nat.zero_le _, F4, [], ws, Ex.refl F4, r4, x4, nof hf hd e24, e24.hh.kp hd, by rw [List.append_nil]; exact ra.mono e24.ff, rfl⟩, ?_⟩
      rintro j m H5 ⟨rfl, hjle, F5, zs, ws5, x45, r5, x15, hf5, hd5, ra5, sel⟩
      have gd1 := good1 F5 H5 x45 r5.fh
      by_cases lt1 : j < ys.length
      · refine .inr ⟨wk1.goes j H5 lt1 gd1, fun H2 => j + 1 ≤ ys.length ∧ ∃ F' zs ws, Ex F4 F' ∧ Rep K F0 H0 F' H2 (L2.wipe σ3 vs1) (wipeG Γ3 vs1) ∧ Ext F1 H1 F' H2 ∧ F' Dl = none ∧ H2 Dl = some (.lst ws) ∧ RA K F' ws (List.flatten zss ++ zs) ∧ Sel c1 P1 (j + 1) zs, fun H2 q => ⟨_, by omega, rfl, q.1, q.2⟩, fun v1 H6 y1 => ?_⟩
        obtain ⟨F6, d1, hx1, e6, rv1⟩ := yld1 j F5 H5 v1 H6 lt1 x45 r5.fh (wk1.yields j H5 v1 H6 lt1 gd1 y1)
        refine hg1 d1 _ _ (turn1 j d1 hx1) F0 H0 F6 H6 _ v1 (r5.ext e6) rv1 _ fun Γ7 σ7 F7 H7 z7 r7 e7 w7 => ⟨by rw [w7 vs1 hj1]; exact wipe_twice σ3 vs1, ?_⟩
        refine ht1 Γ7 _ z7 F0 H0 F7 H7 σ7 r7 _ fun b1 F7' H7' zt1 et1 => ?_
        obtain ⟨hb1, z7⟩ := zt1
        have e67 := (e6.trans e7).trans et1
        cases b1 with
        | false =>
          show j + 1 ≤ ys.length ∧ ∃ F' zs ws, _
          refine ⟨by omega, F7', zs, ws5, x45.trans e67.ff, r5.ext e67, x15.trans e67, nof hf5 hd5 e67, e67.hh.kp hd5, ra5.mono e67.ff, ?_⟩
          unfold Sel
          rw [← hb1, if_neg (by decide)]
          exact sel
        | true =>
          show te σ7 H7' _
          refine he Γ7 _ (z7 rfl) F0 H0 F7' H7' σ7 (r7.ext et1) _ fun u dy F8 H8 z8 e8 ru => ?_
          have e58 := e67.trans e8
          have slen : zs.length ≤ j := sel.len
          have f8 := nof hf5 hd5 e58
          refine ⟨ws5, e58.hh.kp hd5, sz_lt (by rw [ra5.len, List.length_append]; omega), by omega, F8, zs ++ [dy], ws5 ++ [u], x45.trans e58.ff, (r5.ext e58).mut no3 f8 h0D (e58.hh.kp hd5) noTab_lst, ?_, f8, upd_same, ?_, ?_⟩
          · have x8 := x15.trans e58
            refine ⟨x8.ff, x8.hh.mut hD, fun a o q => ?_, x8.tb.mut (e58.hh.kp hd5) noTab_lst, x8.nw⟩
            rw [upd_ne (ne_of_none q f8)]
            exact x8.fh a o q
          · rw [← List.append_assoc]
            exact (ra5.mono e58.ff).snoc ru
          · unfold Sel
            rw [← hb1, if_pos rfl]
            exact ⟨zs, dy, rfl, sel, z8⟩
      · have ej : j = ys.length := by omega
        subst ej
        refine .inl ⟨wk1.stops H5 gd1, by omega, F5, zss ++ [zs], ws5, x15, hf5, hd5, ?_, by rw [List.length_append, zl]; rfl, fun k zs' h => ?_, ?_⟩
        · rw [List.flatten_append, List.flatten_singleton]
          exact ra5
        · rw [List.getElem?_append] at h
          split at h
          · exact zp k zs' h
          · rename_i hk
            have : k = zss.length := by
              have := (List.getElem?_eq_some_iff.mp h).1
              simp at this
              omega
            subst this
            simp at h
            subst h
            rw [zl, ← hb, if_pos rfl]
            exact fin1 zs sel
        · have slen : zs.length ≤ ys.length := sel.len
          rw [List.flatten_append, List.flatten_singleton, List.length_append]
          omega
    · have ei : i = xs.length := by omega
      subst ei
      exact .inl ⟨wk.stops H' gd, w Dl ws _ F' H' (fin zss zl zp) (e1.trans x) (ExT.back e1.hh hD) hf hd ra⟩
end
end DL
namespace DO
open PySem PySem.Spec PyProof.Rows L2 Evl Lay ErrX DL
end DO
namespace DO
variable [DL.TabsT]
open PySem PySem.Spec PyProof.Rows L2 Evl Lay ErrX DL
def FewK (ks : List (Addr × List Int)) : Prop := ∀ U : List (List Int), U.Nodup → (∀ u ∈ U, u ∈ ks.map (·.2)) → U.length < 63
section
variable {P : Program} {w : World} {A : Around} {E : Value → Shared → Prop} {s : Shared}
/-- what stands before the loop, behind its first i turns -/
structure Mid (P : Program) (w : World) (h0 : Heap) (S : Addr) (ks : List (Addr × List Int)) (i : Nat) (h : Heap) : Prop where
  keep : ∀ b o, h0.get? b = some o → h.get? b = some o
  got : ∃ L es ep t, SetTR P w h S L es ep t ∧ Got ks i L
theorem few_now {h : Heap} {S : Addr} {ks L : List (Addr × List Int)} {i : Nat} {es : Array (Int × Value)} {ep : Nat} {t : SetTable} (R : SetTR P w h S L es ep t) (g : Got ks i L) (f : FewK ks) : L.length + 1 < 64 := by
  have := f (L.map (·.2)) R.nd fun u hu => by
    obtain ⟨p, hp, e⟩ := List.mem_map.mp hu
    exact List.mem_map.mpr ⟨p, List.mem_of_mem_take (g.sub p hp), e⟩
  rw [List.length_map] at this
  omega
section
variable {I S : Addr} {fp wr : List Addr} {G : Array GenState → Array GenState → Prop} {Pv : Nat → Value → Prop} {St : Nat → Shared → Prop} {R : Result → Shared → Prop} {ks : List (Addr × List Int)} {h0 : Heap}
theorem loop_few {n : Nat} (W : WalksS P w A.in1 I fp wr G n Pv St) (hn : ks.length = n) (nS : S ∉ fp) (f : FewK ks) (tells : ∀ j v, Pv j v → ∃ q, ks[j]? = some q ∧ v = .ref q.1) (tup : ∀ q ∈ ks, IsT P w h0 q.2 q.1) (S0 : h0.get? S = none) (wr0 : ∀ b ∈ wr, h0.get? b = none) (un : A.in1.units < cLine) :
    ∀ (m j : Nat) (s : Shared), j + m = ks.length → St j s → Mid P w h0 S ks j s.heap → (∀ s', Moved (S :: wr) G s s' → Mid P w h0 S ks ks.length s'.heap → R (.ok (.ret .none)) s') →
      codeAny (model P w) A (.builtin "set.update.loop" ⟨[.ref S, .ref I], []⟩) R s := by
  subst hn
  have nw : S ∉ wr := fun h => nS (W.sub _ h)
  have up : ∀ b ∈ wr, b ∈ S :: wr := fun b => List.mem_cons_of_mem _
  have kept : ∀ {x y : Shared}, Moved wr G x y → ∀ {L es ep t}, SetTR P w x.heap S L es ep t → (∀ q ∈ L, q ∈ ks) → (∀ b o, h0.get? b = some o → x.heap.get? b = some o) →
      (∀ b o, h0.get? b = some o → y.heap.get? b = some o) ∧ SetTR P w y.heap S L es ep t := fun {x y} mv {L es ep t} T sub k => by
    have k' : ∀ b o, h0.get? b = some o → y.heap.get? b = some o := fun b o z => mv.heap b o (fun hb => absurd (wr0 b hb) (by rw [z]; exact Option.some_ne_none o)) (k b o z)
    exact ⟨k', T.keep (fun o z => mv.heap S o nw z) fun q hq => isT_keep (tup q (sub q hq)) k'⟩
  intro m
  induction m with
  | zero =>
    intro j s hj st ⟨k, L, es, ep, t, T, g⟩ fin
    obtain rfl : j = ks.length := hj
    refine codeAny_builtin F.entry_set_update_loop ?_
    rw [Around.under_plainId F.plain_set_update_loop _]
    show wpAny _ A.in1 (pyNext (.ref I) >>= _) _ _ s
    refine wpAny_bind (W.done s _ _ st fun s1 mv => ?_)
    obtain ⟨k', T'⟩ := kept mv T (fun q hq => List.mem_of_mem_take (g.sub q hq)) k
    exact wpAny_pure (fin s1 (mv.mono up) ⟨k', L, es, ep, t, T', g⟩)
  | succ m ih =>
    intro j s hj st ⟨k, L, es, ep, t, T, g⟩ fin
    refine codeAny_builtin F.entry_set_update_loop ?_
    rw [Around.under_plainId F.plain_set_update_loop _]
    show wpAny _ A.in1 (pyNext (.ref I) >>= _) _ _ s
    refine wpAny_bind (W.item j s _ _ (by omega) st fun v s1 pv st1 mv => ?_)
    obtain ⟨q, hq, rfl⟩ := tells j v pv
    obtain ⟨k1, T1⟩ := kept mv T (fun q hq => List.mem_of_mem_take (g.sub q hq)) k
    have qT : IsT P w s1.heap q.2 q.1 := isT_keep (tup q (List.mem_of_getElem? hq)) k1
    show wpAny _ A.in1 (holding [Value.ref q.1] (setAdd S (.ref q.1)) >>= _) _ _ s1
    refine wpAny_bind (wpAny_holding ?_)
    unfold setAdd
    refine wpAny_holding (wpAny_bind (wpAny_pyHash_tuple un qT ?_))
    refine add_at (s := { s1 with toks := s1.toks + (q.2.length + 1) }) T1 qT un (few_now T1 g f) fun _ h2 L2 es2 ep2 t2 sb T2 old new => ?_
    have g2 : Got ks (j + 1) L2 := (Classical.em (q.2 ∈ L.map (·.2))).elim (fun c => by rw [old c]; exact g.same hq c) fun c => g.more hq (new c)
    have off : ∀ b, b ≠ S → ∀ o, s1.heap.get? b = some o → h2.get? b = some o := fun b nb o z => (sb.2 b nb).trans z
    refine wpAny_pure ⟨plainId_quiet F.plain_set_update_loop _, ih (j + 1) _ (by omega) (W.frame _ s1 _ _ st1 (Nat.le_add_right _ _) fun b hb o z => off b (fun e => nS (e ▸ hb)) o z) ⟨fun b o z => off b (fun e => absurd S0 (by rw [← e, z]; exact Option.some_ne_none o)) o (k1 b o z), L2, es2, ep2, t2, T2, g2⟩ fun s2 mv2 md => ?_⟩
    exact fin s2 (Moved.trans W.gtrans ((mv.mono up).then_heap (Nat.le_add_right _ _) fun b o nb z => off b (fun e => nb (by rw [e]; exact List.mem_cons_self)) o z) mv2) md
end
/-- a set that was just made -/
def setNew (w : World) : Obj := { cls := .type "set", dict := none, data := .set #[] 0 (.fresh 0 0 (!w.params.followText "set-order")) }
theorem none_past {h : Heap} {b : Addr} (hb : h.objs.size ≤ b) : h.get? b = none := by
  cases q : h.get? b with
  | none => rfl
  | some o => exact absurd (Heap.lt_size q) (Nat.not_lt.mpr hb)
/-- what the call of set leaves -/
def Left (P : Program) (w : World) (ks : List (Addr × List Int)) (s s' : Shared) : Prop := ∃ h' tk, s' = { s with heap := h', toks := tk } ∧ Mid P w s.heap s.heap.objs.size ks ks.length h'
theorem init_few {l : Addr} {items : Array Value} {ks : List (Addr × List Int)} (calm : A.handled = none) (isl : s.heap.IsList l items) (refs : items.toList = ks.map fun q => Value.ref q.1) (tup : ∀ q ∈ ks, IsT P w s.heap q.2 q.1) (f : FewK ks) (un : A.in1.in1.units < cLine) {Q : PySem.Fin → Shared → Prop} (q : ∀ s', Left P w ks s s' → wpAny (model P w) A.in1 (ret Value.none) Q E s') :
    wpAny (model P w) A.in1 (Builtin.«set.__init__» ⟨[.ref s.heap.objs.size, .ref l], []⟩) Q E { s with heap := s.heap.push (setNew w) } := by
  have sz : items.size = ks.length := by
    rw [← Array.length_toList, refs, List.length_map]
  obtain ⟨ol, hol, hcl, nl, hdl⟩ := isl
  obtain ⟨ocls, odict, odata, oslots⟩ := ol
  simp only at hcl hdl
  subst hcl hdl
  have hol' : (s.heap.push (setNew w)).get? l = some { cls := .type "list", dict := odict, data := .seq items nl, slots := oslots } := Heap.get?_push_of_some _ hol
  have il : (s.heap.push (setNew w)).IsList l items := ⟨_, hol', rfl, nl, rfl⟩
  have hT : Shared.TypeIs { s with heap := s.heap.push (setNew w) } (.ref s.heap.objs.size) "set" := ⟨_, Heap.get?_push_size _ rfl, rfl⟩
  have sub1 := F.sub_list_set
  have sub2 := F.sub_list_frozenset
  have ned : (Value.type "list" == Value.type "dict") = false := by decide
  unfold Builtin.«set.__init__» noKeywords Builtin.Frozenset.updateFrom
  generalize iterG : pyIter = PI
  wp_walk
  subst iterG
  refine wpAny_pyIter_list il (wpAny_bind (wpAny_runValue ?_))
  have lS : l < s.heap.objs.size := Heap.lt_size hol
  have sz1 : (s.heap.push (setNew w)).objs.size = s.heap.objs.size + 1 := Heap.size_push ..
  have lI : l ≠ (s.heap.push (setNew w)).objs.size := by rw [sz1]; exact Nat.ne_of_lt (Nat.lt_succ_of_lt lS)
  have hget : ((s.heap.push (setNew w)).push { cls := .type "list_iterator", data := .fields #[.ref l, .int 0 0] }).get? s.heap.objs.size = some (setNew w) := Heap.get?_push_of_some _ (Heap.get?_push_size _ rfl)
  refine loop_few (ks := ks) (h0 := s.heap) (S := s.heap.objs.size) (Walks.list (by simp [calm]) _ l lI items).toS sz.symm (fun z => ?_) f (fun i v hv => ?_) tup (none_past (Nat.le_refl _)) (fun b hb => ?_) un ks.length 0 _ (Nat.zero_add _) ⟨⟨_, Heap.get?_push_size _ rfl, rfl, rfl⟩, il.push _⟩ ⟨fun b o e => Heap.get?_push_of_some _ (Heap.get?_push_of_some _ e), [], #[], 0, .fresh 0 0 (!w.params.followText "set-order"), ?fresh, Got.zero ks⟩ fun s' mv md => ?_
  case fresh => exact setTR_fresh hget
  · rw [sz1] at z
    simp only [List.mem_cons, List.not_mem_nil, or_false] at z
    exact z.elim (fun e => absurd e (Nat.ne_of_lt (Nat.lt_succ_self _))) fun e => absurd e.symm (Nat.ne_of_lt lS)
  · have e : items.toList[i]? = some v := by rw [Array.getElem?_toList]; exact hv
    rw [refs, List.getElem?_map] at e
    cases r : ks[i]? with
    | none => rw [r] at e; cases e
    | some p =>
      rw [r] at e
      exact ⟨p, rfl, (Option.some.inj e).symm⟩
  · refine none_past ?_
    rw [List.mem_singleton.mp hb, sz1]
    omega
  · obtain ⟨h', g', d', tk', os'⟩ := s'
    have e1 : g' = s.gens := mv.gens
    have e2 : d' = s.drawn := mv.drawn
    have e3 : os' = s.os := mv.os
    subst e1 e2 e3
    show wpAny _ _ _ _ _ _
    exact wpAny_pure (q _ ⟨h', tk', rfl, md⟩)
/-- set(xs) -/
theorem set_few {l : Addr} {items : Array Value} {ks : List (Addr × List Int)} (calm : A.handled = none) (isl : s.heap.IsList l items) (refs : items.toList = ks.map fun q => Value.ref q.1) (tup : ∀ q ∈ ks, IsT P w s.heap q.2 q.1) (f : FewK ks) (un : A.units + 3 < cLine) {Q : Value → Shared → Prop} (q : ∀ s', Left P w ks s s' → Q (.ref s.heap.objs.size) s') :
    wpAny (model P w) A (call (.type "set") [.ref l]) Q E s := by
  have hc := F.called_set
  obtain ⟨c, tl, hmro⟩ := hc.mro
  have g1 := hc.made
  have g2 := hc.sub
  have g3 := hc.notType
  have g4 := hc.canCreate
  have g5 := F.typeCall_set_1 (.ref l)
  refine wpAny_call (codeAny_of_tree ?_)
  show wpAny _ _ (callAny (.type "set") _) _ _ _
  refine wpAny_pure ⟨Code.quiet_builtin _ (by decide +kernel), codeAny_builtin F.entry_type_call ?_⟩
  rw [Around.under_plain (weight_type_call_type "set" [.ref l] []) rfl]
  repeat (any_goals (first | assumption | wp_step))
  refine codeAny_mono (code_set_led1 (.ref l) (E := E) (Q₁ := fun ob s1 => ob = .ref s.heap.objs.size ∧ s1 = { s with heap := s.heap.push (setNew w) }) ⟨rfl, rfl⟩) fun r s1 hr => ?_
  cases r with
  | error e => exact hr
  | ok fl =>
    cases fl with
    | ret ob =>
      obtain ⟨rfl, rfl⟩ := hr
      have hT : Shared.TypeIs { s with heap := s.heap.push (setNew w) } (.ref s.heap.objs.size) "set" := ⟨_, Heap.get?_push_size _ rfl, rfl⟩
      have g6 := hc.init.lookup
      have g7 := hc.init.bind (.ref s.heap.objs.size)
      repeat (any_goals (first | assumption | wp_step))
      refine codeAny_mono (codeAny_call_builtin (R := wants (fun r s2 => r = .none ∧ Left P w ks s s2) E) hc.init.plain F.entry_set_init (check_set_init_1 hT ?_)) fun r2 s2 h2 => ?_
      · exact init_few (A := A.in1) (by simp [calm]) isl refs tup f un fun s2 z => wpAny_pure ⟨rfl, z⟩
      cases r2 with
      | error e => exact h2
      | ok fl2 =>
        cases fl2 with
        | ret r =>
          obtain ⟨rfl, z⟩ := h2
          have q2 := q s2 z
          repeat (any_goals (first | assumption | wp_step))
        | _ => exact h2.elim
    | _ => exact hr.elim
end
section
variable {X : Cx}
def rSetFew (K : PySem.W.Frag) (P : Program) (w : World) : List V → Hp → VK → Prop := fun xs H Q => ∃ (l : Addr) (ks : List (Addr × List Int)), xs = [V.ref l] ∧ SqL K H l (ks.map fun p => V.ref p.1) ∧ (∀ p ∈ ks, SqT K H p.1 (p.2.map V.int)) ∧ FewK ks ∧
  ∀ a L, H a = none → (∀ p ∈ L, p ∈ ks) → (∀ p ∈ ks, p.2 ∈ L.map (·.2)) → Q (.ref a) (upd H a (SetTO P w a L))
theorem cr_setFew (hc : X.calm = true) (hu : X.A.units + 64 < cLine) : CallR X (.type "set") (rSetFew X.K X.prog X.w) := by
  intro pins s σ H xs us Q I r h
  obtain ⟨l, ks, rfl, hl, hk, f, q⟩ := h
  rw [Vals.ref1 r]
  obtain ⟨its, rv, pl, _⟩ := I.list hl
  have fresh : H s.heap.objs.size = none := I.hok.fresh (Nat.le_refl _)
  refine set_few (P := X.prog) (w := X.w) (I.ok.hd hc) pl.isList (by simpa using refs_of_vals rv) (fun p hp => I.isT (hk p hp)) f (by omega) fun s' z => ?_
  obtain ⟨h', tk, rfl, keep, L, es, ep, t, R, g⟩ := z
  exact ⟨.ref s.heap.objs.size, _, I.laid (t' := tk) keep (Nat.le_refl _) (setTO_new R.t0), rfl, q _ L fresh (fun p hp => List.mem_of_mem_take (g.sub p hp)) fun p hp => g.all p (by rw [List.take_length]; exact hp)⟩
end
section
variable {K : PySem.W.Frag} {P : Program} {w : World}
theorem few_pairs {ks : List (Addr × Pr)} {L : List Pr} (e : ks.map (·.2) = L) (f : ∀ U : List Pr, U.Nodup → (∀ u ∈ U, u ∈ L) → U.length < 63) : FewK (ks.map fun k => (k.1, [k.2.1, k.2.2])) := fun U nd sub => by
  have form : ∀ u ∈ U, ∃ p ∈ L, u = [p.1, p.2] := fun u hu => by
    obtain ⟨q, hq, rfl⟩ := List.mem_map.mp (sub u hu)
    obtain ⟨k, hk, rfl⟩ := List.mem_map.mp hq
    exact ⟨k.2, by rw [← e]; exact List.mem_map_of_mem (f := (·.2)) hk, rfl⟩
  have := f (U.map prL) (List.pairwise_map.mpr (List.Pairwise.imp_of_mem (fun {x y} hx hy ne z => ?_) nd)) fun u hu => ?_
  · rw [List.length_map] at this
    exact this
  · obtain ⟨p, _, rfl⟩ := form x hx
    obtain ⟨q, _, rfl⟩ := form y hy
    unfold prL at z
    injection z with z1 z2
    have z1 : p.1 = q.1 := z1
    have z2 : p.2 = q.2 := z2
    exact ne (by rw [z1, z2])
  · obtain ⟨x, hx, rfl⟩ := List.mem_map.mp hu
    obtain ⟨p, hp, rfl⟩ := form x hx
    exact hp
abbrev wSsetF (we : WE) : WE := fun Γ Q => we Γ fun d => ∃ L : List Pr, d = .l (L.map pt) ∧ (∀ U : List Pr, U.Nodup → (∀ u ∈ U, u ∈ L) → U.length < 63) ∧ ∀ L' : List Pr, L'.Nodup → (∀ p, p ∈ L' ↔ p ∈ L) → L'.Pairwise lexle → Q (.l (L'.map pt))
theorem e_ssetF {te : TE} {we : WE} (h : EOk K te we) : EOk K (tCB (rSortS K P w) (tCons (tCB (rSetFew K P w) (tCons te tNil)) tNil)) (wSsetF we) := fun Γ Q hq F0 H0 F H σ r QV q =>
  h Γ _ hq F0 H0 F H σ r _ fun v d F1 H1 z e1 rv => by
    obtain ⟨L, e0, few, h1⟩ := z
    subst e0
    cases rv with
    | @l a vs _ ha ra =>
      obtain ⟨ks, k1, k2, k3⟩ := ra_ks ra
      refine ⟨a, ks.map fun k => (k.1, [k.2.1, k.2.2]), rfl, ?_, fun p hp => ?_, few_pairs k2 few, fun b LL hb sub all => ?_⟩
      · rw [List.map_map]
        have : (ks.map ((fun p : Addr × List Int => V.ref p.1) ∘ fun k : Addr × Pr => (k.1, [k.2.1, k.2.2]))) = vs := k1.symm
        rw [this]
        exact sq_of (e1.fh _ _ ha)
      · obtain ⟨k, hk, rfl⟩ := List.mem_map.mp hp
        obtain ⟨t, e2, st⟩ := pt_tupI e1.fh (k3 k hk)
        cases e2
        exact st
      · have x2 := Ex.new (o := SetTO P w b LL) hb
        have form : ∀ q ∈ LL, ∃ k ∈ ks, q = (k.1, [k.2.1, k.2.2]) := fun q hq => by
          obtain ⟨k, hk, e⟩ := List.mem_map.mp (sub q hq)
          exact ⟨k, hk, e.symm⟩
        refine ⟨b, LL, rfl, upd_same, fun p hp => ?_, fun p hp => ?_, fun L' p pm nd pw np => ?_⟩
        · obtain ⟨k, hk, rfl⟩ := form p hp
          obtain ⟨t, e2, st⟩ := pt_tupI (e1.fh.trans x2) (k3 k hk)
          cases e2
          exact st
        · obtain ⟨k, hk, rfl⟩ := form p hp
          exact ⟨_, _, rfl⟩
        · have form' : ∀ q ∈ L', ∃ k ∈ ks, q = (k.1, [k.2.1, k.2.2]) := fun q hq => form q (pm.mem_iff.mp hq)
          have e3 : Ext F1 H1 F1 (upd H1 b (SetTO P w b LL)) := Ext.heap e1.fh x2
          refine q _ _ (upd F1 p (.lst (L'.map fun q => V.ref q.1))) _ (h1 (L'.map fun q => prL q.2) ?_ (fun x => ?_) pw) ((e1.trans e3).trans (Ext.new e3.fh np)) (.l upd_same ((ra_back fun q hq => ?_).mono (Ex.new (fresh_back e3.fh np))))
          · refine List.pairwise_map.mpr (List.Pairwise.imp_of_mem (fun {x y} hx hy ne e => ?_) (List.pairwise_map.mp nd))
            obtain ⟨k, _, rfl⟩ := form' x hx
            obtain ⟨k', _, rfl⟩ := form' y hy
            refine ne ?_
            unfold prL at e
            injection e with e e'
            have e : k.2.1 = k'.2.1 := e
            have e' : k.2.2 = k'.2.2 := e'
            show [k.2.1, k.2.2] = [k'.2.1, k'.2.2]
            rw [e, e']
          · constructor
            · intro hx
              obtain ⟨q, hq, rfl⟩ := List.mem_map.mp hx
              obtain ⟨k, hk, rfl⟩ := form' q hq
              rw [← k2]
              exact List.mem_map.mpr ⟨k, hk, rfl⟩
            · intro hx
              rw [← k2] at hx
              obtain ⟨k, hk, rfl⟩ := List.mem_map.mp hx
              obtain ⟨q, hq, eq⟩ := List.mem_map.mp (all (k.1, [k.2.1, k.2.2]) (List.mem_map.mpr ⟨k, hk, rfl⟩))
              refine List.mem_map.mpr ⟨q, pm.mem_iff.mpr hq, ?_⟩
              rw [eq]
              rfl
          · obtain ⟨k, hk, rfl⟩ := form' q hq
            exact k3 k hk
end
end DO
namespace DO
open PySem PySem.Spec PyProof.Rows L2 Evl Lay ErrX DL
end DO
namespace DO
variable [DL.TabsT]
open PySem PySem.Spec PyProof.Rows L2 Evl Lay ErrX DL
section
variable {K : PySem.W.Frag}
/-- {} -/
abbrev wQ0 : WE := fun _ Q => Q (.q false)
theorem e_q0 : EOk K tDNewK wQ0 := fun Γ Q hq F0 H0 F H σ r QV w => fun p hp => w _ _ (upd F p (.dK [])) _ hq (Ext.new r.fh hp) (.q false upd_same)
end
end DO
namespace DO
variable [DL.TabsT]
open PySem PySem.Spec PyProof.Rows L2 Evl Lay ErrX DL
section
variable {K : PySem.W.Frag}
theorem upd_twice {H : Hp} {p : Addr} {a b : HO} : upd (upd H p a) p b = upd H p b := funext fun q => by
  by_cases e : q = p
  · rw [e, upd_same, upd_same]
  · rw [upd_ne e, upd_ne e, upd_ne e]
abbrev wQ1 : WE := fun _ Q => Q (.q true)
theorem e_q1 : EOk K (tDisp [(tC (.str "a"), tC (.int 1))]) wQ1 := fun Γ Q hq F0 H0 F H σ r QV w => fun p hp => by
  refine ⟨upd_same, [(.inr "a", .int 1)], rfl, by show 1 ≤ 15; decide, ?_⟩
  rw [upd_twice]
  exact w _ _ (upd F p (.dK (mergeK [] [(.inr "a", .int 1)]))) _ hq (Ext.new r.fh hp) (.q true upd_same)
/-- t[lo:hi], the whole among them -/
abbrev wSlA (a : WE) (lo hi : WPt) : WE := fun Γ Q => a Γ fun x => lo Γ fun l => hi Γ fun u => match x with
  | .t xs => Q (.t (DL.cutD xs l u))
  | _ => False
theorem kx_slA (K : PySem.W.Frag) {X : Cx} (hK : X.K = K := by rfl) : SlR X (rSlA K) := by
  subst hK
  exact sl_tupA
theorem cutD_whole {xs : List D} {l u : Option Int} (h : HT.sIx xs.length 0 l = 0 ∧ HT.sIx xs.length xs.length u = xs.length) : DL.cutD xs l u = xs := by
  unfold DL.cutD
  rw [h.1, h.2]
  simp
theorem e_slA {ta : TE} {tl th : L2.St → Hp → (Option Int → Hp → Prop) → Prop} {wa : WE} {wl wh : WPt} (ha : EOk K ta wa) (hl : PtOk K tl wl) (hh : PtOk K th wh) : EOk K (tSl (rSlA K) ta tl th) (wSlA wa wl wh) := fun Γ Q hq F0 H0 F H σ r QV q =>
  ha Γ _ hq F0 H0 F H σ r _ fun v x F1 H1 z1 e1 rv => hl Γ _ z1 F0 H0 F1 H1 σ (r.ext e1) _ fun lo F2 H2 z2 e2 => hh Γ _ z2 F0 H0 F2 H2 σ ((r.ext e1).ext e2) _ fun hi F3 H3 z3 e3 => by
    cases rv with
    | @t p vs xs hp ra =>
      have e23 := e2.trans e3
      refine ⟨p, vs, rfl, ex_t e3.fh (ex_t e23.ff hp), fun h => ?_, fun h a ha => ?_⟩
      · rw [ra.len] at h
        have z3 : Q (.t (DL.cutD xs lo hi)) := z3
        rw [cutD_whole h] at z3
        exact q _ _ F3 H3 z3 (e1.trans e23) (.t (ex_t e23.ff hp) (ra.mono e23.ff))
      · exact q _ _ (upd F3 a (.tup (cutV vs lo hi))) _ z3 ((e1.trans e23).trans (Ext.new e3.fh ha)) (.t (st_of upd_same) (((ra.mono e23.ff).cut lo hi).mono (Ex.new (fresh_back e3.fh ha))))
    | _ => exact z3.elim
/-- list(xs) -/
def rListOf (K : PySem.W.Frag) : List V → Hp → VK → Prop := fun xs H Q => ∃ p ys, xs = [.ref p] ∧ (SqL K H p ys ∨ SqT K H p ys) ∧ ∀ l, H l = none → Q (.ref l) (upd H l (.lst ys))
theorem kx_listOf (K : PySem.W.Frag) {X : Cx} (h : X.K = K := by rfl) : CallR X (.type "list") (rListOf K) := h ▸ call_list_of
abbrev wListOf (a : WA) : WA := fun Γ Q => a Γ fun xs => match xs with
  | [.t ys] => Q ys
  | [.l ys] => Q ys
  | _ => False
theorem f_listOf {ta : TA} {wa : WA} (ha : AOk K ta wa) : FOk K (tCB (rListOf K) ta) (wListOf wa) := fun Γ Q h F0 H0 F H σ rp QV q =>
  ha Γ _ h F0 H0 F H σ rp _ fun vs ds F1 H1 h1 e1 r1 => by
    have h1 : (match (generalizing := false) ds with | [.t ys] => Q ys | [.l ys] => Q ys | _ => False) := h1
    split at h1
    · cases r1 with
      | cons a r =>
        cases r
        cases a with
        | @t p ws _ hp ra => exact ⟨p, ws, rfl, .inr (ex_t e1.fh hp), fun l hl => q l ws _ F1 _ h1 (e1.trans (Ext.heap e1.fh (Ex.new hl))) (ExT.back e1.hh hl) (fresh_back e1.fh hl) upd_same ra⟩
    · cases r1 with
      | cons a r =>
        cases r
        cases a with
        | @l p ws _ hp ra => exact ⟨p, ws, rfl, .inl (sq_of (e1.fh _ _ hp)), fun l hl => q l ws _ F1 _ h1 (e1.trans (Ext.heap e1.fh (Ex.new hl))) (ExT.back e1.hh hl) (fresh_back e1.fh hl) upd_same ra⟩
    · exact h1.elim
end
end DO
namespace DO
open PySem PySem.Spec PyProof.Rows L2 Evl Lay ErrX DL
end DO
namespace TStr
variable [DL.TabsT]
open PySem PySem.Spec PyProof.Rows L2
def iAny (K : PySem.W.Frag) (tl : TE) : TI := fun σ H R => tl σ H fun x H1 => ∃ a, x = .ref a ∧ (((∃ xs, SqT K H1 a xs) ∧ R (Itt K a) H1) ∨ ((∃ xs, SqL K H1 a xs) ∧ R (Itl K a) H1))
theorem pi_any (K : PySem.W.Frag) {X : Cx} {tg l : Expr} {tl : TE} (hl : PE X l tl) (hK : X.K = K := by rfl) : PI X tg l (iAny K tl) := by
  subst hK
  refine ⟨fun pins s σ H R I h => ?_⟩
  refine thn (hl.run pins s σ H _ I h) fun v s1 ⟨x, H1, I1, r1, q1⟩ => ?_
  obtain ⟨a, rfl, q⟩ := q1
  cases r1
  have fp : ∀ b ∈ [s1.heap.objs.size], _ := fun b hb => by
    obtain rfl : b = s1.heap.objs.size := by simpa using hb
    exact I1.fpOk (Nat.le_refl _) (I1.hok.fresh (Nat.le_refl _))
  rcases q with ⟨⟨xs, hq⟩, q⟩ | ⟨⟨xs, hq⟩, q⟩
  · obtain ⟨its, rv, p, hz⟩ := I1.tuple hq
    refine wpAny_pyIter_tuple (show s1.heap.IsTuple a its.toArray from p) ?_
    exact ⟨s1.heap.objs.size, [s1.heap.objs.size], _, _, H1, rfl, I1.kept (t' := s1.toks) fun b o e => Heap.get?_push_of_some _ e, turn_tuple a _, ⟨_, Heap.get?_push_size _ rfl, rfl, rfl⟩, fp, q⟩
  · obtain ⟨its, rv, p, hz⟩ := I1.list hq
    refine wpAny_pyIter_list p.isList ?_
    exact ⟨s1.heap.objs.size, [s1.heap.objs.size], _, _, H1, rfl, I1.kept (t' := s1.toks) fun b o e => Heap.get?_push_of_some _ e, turn_list a _, ⟨_, Heap.get?_push_size _ rfl, rfl, rfl⟩, fp, q⟩
end TStr
namespace DL
variable [DL.TabsT]
open PySem PySem.Spec PyProof.Rows L2 Evl Lay ErrX TStr
section
variable {K : PySem.W.Frag}
abbrev wItA (e : WE) : WA := fun Γ Q => e Γ fun d => match d with
  | .t xs => Q xs
  | .l xs => Q xs
  | _ => False
theorem i_any {te : TE} {we : WE} (h : EOk K te we) : IOk K (iAny K te) (wItA we) := fun Γ Q hq F0 H0 F H σ r QI w =>
  h Γ _ hq F0 H0 F H σ r _ fun v d F1 H1 z e1 rv => by
    cases rv with
    | @t p vs xs hp ra =>
      exact ⟨p, rfl, .inl ⟨⟨vs, ex_t e1.fh hp⟩, w _ xs F1 H1 z e1 ⟨_, _, ra.len ▸ walk_tup (xs := vs), fun F2 H2 a b => ex_t b (ex_t a hp), fun k F2 H2 v H3 lt a b y => by
        obtain ⟨rfl, y⟩ := y
        obtain ⟨x, q1, q2⟩ := ra.walk a y
        exact ⟨F2, x, q1, Ext.refl b, q2⟩⟩⟩⟩
    | @l p vs xs hp ra =>
      exact ⟨p, rfl, .inr ⟨⟨vs, sq_of (e1.fh _ _ hp)⟩, w _ xs F1 H1 z e1 ⟨_, _, ra.len ▸ walk_list (xs := vs), fun F2 H2 a b => sq_of (b _ _ (a _ _ hp)), fun k F2 H2 v H3 lt a b y => by
        obtain ⟨rfl, y⟩ := y
        obtain ⟨x, q1, q2⟩ := ra.walk a y
        exact ⟨F2, x, q1, Ext.refl b, q2⟩⟩⟩⟩
    | _ => exact z.elim
end
end DL
namespace LatM
variable [DL.TabsT]
/-- all shoves of (w, s, h) -/
def inL (w s h x y : Int) : Prop := ∃ a b : Int, x = a * w + b * s ∧ y = b * h
structure HNF (w s h : Int) : Prop where
  w0 : 0 < w
  s0 : 0 ≤ s
  s1 : s < w
  h0 : 0 < h
theorem near {w u v : Int} (h1 : 0 ≤ u) (h2 : u < w) (h3 : 0 ≤ v) (h4 : v < w) (d : w ∣ u - v) : u = v := by
  have := Int.eq_zero_of_dvd_of_natAbs_lt_natAbs d (by omega)
  omega
theorem zero_mul_pos {b h : Int} (h0 : 0 < h) (e : 0 = b * h) : b = 0 := by
  rcases Int.mul_eq_zero.mp e.symm with z | z
  · exact z
  · omega
theorem HNF.sub {w s h w' s' h' : Int} (A : HNF w s h) (B : HNF w' s' h') (e : ∀ x y, inL w s h x y → inL w' s' h' x y) : w' ∣ w ∧ h' ∣ h ∧ ∃ b, h = b * h' ∧ w' ∣ s - b * s' := by
  obtain ⟨a, b, h1, h2⟩ := e w 0 ⟨1, 0, by omega, by omega⟩
  have := zero_mul_pos B.h0 h2
  subst this
  obtain ⟨c, d, h3, h4⟩ := e s h ⟨0, 1, by omega, by omega⟩
  exact ⟨⟨a, by rw [h1]; grind⟩, ⟨d, by rw [h4]; grind⟩, d, h4, ⟨c, by rw [h3]; grind⟩⟩
theorem HNF.uniq {w s h w' s' h' : Int} (A : HNF w s h) (B : HNF w' s' h') (e : ∀ x y, inL w s h x y ↔ inL w' s' h' x y) : w = w' ∧ s = s' ∧ h = h' := by
  obtain ⟨a1, a2, b, a3, a4⟩ := A.sub B fun x y => (e x y).mp
  obtain ⟨b1, b2, c, b3, b4⟩ := B.sub A fun x y => (e x y).mpr
  have hw : w = w' := Int.dvd_antisymm (Int.le_of_lt A.w0) (Int.le_of_lt B.w0) b1 a1
  have hh : h = h' := Int.dvd_antisymm (Int.le_of_lt A.h0) (Int.le_of_lt B.h0) b2 a2
  subst hw hh
  have hb : b = 1 := by
    have z : (b - 1) * h = 0 := by grind
    rcases Int.mul_eq_zero.mp z with q | q
    · omega
    · have := A.h0
      omega
  subst hb
  refine ⟨rfl, ?_, rfl⟩
  rw [Int.one_mul] at a4
  exact near A.s0 A.s1 B.s0 B.s1 a4
/-- rests are alike just of cells that a shove brings to one another -/
theorem rest_iff {w s h x y x' y' : Int} (hw : 0 < w) (hh : 0 < h) : ((x - y / h * s) % w = (x' - y' / h * s) % w ∧ y % h = y' % h) ↔ inL w s h (x - x') (y - y') := by
  constructor
  · rintro ⟨e1, e2⟩
    obtain ⟨a, ha⟩ := Int.dvd_of_emod_eq_zero (Int.emod_eq_emod_iff_emod_sub_eq_zero.mp e1)
    have d1 := Int.emod_add_mul_ediv y h
    have d2 := Int.emod_add_mul_ediv y' h
    exact ⟨a, y / h - y' / h, by grind, by grind⟩
  · rintro ⟨a, b, e1, e2⟩
    have ey : y = y' + b * h := by omega
    subst ey
    refine ⟨?_, Int.add_mul_emod_self_right ..⟩
    rw [Int.add_mul_ediv_right _ _ (by omega), show x - (y' / h + b) * s = x' - y' / h * s + a * w by grind, Int.add_mul_emod_self_right]
structure Sub (G : Int → Int → Prop) : Prop where
  zero : G 0 0
  add : ∀ {x y x' y' : Int}, G x y → G x' y' → G (x + x') (y + y')
  neg : ∀ {x y : Int}, G x y → G (-x) (-y)
theorem Sub.nat {G : Int → Int → Prop} (S : Sub G) {x y : Int} (h : G x y) : ∀ n : Nat, G (n * x) (n * y)
  | 0 => by
    have := S.zero
    simpa using this
  | n + 1 => by
    have := S.add (S.nat h n) h
    rw [show ((n + 1 : Nat) : Int) * x = n * x + x by push_cast; grind, show ((n + 1 : Nat) : Int) * y = n * y + y by push_cast; grind]
    exact this
theorem Sub.mul {G : Int → Int → Prop} (S : Sub G) {x y : Int} (h : G x y) (a : Int) : G (a * x) (a * y) := by
  rcases Int.eq_nat_or_neg a with ⟨n, rfl | rfl⟩
  · exact S.nat h n
  · have := S.neg (S.nat h n)
    rw [Int.neg_mul, Int.neg_mul]
    exact this
/-- the least that holds all of ss -/
structure Gen (ss : List (Int × Int)) (G : Int → Int → Prop) : Prop where
  sub : Sub G
  mem : ∀ p ∈ ss, G p.1 p.2
  least : ∀ G' : Int → Int → Prop, Sub G' → (∀ p ∈ ss, G' p.1 p.2) → ∀ x y, G x y → G' x y
theorem Gen.same {ss : List (Int × Int)} {G G' : Int → Int → Prop} (g : Gen ss G) (g' : Gen ss G') (x y : Int) : G x y ↔ G' x y := ⟨g.least _ g'.sub g'.mem x y, g'.least _ g.sub g.mem x y⟩
theorem Gen.nil : Gen [] (fun x y => x = 0 ∧ y = 0) := ⟨⟨⟨rfl, rfl⟩, fun h h' => ⟨by omega, by omega⟩, fun h => ⟨by omega, by omega⟩⟩, fun p hp => (by cases hp), fun G' s _ x y h => by
  rw [h.1, h.2]
  exact s.zero⟩
/-- multiples of (a, b) and of (w, 0) -/
def G2 (a b w x y : Int) : Prop := ∃ m n : Int, x = m * a + n * w ∧ y = m * b
theorem G2_sub {a b w : Int} : Sub (G2 a b w) := ⟨⟨0, 0, by omega, by omega⟩, fun ⟨a, b, h1, h2⟩ ⟨c, d, h3, h4⟩ => ⟨a + c, b + d, by grind, by grind⟩, fun ⟨a, b, h1, h2⟩ => ⟨-a, -b, by grind, by grind⟩⟩
/-- (a, b), (c, d) and (p, q), (z, 0) make the same -/
def Led (a b c d p q z : Int) : Prop := ∀ x y : Int, (∃ m t : Int, x = m * a + t * c ∧ y = m * b + t * d) ↔ ∃ m t : Int, x = m * p + t * z ∧ y = m * q
theorem bezoutN : ∀ m n : Nat, ∃ x y : Int, ((Nat.gcd m n : Nat) : Int) = x * m + y * n := by
  intro m n
  induction m, n using Nat.gcd.induction with
  | H0 n => exact ⟨0, 1, by simp⟩
  | H1 m n hm ih =>
    obtain ⟨x, y, e⟩ := ih
    rw [Nat.gcd_rec]
    have d : ((n % m : Nat) : Int) = n - m * ((n / m : Nat) : Int) := by
      have := Nat.mod_add_div n m
      omega
    exact ⟨y - x * ((n / m : Nat) : Int), x, by rw [e, d]; grind⟩
theorem bezout (a b : Int) : ∃ x y : Int, ((Int.gcd a b : Nat) : Int) = x * a + y * b := by
  obtain ⟨x, y, e⟩ := bezoutN a.natAbs b.natAbs
  have h1 : ∃ u : Int, (a.natAbs : Int) = u * a := by
    rcases Int.natAbs_eq a with h | h
    · exact ⟨1, by omega⟩
    · exact ⟨-1, by omega⟩
  have h2 : ∃ u : Int, (b.natAbs : Int) = u * b := by
    rcases Int.natAbs_eq b with h | h
    · exact ⟨1, by omega⟩
    · exact ⟨-1, by omega⟩
  obtain ⟨u, hu⟩ := h1
  obtain ⟨v, hv⟩ := h2
  refine ⟨x * u, y * v, ?_⟩
  show ((Nat.gcd a.natAbs b.natAbs : Nat) : Int) = _
  rw [e, hu, hv]
  grind
theorem Gen.step {ss : List (Int × Int)} {p : Int × Int} {a b w a' b' z : Int} (g : Gen ss (G2 a b w)) (l : Led a b p.1 p.2 a' b' z) : Gen (ss ++ [p]) (G2 a' b' ((Int.gcd w z : Nat) : Int)) := by
  obtain ⟨u, v, bz⟩ := bezout w z
  obtain ⟨w1, hw⟩ := Int.gcd_dvd_left w z
  obtain ⟨z1, hz⟩ := Int.gcd_dvd_right w z
  generalize ((Int.gcd w z : Nat) : Int) = q at *
  refine ⟨G2_sub, fun r hr => ?_, fun G' s' m' x y ⟨m, n, h1, h2⟩ => ?_⟩
  · rcases List.mem_append.mp hr with hr | hr
    · obtain ⟨m, n, h1, h2⟩ := g.mem r hr
      obtain ⟨m', t', h3, h4⟩ := (l (m * a) (m * b)).mp ⟨m, 0, by omega, by omega⟩
      exact ⟨m', t' * z1 + n * w1, by grind, by grind⟩
    · have e : r = p := by simpa using hr
      subst e
      obtain ⟨m', t', h3, h4⟩ := (l r.1 r.2).mp ⟨0, 1, by omega, by omega⟩
      exact ⟨m', t' * z1, by grind, by grind⟩
  · have old : ∀ x y, G2 a b w x y → G' x y := g.least G' s' fun r hr => m' r (List.mem_append_left _ hr)
    have pp : G' p.1 p.2 := m' p (List.mem_append_right _ (by simp))
    have ab : G' a b := old a b ⟨1, 0, by omega, by omega⟩
    have w0 : G' w 0 := old w 0 ⟨0, 1, by omega, by omega⟩
    have inn : ∀ x y, (∃ m t : Int, x = m * a' + t * z ∧ y = m * b') → G' x y := fun x y h => by
      obtain ⟨m, t, h1, h2⟩ := (l x y).mpr h
      rw [h1, h2]
      exact s'.add (s'.mul ab m) (s'.mul pp t)
    have e1 : G' (m * a' + n * v * z) (m * b') := inn _ _ ⟨m, n * v, rfl, rfl⟩
    have e2 := s'.add e1 (s'.mul w0 (n * u))
    rw [show x = m * a' + n * v * z + n * u * w by grind, show y = m * b' + n * u * 0 by grind]
    exact e2
end LatM
namespace ShM
variable [DL.TabsT]
open LatM
abbrev Pr := Int × Int
def rest (w s h : Int) (p : Pr) : Pr := ((p.1 - p.2 / h * s) % w, p.2 % h)
structure IsL (w s h : Int) : Prop where
  w0 : 0 < w
  s0 : 0 ≤ s
  s1 : s < w
  h0 : 0 < h
theorem rest_iff2 {w s h : Int} (A : IsL w s h) {p q : Pr} : rest w s h p = rest w s h q ↔ inL w s h (p.1 - q.1) (p.2 - q.2) := by
  rw [← rest_iff A.w0 A.h0]
  unfold rest
  constructor
  · intro e
    injection e with e1 e2
    exact ⟨e1, e2⟩
  · rintro ⟨e1, e2⟩
    rw [e1, e2]
theorem rest_range {w s h : Int} (A : IsL w s h) (p : Pr) : 0 ≤ (rest w s h p).1 ∧ (rest w s h p).1 < w ∧ 0 ≤ (rest w s h p).2 ∧ (rest w s h p).2 < h :=
  ⟨Int.emod_nonneg _ (by have := A.w0; omega), Int.emod_lt_of_pos _ A.w0, Int.emod_nonneg _ (by have := A.h0; omega), Int.emod_lt_of_pos _ A.h0⟩
theorem rest_self {w s h : Int} (A : IsL w s h) {i j : Int} (a : 0 ≤ i) (b : i < w) (c : 0 ≤ j) (d : j < h) : rest w s h (i, j) = (i, j) := by
  unfold rest
  dsimp only
  rw [Int.ediv_eq_zero_of_lt c d, Int.zero_mul, Int.sub_zero, Int.emod_eq_of_lt a b, Int.emod_eq_of_lt c d]
/-- all rests -/
def grid (w h : Nat) : List Pr := (List.range w).flatMap fun (i : Nat) => (List.range h).map fun (j : Nat) => (((i : Nat) : Int), ((j : Nat) : Int))
theorem grid_len (w h : Nat) : (grid w h).length = w * h := by
  unfold grid
  rw [List.length_flatMap]
  simp [List.map_const', List.sum_replicate_nat]
theorem grid_mem {w h : Nat} {p : Pr} : p ∈ grid w h ↔ 0 ≤ p.1 ∧ p.1 < w ∧ 0 ≤ p.2 ∧ p.2 < h := by
  unfold grid
  simp only [List.mem_flatMap, List.mem_range, List.mem_map]
  constructor
  · rintro ⟨i, hi, j, hj, rfl⟩
    dsimp only
    omega
  · rintro ⟨a, b, c, d⟩
    exact ⟨p.1.toNat, by omega, p.2.toNat, by omega, Prod.ext (by show ((p.1.toNat : Nat) : Int) = _; omega) (by show ((p.2.toNat : Nat) : Int) = _; omega)⟩
theorem grid_nodup (w h : Nat) : (grid w h).Nodup := by
  unfold grid
  rw [List.nodup_iff_pairwise_ne, List.pairwise_flatMap]
  refine ⟨fun i _ => ?_, ?_⟩
  · rw [List.pairwise_map]
    refine (List.nodup_iff_pairwise_ne.mp (List.nodup_range (n := h))).imp fun {a b} ne e => ne ?_
    injection e with _ e
    exact Int.ofNat.inj e
  · refine (List.nodup_iff_pairwise_ne.mp (List.nodup_range (n := w))).imp ?_
    intro a b ne x hx y hy e
    obtain ⟨_, _, rfl⟩ := List.mem_map.mp hx
    obtain ⟨_, _, rfl⟩ := List.mem_map.mp hy
    injection e with e _
    exact ne (Int.ofNat.inj e)
structure Fills (w s h : Int) (L : List Pr) : Prop where
  nd : (L.map (rest w s h)).Nodup
  len : (L.length : Int) = w * h
theorem mem_grid {w s h : Int} (A : IsL w s h) (p : Pr) : rest w s h p ∈ grid w.toNat h.toNat := by
  obtain ⟨a, b, c, d⟩ := rest_range A p
  exact grid_mem.mpr ⟨a, by have := A.w0; omega, c, by have := A.h0; omega⟩
theorem toNat_mul {w h : Int} (a : 0 < w) (b : 0 < h) : ((w.toNat * h.toNat : Nat) : Int) = w * h := by
  rw [Int.natCast_mul, Int.toNat_of_nonneg (Int.le_of_lt a), Int.toNat_of_nonneg (Int.le_of_lt b)]
theorem Fills.all {w s h : Int} {L : List Pr} (A : IsL w s h) (F : Fills w s h L) (p : Pr) : rest w s h p ∈ L.map (rest w s h) := by
  refine Decidable.byContradiction fun no => ?_
  have nd : (rest w s h p :: L.map (rest w s h)).Nodup := List.nodup_cons.mpr ⟨no, F.nd⟩
  have sub : rest w s h p :: L.map (rest w s h) ⊆ grid w.toNat h.toNat := fun x hx => by
    rcases List.mem_cons.mp hx with rfl | hx
    · exact mem_grid A p
    · obtain ⟨q, _, rfl⟩ := List.mem_map.mp hx
      exact mem_grid A q
  have l := List.Nodup.length_le_of_subset nd sub
  rw [grid_len, List.length_cons, List.length_map] at l
  have := F.len
  have := toNat_mul A.w0 A.h0
  omega
theorem Fills.one {w s h : Int} {L : List Pr} (F : Fills w s h L) {p q : Pr} (hp : p ∈ L) (hq : q ∈ L) (e : rest w s h p = rest w s h q) : p = q := by
  obtain ⟨i, hi, rfl⟩ := List.getElem_of_mem hp
  obtain ⟨j, hj, rfl⟩ := List.getElem_of_mem hq
  have z := (List.getElem_inj (h₀ := by rw [List.length_map]; exact hi) (h₁ := by rw [List.length_map]; exact hj) F.nd (i := i) (j := j)).mp (by rw [List.getElem_map, List.getElem_map]; exact e)
  subst z
  rfl
theorem Fills.nodup {w s h : Int} {L : List Pr} (F : Fills w s h L) : L.Nodup := by
  have := F.nd
  rw [List.nodup_iff_pairwise_ne, List.pairwise_map] at this
  exact List.nodup_iff_pairwise_ne.mpr (this.imp fun {a b} ne e => ne (by rw [e]))
/-- shoved as a whole -/
theorem rest_move {w s h : Int} (A : IsL w s h) {p q : Pr} (e : rest w s h p = rest w s h q) (a b : Int) : rest w s h (p.1 + a, p.2 + b) = rest w s h (q.1 + a, q.2 + b) := by
  rw [rest_iff2 A] at e ⊢
  dsimp only
  rw [show p.1 + a - (q.1 + a) = p.1 - q.1 by omega, show p.2 + b - (q.2 + b) = p.2 - q.2 by omega]
  exact e
theorem Fills.perm {w s h : Int} {L M : List Pr} (F : Fills w s h L) (p : M.Perm L) : Fills w s h M := ⟨(p.map (rest w s h)).nodup_iff.mpr F.nd, by rw [p.length_eq]; exact F.len⟩
def beside (p : Pr) : List Pr := [(p.1 + 1, p.2), (p.1, p.2 + 1), (p.1 - 1, p.2), (p.1, p.2 - 1)]
theorem mem_beside {p q : Pr} : q ∈ beside p ↔ (q.1 = p.1 + 1 ∧ q.2 = p.2) ∨ (q.1 = p.1 ∧ q.2 = p.2 + 1) ∨ (q.1 = p.1 - 1 ∧ q.2 = p.2) ∨ (q.1 = p.1 ∧ q.2 = p.2 - 1) := by
  unfold beside
  simp only [List.mem_cons, List.not_mem_nil, or_false]
  constructor
  · rintro (rfl | rfl | rfl | rfl)
    · exact .inl ⟨rfl, rfl⟩
    · exact .inr (.inl ⟨rfl, rfl⟩)
    · exact .inr (.inr (.inl ⟨rfl, rfl⟩))
    · exact .inr (.inr (.inr ⟨rfl, rfl⟩))
  · rintro (⟨a, b⟩ | ⟨a, b⟩ | ⟨a, b⟩ | ⟨a, b⟩)
    · exact .inl (Prod.ext a b)
    · exact .inr (.inl (Prod.ext a b))
    · exact .inr (.inr (.inl (Prod.ext a b)))
    · exact .inr (.inr (.inr (Prod.ext a b)))
theorem closed_all {P : Pr → Prop} (st : ∀ p q, P p → q ∈ beside p → P q) {p : Pr} (hp : P p) : ∀ q, P q := by
  have mv : ∀ (n : Nat) (p : Pr), P p → P (p.1 + n, p.2) ∧ P (p.1 - n, p.2) ∧ P (p.1, p.2 + n) ∧ P (p.1, p.2 - n) := by
    intro n
    induction n with
    | zero =>
      intro p hp
      refine ⟨?_, ?_, ?_, ?_⟩ <;> simpa using hp
    | succ n ih =>
      intro p hp
      obtain ⟨a, b, c, d⟩ := ih p hp
      refine ⟨st _ _ a (mem_beside.mpr ?_), st _ _ b (mem_beside.mpr ?_), st _ _ c (mem_beside.mpr ?_), st _ _ d (mem_beside.mpr ?_)⟩ <;> (dsimp only; omega)
  intro q
  have h1 : P (q.1, p.2) := by
    rcases Int.le_total p.1 q.1 with l | l
    · have := (mv (q.1 - p.1).toNat p hp).1
      rw [show p.1 + ((q.1 - p.1).toNat : Int) = q.1 by omega] at this
      exact this
    · have := (mv (p.1 - q.1).toNat p hp).2.1
      rw [show p.1 - ((p.1 - q.1).toNat : Int) = q.1 by omega] at this
      exact this
  rcases Int.le_total p.2 q.2 with l | l
  · have := (mv (q.2 - p.2).toNat _ h1).2.2.1
    dsimp only at this
    rw [show p.2 + ((q.2 - p.2).toNat : Int) = q.2 by omega] at this
    exact this
  · have := (mv (p.2 - q.2).toNat _ h1).2.2.2
    dsimp only at this
    rw [show p.2 - ((p.2 - q.2).toNat : Int) = q.2 by omega] at this
    exact this
theorem beside_move {p q : Pr} (h : q ∈ beside p) (r : Pr) : (q.1 - p.1 + r.1, q.2 - p.2 + r.2) ∈ beside r := by
  unfold beside at h ⊢
  simp only [List.mem_cons, List.not_mem_nil, or_false] at h ⊢
  rcases h with rfl | rfl | rfl | rfl
  · exact .inl (Prod.ext (by dsimp only; omega) (by dsimp only; omega))
  · exact .inr (.inl (Prod.ext (by dsimp only; omega) (by dsimp only; omega)))
  · exact .inr (.inr (.inl (Prod.ext (by dsimp only; omega) (by dsimp only; omega))))
  · exact .inr (.inr (.inr (Prod.ext (by dsimp only; omega) (by dsimp only; omega))))
theorem near_some {w s h : Int} (A : IsL w s h) {L : List Pr} (ne : L ≠ []) (l : (L.length : Int) < w * h) : ∃ f ∈ L, ∃ n ∈ beside f, rest w s h n ∉ L.map (rest w s h) := by
  refine Classical.byContradiction fun no => ?_
  have cl : ∀ p q, rest w s h p ∈ L.map (rest w s h) → q ∈ beside p → rest w s h q ∈ L.map (rest w s h) := fun p q hp hq => by
    obtain ⟨f, hf, e⟩ := List.mem_map.mp hp
    refine Decidable.byContradiction fun n => no ⟨f, hf, _, beside_move hq f, fun z => n ?_⟩
    have e2 := rest_move A e (q.1 - p.1) (q.2 - p.2)
    rw [show f.1 + (q.1 - p.1) = q.1 - p.1 + f.1 by omega, show f.2 + (q.2 - p.2) = q.2 - p.2 + f.2 by omega, show p.1 + (q.1 - p.1) = q.1 by omega, show p.2 + (q.2 - p.2) = q.2 by omega] at e2
    rw [e2] at z
    exact z
  obtain ⟨f, hf⟩ := List.exists_mem_of_ne_nil L ne
  have all := closed_all (P := fun p => rest w s h p ∈ L.map (rest w s h)) cl (p := f) (List.mem_map_of_mem hf)
  have sub : grid w.toNat h.toNat ⊆ L.map (rest w s h) := fun x hx => by
    obtain ⟨a, b, c, d⟩ := grid_mem.mp hx
    have := all x
    rw [show x = (x.1, x.2) from rfl, rest_self A a (by omega) c (by omega)] at this
    exact this
  have q := List.Nodup.length_le_of_subset (grid_nodup _ _) sub
  rw [grid_len, List.length_map] at q
  have := toNat_mul A.w0 A.h0
  omega
end ShM
namespace DO
variable [DL.TabsT]
open PySem PySem.Spec PyProof.Rows L2 Evl Lay ErrX DL
/-- none of the program's objects -/
def plainD : D → Bool
  | .o _ _ _ => false
  | .j => false
  | .p _ => false
  | .c _ => false
  | .T _ => false
  | .r _ _ _ _ => false
  | _ => true
/-- scalars, dicts, tuples and lists of what can be shown -/
inductive NV : D → Prop
  | n : NV .n
  | b (v : Bool) : NV (.b v)
  | i (v : Int) : NV (.i v)
  | s (v : Str) : NV (.s v)
  | q (k : Bool) : NV (.q k)
  | t {xs : List D} (l : xs.length ≤ 1000) (h : ∀ x ∈ xs, RD 4 x) : NV (.t xs)
  | l {xs : List D} (l : xs.length ≤ 1000) (h : ∀ x ∈ xs, RD 4 x) : NV (.l xs)
theorem rd_plain {k : Nat} {x : D} (h : RD k x) : plainD x = true := by cases h <;> rfl
theorem NV.plain {x : D} (h : NV x) : plainD x = true := by cases h <;> rfl
def RDs (k : Nat) (xs : List D) : Prop := ∀ x ∈ xs, RD k x
theorem rds_nil {k : Nat} : RDs k [] := fun x hx => by cases hx
theorem rds_cons {k : Nat} {x : D} {xs : List D} (h : RD k x) (t : RDs k xs) : RDs k (x :: xs) := fun y hy => by
  rcases List.mem_cons.mp hy with rfl | hy
  · exact h
  · exact t y hy
def isIntD : D → Bool
  | .i _ => true
  | _ => false
def isIntsD (x : D) (n : Int) : Bool := match x with
  | .t xs => decide ((xs.length : Int) = n) && xs.all isIntD
  | _ => false
theorem ints_of {xs : List D} (h : xs.all isIntD = true) : ∃ ns : List Int, xs = ns.map D.i := by
  induction xs with
  | nil => exact ⟨[], rfl⟩
  | cons x xs ih =>
    rw [List.all_cons, Bool.and_eq_true] at h
    obtain ⟨ns, rfl⟩ := ih h.2
    cases x with
    | i v => exact ⟨v :: ns, rfl⟩
    | _ => cases h.1
theorem ints5 {x : D} (h : isIntsD x 5 = true) : ∃ a b c d e : Int, x = .t [.i a, .i b, .i c, .i d, .i e] := by
  cases x with
  | t xs =>
    unfold isIntsD at h
    rw [Bool.and_eq_true] at h
    obtain ⟨ns, rfl⟩ := ints_of h.2
    have l := of_decide_eq_true h.1
    rw [List.length_map] at l
    match ns, l with
    | [a, b, c, d, e], _ => exact ⟨a, b, c, d, e, rfl⟩
    | [], l => simp at l
    | [_], l => simp at l
    | [_, _], l => simp at l
    | [_, _, _], l => simp at l
    | [_, _, _, _], l => simp at l
    | _ :: _ :: _ :: _ :: _ :: _ :: _, l =>
      simp only [List.length_cons] at l
      omega
  | _ => cases h
theorem selS_all {f : Nat → List Int} : ∀ {n : Nat} {ys : List (List Int)}, SelS (fun _ => true) (fun k ns => ns = f k) n ys → ys.length ≤ n ∧ (∀ y, y ∈ ys ↔ ∃ k, k < n ∧ y = f k) ∧ (ys.length = n ↔ ∀ i j, i < n → j < n → f i = f j → i = j)
  | 0, ys, h => by
    cases (show ys = [] from h)
    exact ⟨Nat.le_refl 0, fun y => ⟨(fun hy => by cases hy), fun ⟨k, hk, _⟩ => absurd hk (Nat.not_lt_zero k)⟩, fun _ i j hi => absurd hi (Nat.not_lt_zero i), fun _ => rfl⟩
  | n + 1, ys, h => by
    unfold SelS at h
    rw [if_pos rfl] at h
    obtain ⟨zs, y, h1, rfl, h2⟩ := h
    obtain ⟨l, m, c⟩ := selS_all h1
    rcases h2 with ⟨z, rfl⟩ | ⟨z, pm⟩
    · obtain ⟨k, hk, e⟩ := (m _).mp z
      refine ⟨by omega, fun u => ?_, fun e2 => by omega, fun inj => ?_⟩
      · rw [m u]
        constructor
        · rintro ⟨j, hj, rfl⟩
          exact ⟨j, by omega, rfl⟩
        · rintro ⟨j, hj, rfl⟩
          rcases Nat.lt_or_ge j n with q | q
          · exact ⟨j, q, rfl⟩
          · have : j = n := by omega
            subst this
            exact ⟨k, hk, e⟩
      · have := inj n k (by omega) (by omega) e
        omega
    · refine ⟨by rw [pm.length_eq, List.length_cons]; omega, fun u => ?_, ?_⟩
      · rw [pm.mem_iff, List.mem_cons, m u]
        constructor
        · rintro (rfl | ⟨j, hj, rfl⟩)
          · exact ⟨n, by omega, rfl⟩
          · exact ⟨j, by omega, rfl⟩
        · rintro ⟨j, hj, rfl⟩
          rcases Nat.lt_or_ge j n with q | q
          · exact .inr ⟨j, q, rfl⟩
          · have : j = n := by omega
            subst this
            exact .inl rfl
      · rw [pm.length_eq, List.length_cons]
        constructor
        · intro e i j hi hj hf
          have inj := c.mp (by omega)
          rcases Nat.lt_or_ge i n with qi | qi
          · rcases Nat.lt_or_ge j n with qj | qj
            · exact inj i j qi qj hf
            · have : j = n := by omega
              subst this
              exact absurd ((m _).mpr ⟨i, qi, hf.symm⟩) z
          · have : i = n := by omega
            subst this
            rcases Nat.lt_or_ge j i with qj | qj
            · exact absurd ((m _).mpr ⟨j, qj, hf⟩) z
            · omega
        · intro inj
          rw [c.mpr fun i j hi hj hf => inj i j (by omega) (by omega) hf]
end DO
namespace ShM
variable [DL.TabsT]
open DL
def dbl (c d : Int) (L : List Pr) : List Pr := L ++ L.map fun p => (c - p.1, d - p.2)
def okF (L : List Pr) (w s h c d : Int) : Prop := (0 ≤ s ∧ s < w ∧ 1 ≤ h ∧ 0 ≤ c ∧ c < w ∧ 0 ≤ d ∧ d < h) ∧ ((dbl c d L).length : Int) = w * h ∧ ((dbl c d L).map (rest w s h)).Nodup
instance {L : List Pr} {w s h c d : Int} : Decidable (okF L w s h c d) := by unfold okF; infer_instance
def floorD (L : List Pr) (v : D) : Bool := match v with
  | .t [.i w, .i s, .i h, .i c, .i d] => decide (okF L w s h c d)
  | _ => false
theorem dbl_len (c d : Int) (L : List Pr) : (dbl c d L).length = 2 * L.length := by
  unfold dbl
  rw [List.length_append, List.length_map]
  omega
theorem nodup_ix {L : List Pr} {f : Pr → Pr} : (∀ i j, i < L.length → j < L.length → f (L.getD i (0, 0)) = f (L.getD j (0, 0)) → i = j) ↔ (L.map f).Nodup := by
  rw [List.nodup_iff_pairwise_ne, List.pairwise_iff_getElem]
  constructor
  · intro h i j hi hj ij e
    rw [List.length_map] at hi hj
    rw [List.getElem_map, List.getElem_map] at e
    have := h i j hi hj (by rw [List.getD_eq_getElem?_getD, List.getD_eq_getElem?_getD, List.getElem?_eq_getElem hi, List.getElem?_eq_getElem hj]; exact e)
    omega
  · intro h i j hi hj e
    rw [List.getD_eq_getElem?_getD, List.getD_eq_getElem?_getD, List.getElem?_eq_getElem hi, List.getElem?_eq_getElem hj] at e
    rcases Nat.lt_trichotomy i j with c | c | c
    · refine absurd ?_ (h i j (by rw [List.length_map]; exact hi) (by rw [List.length_map]; exact hj) c)
      rw [List.getElem_map, List.getElem_map]
      exact e
    · exact c
    · refine absurd ?_ (h j i (by rw [List.length_map]; exact hj) (by rw [List.length_map]; exact hi) c)
      rw [List.getElem_map, List.getElem_map]
      exact e.symm
end ShM
namespace DO
variable [DL.TabsT]
open PySem PySem.Spec PyProof.Rows L2 Evl Lay ErrX DL
section
variable {K : PySem.W.Frag}
theorem KDct.inj {w : World} {d f : Addr} {z : Str} {v : V} (h : KDct K w d z v) (h' : KDct K w d z (.ref f)) : ∃ u, PySem.W.nsIn K d z = some (some u) ∧ RelV v u := by
  obtain ⟨_, _, u, _, _, a, b⟩ := h
  exact ⟨u, a, b⟩
end
end DO
namespace DO
variable [DL.TabsT]
open PySem PySem.Spec PyProof.Rows L2 Evl Lay ErrX DL
/-- a def that stands in a class -/
structure ClsFn (P : Program) (w : World) (K : PySem.W.Frag) (mg : Str → Option Value) (base : Heap) (k : Nat) (g : Addr) (ps : List Str) (S : List D → (D → Prop) → Prop) : Prop where
  ex : ∃ fd, FnG P w K mg base CX0 k g fd ps (spD K S) ∧ Binds K fd ps []
section
variable {X : Cx} {C f a dx : Addr} {fs : List (Str × V)} {fd : FuncData} {k : Nat} {sp : Sp} {ps : List Str}
/-- a def of the class run at an object from within a builtin -/
theorem run_self1 {pins : List (Addr × Obj)} {σ : L2.St} {H : Hp} {s : Shared} {A : Around} {Q : VK} (F : FnG X.prog X.w X.K X.mg X.base CX0 k f fd ["self"] sp) (hr : Room k A) (hg : A.guards = some []) (hfr : A.frames = X.A.frames) (hb : Binds X.K fd ["self"] []) (I : Inv X pins σ H s) (h : sp [.ref a] H Q E0) :
    ∀ {E : Value → Shared → Prop}, wpAny (model X.prog X.w) A (call (.ref f) [.ref a]) (EP X pins σ Q) E s := by
  intro E
  have e0 : Env0 X.prog X.w X.K X.mg X.base A X.stack s H := by
    have e := I.env0
    exact ⟨by rw [hfr]; exact e.frames, e.mod, e.bs, e.bsz, e.funs, e.frf, e.hok, e.bare⟩
  have b := hb s [.ref a] I.kIn (by rfl)
  refine wpAny_call (codeAny_mono (F.run A X.stack s H ⟨[.ref a], []⟩ [.ref a] [.ref a] Q E0 hr hg e0 b (.cons rfl .nil) h) fun res s' z => ?_)
  cases res with
  | error err => exact False.elim z
  | ok fl =>
    cases fl with
    | ret u => exact I.after z
    | next => exact False.elim z
    | brk => exact False.elim z
    | cont => exact False.elim z
/-- len(x) -/
def rLenO (C : Addr) (sp : Sp) : List V → Hp → VK → Prop := fun xs H Q => ∃ a dx fs, xs = [.ref a] ∧ H a = some (.ins C dx fs) ∧ sp [.ref a] H (fun v H' => ∃ z : Int, v = .int z ∧ (0 ≤ z ∧ z < 2 ^ 63) ∧ Q v H') E0
theorem cr_lenO (hr : Room (k + 2) X.A) (hg : X.A.guards = some []) (F : FnG X.prog X.w X.K X.mg X.base CX0 k f fd ["self"] sp) (hb : Binds X.K fd ["self"] []) (hs : PySem.W.findIn X.K (.ref C) "__len__" = some (some (.ref f))) (hf : PySem.W.isFn X.K (.ref f) = true) : CallR X (.builtin "len") (rLenO C sp) := by
  intro pins s σ H xs us Q I r h
  obtain ⟨a, dx, fs, rfl, ha, q⟩ := h
  rw [Vals.ref1 r]
  obtain ⟨mA, O, _, _, _, _⟩ := ins_get I.hok ha
  obtain ⟨od, J, _⟩ := O.look
  obtain ⟨m, hF⟩ := I.fr
  refine PySem.W.len_K hF I.ok.mod.kin J hs hf (wpAny_mono (run_self1 F (hr.mono (by omega)).in1 (by exact hg) rfl hb I q) (fun u s' z => ?_) fun _ _ y => y)
  obtain ⟨v, H', I', rv, z, rfl, bd, q2⟩ := z
  obtain ⟨t, rfl⟩ := rv
  exact ⟨bd, .int z, H', I'.tok _, ⟨_, rfl⟩, q2⟩
end
section
variable {K : PySem.W.Frag}
theorem o_at {F : Hp} {v : V} {C : Addr} {ns : List Str} {xs : List D} {H : Hp} (e : Ex F H) (r : R K F v (.o C ns xs)) : ∃ a dx fs, v = .ref a ∧ H a = some (.ins C dx fs) := by
  cases r with
  | @o a _ dx _ vs _ h1 h2 h3 ra => exact ⟨a, dx, _, rfl, e _ _ h1⟩
abbrev wLenO (C : Addr) (S : List D → (D → Prop) → Prop) (a : WE) : WE := fun Γ Q => a Γ fun d => (∃ ns xs, d = .o C ns xs) ∧ S [d] fun y => (∃ z : Int, y = .i z ∧ 0 ≤ z ∧ z < 2 ^ 63) ∧ Q y
theorem e_lenO' {C : Addr} {S : List D → (D → Prop) → Prop} {ta : TE} {wa : WE} (h : EOk K ta wa) : EOk K (tCB (rLenO C (spD K S)) (tCons ta tNil)) (wLenO C S wa) := fun Γ Q hq F0 H0 F H σ r QV w =>
  h Γ _ hq F0 H0 F H σ r _ fun v d F1 H1 z e1 rv => by
    obtain ⟨⟨ns, xs, rfl⟩, hS⟩ := z
    obtain ⟨a, dx, fs, rfl, ha⟩ := o_at e1.fh rv
    refine ⟨a, dx, fs, rfl, ha, F1, [.o C ns xs], _, (r.ext e1).ek, .cons rv .nil, hS, fun v d F3 H3 h3 e3 r3 => ?_⟩
    obtain ⟨⟨z, rfl, z0, z1⟩, h3⟩ := h3
    cases r3
    exact ⟨z, rfl, ⟨z0, z1⟩, w _ _ F3 H3 h3 (e1.trans e3) (.i _)⟩
end
end DO
namespace DO
open PySem PySem.Spec PyProof.Rows L2 Evl Lay ErrX DL
end DO
namespace DO
variable [DL.TabsT]
open PySem PySem.Spec PyProof.Rows L2 Evl Lay ErrX DL
/-- a def of a class, by its body -/
theorem mok {P : Program} {w : World} {K : PySem.W.Frag} {mg : Str → Option Value} {base : Heap} {x qual : Str} {st : Stmt} {f : Addr} {fd : FuncData} {N ps : List Str} {k : Nat} {S : List D → (D → Prop) → Prop} (F : Fun K x qual st f fd) (bd : Binds K fd ps []) (sc : FnScope N ps (defScope st)) (len : ∀ ds P, S ds P → ds.length = ps.length) (hN : ps.length ≤ N.length := by decide)
    (body : ∀ (cdv : Value) (A : Around) (outer : List Env) (s : Shared) (H : Hp) (E : XK), Room k (cxOf CX0 P w K mg base N qual (defScope st) f cdv A outer s H E).A → (cxOf CX0 P w K mg base N qual (defScope st) f cdv A outer s H E).A.guards = some [] →
      ∃ t a, PSs (cxOf CX0 P w K mg base N qual (defScope st) f cdv A outer s H E).nox (defBody st) t ∧ SOk K t a ∧ ∀ ds Q, S ds Q → a { nx := fun _ => Q .n, rt := Q } (startG N.length ds)) : ClsFn P w K mg base (k + 1) f ps S := by
  refine ⟨fd, fng F sc (spD_len len) fun cdv A outer s H vs Q E hr hg h => ?_, bd⟩
  obtain ⟨t, a, ht, hs, q⟩ := body cdv A outer s H E hr hg
  exact ⟨t, ht.nox, body_run hs h (fun ds P z => by rw [len ds P z]; exact hN) q⟩
/-- an own __str__ or __len__ -/
structure SpG (P : Program) (w : World) (K : PySem.W.Frag) (mg : Str → Option Value) (base : Heap) (C : Addr) (x : Str) (k : Nat) (S : List D → (D → Prop) → Prop) : Prop where
  ex : ∃ g, ClsFn P w K mg base k g ["self"] S ∧ PySem.W.findIn K (.ref C) x = some (some (.ref g)) ∧ PySem.W.isFn K (.ref g) = true
section
variable {X : Cx} {C : Addr} {k : Nat} {S : List D → (D → Prop) → Prop}
theorem cr_lenG (D : SpG X.prog X.w X.K X.mg X.base C "__len__" k S) (hr : Room (k + 2) X.A) (hg : X.A.guards = some []) : CallR X (.builtin "len") (rLenO C (spD X.K S)) := by
  obtain ⟨g, ⟨fd, F, bd⟩, hs, hf⟩ := D.ex
  exact cr_lenO hr hg F bd hs hf
end
/-- e.f, a plain field -/
theorem pe_fldK (K : PySem.W.Frag) {X : Cx} {f : Str} {e : Expr} {pos : Pos} {ta : TE} (he : PE X e ta) (hK : X.K = K := by rfl) (hb : attributeBase e f X.env (eval e X.env) = eval e X.env := by rfl) : PE X (.Attribute e f pos) (tFld K ta f) := by
  subst hK
  exact pe_fld he hb
section
variable {K : PySem.W.Frag}
theorem e_fld1 {C : Addr} {f : Str} {ta : TE} {wa : WE} (c : Cls K C) (n : NoAttr K C f) (h : EOk K ta wa) : EOk K (tFld K ta f) (wAtC C f wa) := fun Γ Q hq F0 H0 F H σ r QV w =>
  h Γ _ hq F0 H0 F H σ r _ fun v d F1 H1 z e1 rv => by
    obtain ⟨y, rfl, hy⟩ := z
    obtain ⟨a, dx, fs, u, y', rfl, ha, lu, ru, q⟩ := at_ok (Q := Q) (f := f) e1.fh rv ⟨rfl, by rw [luD_one]; exact hy⟩
    exact ⟨a, C, dx, fs, u, rfl, ha, c, n, lu, w u y' F1 H1 q e1 ru⟩
end
end DO
namespace DO
variable [DL.TabsT]
open PySem PySem.Spec PyProof.Rows L2 Evl Lay ErrX DL
section
variable {K : PySem.W.Frag}
def wAddS : D → D → (D → Prop) → Prop := fun x y Q => ∃ a b, x = .s a ∧ y = .s b ∧ a.length + b.length ≤ 1000000 ∧ Q (.s (a ++ b))
end
end DO
namespace DO
open PySem PySem.Spec PyProof.Rows L2 Evl Lay ErrX DL
end DO
namespace DO
open PySem PySem.Spec PyProof.Rows L2 Evl Lay ErrX DL HT
end DO
namespace DO
open PySem PySem.Spec PyProof.Rows L2 Evl Lay ErrX DL
end DO
namespace DO
variable [DL.TabsT]
open PySem PySem.Spec PyProof.Rows L2 Evl Lay ErrX DL
def rIxA (K : PySem.W.Frag) : R2 := fun x y H Q => rIxL K x y H Q ∨ rIxT K x y H Q
theorem kx_ixA (K : PySem.W.Frag) {X : Cx} (hK : X.K = K := by rfl) : IxR X (rIxA K) := by
  subst hK
  intro value slice pins s σ H x y v u Q I rx ry h hs
  rcases h with h | h
  · exact ix_list value slice pins s σ H x y v u Q I rx ry h hs
  · exact ix_tup value slice pins s σ H x y v u Q I rx ry h hs
section
variable {K : PySem.W.Frag}
abbrev wIxA : D → D → (D → Prop) → Prop := fun x y Q => ∃ (xs : List D) (k : Int), (x = .l xs ∨ x = .t xs) ∧ y = .i k ∧ ∃ z, L2.atI xs k = some z ∧ Q z
theorem o_ixA : OOk K (rIxA K) wIxA := fun x y Q ⟨xs, k, hx, hy, z, hz, hq⟩ F H vx vy e rx ry QV q => by
  subst hy
  rcases hx with rfl | rfl
  · cases rx with
    | @l p vs _ h1 r =>
      cases ry
      obtain ⟨v, hv, rv⟩ := r.atI hz
      exact .inl ⟨p, vs, k, v, rfl, rfl, sq_of (e _ _ h1), hv, q _ _ F H hq (Ext.refl e) rv⟩
  · cases rx with
    | @t p vs _ h1 r =>
      cases ry
      obtain ⟨v, hv, rv⟩ := r.atI hz
      exact .inr ⟨p, vs, k, v, rfl, rfl, ex_t e h1, hv, q _ _ F H hq (Ext.refl e) rv⟩
end
end DO
namespace DO
open PySem PySem.Spec PyProof.Rows L2 Evl Lay ErrX DL
end DO
namespace LCN
open PySem PySem.Spec PyProof.Rows L2
abbrev NoE : Value → Shared → Prop := fun _ _ => False
/-- what is behind a clause's tests: from slots and heap to what is wanted of the heap -/
abbrev TB := L2.St → Hp → (Hp → Prop) → Prop
abbrev TAc := Addr → TB
def tTurns (J : It) (g : TG) (tt : TT) (ta : TB) (vs : List Nat) : TB := fun σ H Q =>
  ∃ W : Nat → Nat → Hp → Prop, (∃ m, W 0 m H) ∧ ∀ i m H, W i m H → (J.stop i H ∧ Q H) ∨ (J.go i H ∧ ∃ Nx : Hp → Prop, (∀ H', Nx H' → ∃ m', m' < m ∧ W (i + 1) m' H') ∧
    ∀ x H', J.yld i H x H' → g x (wipe σ vs) H' fun σ2 H2 => wipe σ2 vs = wipe σ vs ∧ tt σ2 H2 fun b H3 => (b = true → ta σ2 H3 Nx) ∧ (b = false → Nx H3))
def tApp (te : TE) : TAc := fun D σ H Nx => te σ H fun y H7 => ∃ acc, H7 D = some (.lst acc) ∧ acc.length < sizeLine ∧ Nx (upd H7 D (.lst (acc ++ [y])))
def tCl (wi : TI) (g : TG) (tt : TT) (ta : TAc) (vs : List Nat) : TAc := fun D σ H Nx => wi σ H fun J H4 => tTurns J g tt (ta D) vs σ H4 Nx
def tLcN (wi : TI) (g : TG) (tt : TT) (ta : TAc) (vs : List Nat) : TE := fun σ H Q => wi σ H fun J H1 => ∀ D, H1 D = none → tTurns J g tt (ta D) vs σ (upd H1 D (.lst [])) (Q (.ref D))
section
variable {Y : Cx} {e elt : Expr} {gs : List Comprehension} {scope : Scope} {pos : Pos} {k : Nat} {tg ix t1 i1 : Expr} {ifs ifs1 : List Expr} {acc : Value}
/-- one turn of the clause k, what is behind its tests told by TR -/
def TurnLaw (Y : Cx) (e : Expr) (k : Nat) (tg : Expr) (ifs : List Expr) (acc : Value) (TR : Shared → (Shared → Prop) → Prop) : Prop :=
  ∀ (itv : Value) (R : Result → Shared → Prop) (I : Nat → Shared → Prop),
    (∀ n sa, I n sa → wpAny (model Y.prog Y.w) Y.A (pyNext itv) (fun r sb => match r with
      | none => R (.ok .next) sb
      | some u => wpAny (model Y.prog Y.w) Y.A (letOwnedTupleGo tg itv u) (fun _ sc => wpAny (model Y.prog Y.w) Y.A (assign tg Y.env u) (fun _ sd =>
          wpAny (model Y.prog Y.w) Y.A (forIn ifs true fun cn r => if r = true then do let ok ← isTrue cn Y.env (eval cn Y.env); pure (ForInStep.yield ok) else pure (ForInStep.yield r))
            (fun good se => (good = true → TR se fun sf => ∃ m, m < n ∧ I m sf) ∧ (good = false → ∃ m, m < n ∧ I m se)) NoE sd) NoE sc) NoE sb) NoE sa) →
    ∀ n sa, I n sa → codeAny (model Y.prog Y.w) Y.A (.compLoop e k itv acc Y.env) R sa
def TRlast (Y : Cx) (elt : Expr) (acc : Value) : Shared → (Shared → Prop) → Prop := fun sa Z =>
  wpAny (model Y.prog Y.w) Y.A (eval elt Y.env) (fun x sb => wpAny (model Y.prog Y.w) Y.A (call (.builtin "list.append") [acc, x]) (fun _ sc => Z sc) NoE sb) NoE sa
def TRnext (Y : Cx) (e : Expr) (k : Nat) (i1 : Expr) (acc : Value) : Shared → (Shared → Prop) → Prop := fun sa Z =>
  wpAny (model Y.prog Y.w) Y.A (eval i1 Y.env) (fun x sb => wpAny (model Y.prog Y.w) Y.A (pyIter x) (fun itw sc =>
    codeAny (model Y.prog Y.w) Y.A (.compStart e (k + 1) itw acc Y.env) (fun r sd => match r with
      | .ok _ => Z sd
      | .error _ => False) sc) NoE sb) NoE sa
theorem noE {E : Value → Shared → Prop} : ∀ x sx, NoE x sx → E x sx := fun _ _ h => h.elim
theorem law_last (hk : gs[k]? = some ⟨tg, ix, ifs, 0⟩) (hk1 : gs[k + 1]? = none) : TurnLaw Y (.ListComp elt gs scope pos) k tg ifs acc (TRlast Y elt acc) := fun itv R I turn n sa hI => by
  refine codeAny_loop rfl I (fun n sa hI => ?_) n hI
  show wpAny _ Y.A ((compTurn (.ListComp elt gs scope pos) k itv acc Y.env).onRaise (fun x => do noteFrame x Y.env; theTreesLotGoes x)) _ _ sa
  refine wpAny_noted ?_
  unfold compTurn
  dsimp only
  rw [hk]
  dsimp only
  rw [hk1]
  refine wpAny_bind (wpAny_standAt (wpAny_bind (wpAny_mono (turn n sa hI) (fun r sb hb => ?_) noE)))
  cases r with
  | none => exact wpAny_pure hb
  | some u =>
    refine wpAny_bind (wpAny_mono hb (fun _ sc hc => wpAny_bind (wpAny_mono hc (fun _ sd hd => wpAny_bind (wpAny_mono hd (fun good se he => ?_) noE)) noE)) noE)
    cases good with
    | false => exact wpAny_pure ⟨rfl, he.2 rfl⟩
    | true => exact wpAny_bind (wpAny_bind (wpAny_mono (he.1 rfl) (fun x sf hf => wpAny_bind (wpAny_mono hf (fun _ sg hg => wpAny_pure (wpAny_pure ⟨rfl, hg⟩)) noE)) noE))
theorem law_next (hk : gs[k]? = some ⟨tg, ix, ifs, 0⟩) (hk1 : gs[k + 1]? = some ⟨t1, i1, ifs1, 0⟩) (hs : ∀ x, foldedSetIterable i1 Y.env x = pure x) :
    TurnLaw Y (.ListComp elt gs scope pos) k tg ifs acc (TRnext Y (.ListComp elt gs scope pos) k i1 acc) := fun itv R I turn n sa hI => by
  refine codeAny_loop rfl I (fun n sa hI => ?_) n hI
  show wpAny _ Y.A ((compTurn (.ListComp elt gs scope pos) k itv acc Y.env).onRaise (fun x => do noteFrame x Y.env; theTreesLotGoes x)) _ _ sa
  refine wpAny_noted ?_
  unfold compTurn
  dsimp only
  rw [hk]
  dsimp only
  rw [hk1]
  refine wpAny_bind (wpAny_standAt (wpAny_bind (wpAny_mono (turn n sa hI) (fun r sb hb => ?_) noE)))
  cases r with
  | none => exact wpAny_pure hb
  | some u =>
    refine wpAny_bind (wpAny_mono hb (fun _ sc hc => wpAny_bind (wpAny_mono hc (fun _ sd hd => wpAny_bind (wpAny_mono hd (fun good se he => ?_) noE)) noE)) noE)
    cases good with
    | false => exact wpAny_pure ⟨rfl, he.2 rfl⟩
    | true =>
      refine wpAny_bind (wpAny_mono (he.1 rfl) (fun x sf hf => ?_) noE)
      refine wpAny_bind (wpAny_standAt (wpAny_bind (wpAny_of_eq (hs x) (wpAny_bind (wpAny_holding (wpAny_mono hf (fun itw sg hg => ?_) noE))))))
      refine wpAny_bind (wpAny_runOwn ?_)
      rw [Around.mark_none]
      refine codeAny_mono hg fun r sh hr => ?_
      cases r with
      | ok f =>
        first
          | exact wpAny_pure ⟨rfl, hr⟩
          | exact wpAny_bind (wpAny_pure (wpAny_pure ⟨rfl, hr⟩))
      | error x => exact hr.elim
theorem start_ok {itv : Value} {R : Result → Shared → Prop} {sa : Shared} (hk : gs[k]? = some ⟨tg, ix, ifs, 0⟩) (h0 : codeAny (model Y.prog Y.w) Y.A (.compLoop (.ListComp elt gs scope pos) k itv acc Y.env) R sa)
    (h : wpAny (model Y.prog Y.w) Y.A (pyIter itv) (fun itw sb => codeAny (model Y.prog Y.w) Y.A (.compLoop (.ListComp elt gs scope pos) k itw acc Y.env) R sb) NoE sa) :
    codeAny (model Y.prog Y.w) Y.A (.compStart (.ListComp elt gs scope pos) k itv acc Y.env) R sa := by
  refine codeAny_of_tree ?_
  show wpAny _ _ ((compStart (.ListComp elt gs scope pos) k itv acc Y.env).onRaise (fun x => do noteFrame x Y.env; standAt theWindowsPlace)) _ _ sa
  refine wpAny_notedAt ?_
  unfold compStart
  have ec : (clausesOf (.ListComp elt gs scope pos))[k]? = some ⟨tg, ix, ifs, 0⟩ := hk
  rw [ec]
  show wpAny _ _ (ask >>= _) _ _ sa
  refine wpAny_bind (wpAny_askSetting (wpAny_ite ?_))
  split
  · first
      | exact wpAny_bind (wpAny_pure (wpAny_pure (And.intro rfl h0)))
      | exact wpAny_pure (And.intro rfl h0)
  · refine wpAny_bind (wpAny_rule ?_)
    first
      | exact wpAny_bind (wpAny_standAt (wpAny_bind (wpAny_mono h (fun itw sb hb => wpAny_pure (And.intro rfl hb)) noE)))
      | (show wpAny _ _ (standAt ix.pos >>= _) _ _ sa; exact wpAny_bind (wpAny_standAt (wpAny_bind (wpAny_mono h (fun itw sb hb => wpAny_pure (And.intro rfl hb)) noE))))
/-- what is behind the tests does as it is read -/
def RestOk (Y : Cx) (TR : Shared → (Shared → Prop) → Prop) (ta : TB) (vs : List Nat) : Prop :=
  ∀ (pins : List (Addr × Obj)) (sa : Shared) (σ : L2.St) (H : Hp) (Nx : Hp → Prop), Inv Y pins σ H sa → ta σ H Nx → ∀ Z : Shared → Prop, (∀ sb H', Inv Y pins (wipe σ vs) H' sb → Nx H' → Z sb) → TR sa Z
theorem rest_last {D : Addr} {te : TE} (hx : Y.xe = NoE) (he : PE Y elt te) : RestOk Y (TRlast Y elt (.ref D)) (tApp te D) [] := fun pins sa σ H Nx I h Z hZ => by
  refine wpAny_mono (he.run pins sa σ H _ I h) (fun u sb ⟨y, H7, I7, r7, own, hD, hz, nx⟩ => ?_) (fun x sx q => by rw [hx] at q; exact q)
  exact app_ok (E := NoE) I7 hD hz r7 fun sc I8 => hZ _ _ I8 nx
theorem loop_ok {J : It} {fp : List Addr} {it : Addr} {tn : Nat → Heap → Prop} {g : TG} {tt : TT} {ta : TB} {vs vs1 : List Nat} {TR : Shared → (Shared → Prop) → Prop} (hc : Y.calm = true) (hx : Y.xe = NoE)
    (TL : TurnLaw Y e k tg ifs acc TR) (RO : RestOk Y TR ta vs1) (hg : PG Y tg g) (ht : PTs Y ifs tt) (sub : ∀ i ∈ vs1, i ∈ vs) (T : Turn Y.prog Y.w Y.K tg J fp it tn)
    {pins : List (Addr × Obj)} {σ : L2.St} {Q : Hp → Prop} {R : Result → Shared → Prop} (stat : ∀ {σ' : L2.St} {H' : Hp} {sz : Shared}, Inv Y pins σ' H' sz → (∀ b ∈ fp, H' b = none) → ∀ b ∈ fp, FpOk Y pins H' b)
    (hR : ∀ H' sz, Inv Y pins (wipe σ vs) H' sz → Q H' → R (.ok .next) sz)
    {sa : Shared} {H : Hp} (I0 : Inv Y pins (wipe σ vs) H sa) (st0 : tn 0 sa.heap) (n0 : ∀ b ∈ fp, H b = none) (h : tTurns J g tt ta vs σ H Q) :
    codeAny (model Y.prog Y.w) Y.A (.compLoop e k (.ref it) acc Y.env) R sa := by
  obtain ⟨W, ⟨m0, w0⟩, turn⟩ := h
  have no : ∀ {x sx}, Y.xe x sx → False := fun {x sx} q => by rw [hx] at q; exact q
  refine TL (.ref it) R (fun n sz => ∃ i H', Inv Y pins (wipe σ vs) H' sz ∧ tn i sz.heap ∧ (∀ b ∈ fp, H' b = none) ∧ W i n H') ?_ m0 sa ⟨0, H, I0, st0, n0, w0⟩
  rintro n s5 ⟨i, H5, I5, st5, n5, w5⟩
  rcases turn i n H5 w5 with ⟨stop, qq⟩ | ⟨go, Nx, hNx, step⟩
  · refine thnF (T.done Y rfl rfl rfl hc i _ s5 _ H5 NoE I5 (stat I5 n5) st5 stop) fun r s6 hr => ?_
    obtain ⟨rfl, I6⟩ := hr
    exact hR H5 s6 I6 qq
  · refine thnF (T.item Y rfl rfl rfl hc i _ s5 _ H5 NoE I5 (stat I5 n5) st5 go) fun r s6 hr => ?_
    obtain ⟨u, rfl, h6⟩ := hr
    refine thnF h6 fun _ s7 hy => ?_
    obtain ⟨x, H7, I7, r7, y7, st7, n7⟩ := hy
    have P7 := I7.pinned (stat I7 n7) (T.obj _ _ st7)
    refine wpAny_mono (hg.run _ s7 _ H7 x u _ P7 r7 (step x H7 y7)) (fun _ s8 hb => ?_) fun _ _ q => no q
    obtain ⟨σ8, H8, I8, hw8, q8⟩ := hb
    refine wpAny_mono (ht.run _ s8 σ8 H8 _ I8 q8) (fun good s9 hd => ?_) fun _ _ q => no q
    obtain ⟨H9, I9, q9⟩ := hd
    have fin : ∀ {σ9 : L2.St} {sz : Shared} {H' : Hp}, Inv Y (pins ++ pinsAt fp s7.heap) σ9 H' sz → (wipe σ vs).length = σ9.length → (∀ (j : Nat) v, (wipe σ vs)[j]? = some (some v) → σ9[j]? = some (some v)) → Nx H' →
        ∃ m, m < n ∧ ∃ i H', Inv Y pins (wipe σ vs) H' sz ∧ tn i sz.heap ∧ (∀ b ∈ fp, H' b = none) ∧ W i m H' := fun {σ9 sz H'} Iz hl hkn nx => by
      obtain ⟨m', hm, w'⟩ := hNx H' nx
      have kept : ∀ b ∈ fp, ∀ o, s7.heap.get? b = some o → sz.heap.get? b = some o ∧ H' b = none := fun b hb o q =>
        let z := Iz.pin (b, o) (List.mem_append_right _ (List.mem_append_right _ (mem_pinsAt hb q)))
        ⟨z.1, z.2.1⟩
      refine ⟨m', hm, i + 1, H', Iz.unpinned.weak hl hkn, T.keep _ _ _ st7 fun b hb o q => (kept b hb o q).1, fun b hb => ?_, w'⟩
      obtain ⟨o, q, _⟩ := T.obj _ _ st7 b hb
      exact (kept b hb o q).2
    have l8 : (wipe σ vs).length = σ8.length := by rw [← hw8, wipe_length]
    have k8 : ∀ (j : Nat) v, (wipe σ vs)[j]? = some (some v) → σ8[j]? = some (some v) := fun j v q => by
      rw [← hw8] at q
      exact (wipe_some q).1
    refine ⟨fun eg => ?_, fun eg => fin I9 l8 k8 (q9.2 eg)⟩
    refine RO _ s9 σ8 H9 Nx I9 (q9.1 eg) _ fun sb H' Iz nx => fin Iz (l8.trans (wipe_length σ8 vs1).symm) (fun j v q => ?_) nx
    rw [← hw8] at q
    obtain ⟨q1, q2⟩ := wipe_some q
    rw [wipe_out fun z => q2 (sub j z)]
    exact q1
/-- a further clause -/
theorem rest_next {D : Addr} {wi : TI} {g : TG} {tt : TT} {ta : TAc} {vs vs1 : List Nat} {TR : Shared → (Shared → Prop) → Prop} (hc : Y.calm = true) (hx : Y.xe = NoE) (hk1 : gs[k + 1]? = some ⟨t1, i1, ifs1, 0⟩)
    (TL : TurnLaw Y (.ListComp elt gs scope pos) (k + 1) t1 ifs1 (.ref D) TR) (RO : RestOk Y TR (ta D) vs1) (hi : PI Y t1 i1 wi) (hg : PG Y t1 g) (ht : PTs Y ifs1 tt) (sub : ∀ i ∈ vs1, i ∈ vs) :
    RestOk Y (TRnext Y (.ListComp elt gs scope pos) k i1 (.ref D)) (tCl wi g tt ta vs D) vs := fun pins sa σ H Nx I h Z hZ => by
  have no : ∀ {x sx}, Y.xe x sx → NoE x sx := fun {x sx} q => by rw [hx] at q; exact q
  refine wpAny_mono (hi.run pins sa σ H _ I h) (fun xv sb hb => wpAny_mono hb (fun itv sc hit => ?_) fun _ _ q => no q) fun _ _ q => no q
  obtain ⟨it, fp, tn, J, H4, rfl, I4, T, st4, f4, q4⟩ := hit
  have stat : ∀ {σ' : L2.St} {H' : Hp} {sz : Shared}, Inv Y pins σ' H' sz → (∀ b ∈ fp, H' b = none) → ∀ b ∈ fp, FpOk Y pins H' b := fun {σ' H' sz} _ hn b hb => ⟨hn b hb, (f4 b hb).2⟩
  have loop := loop_ok (R := fun r sd => match r with | .ok _ => Z sd | .error _ => False) hc hx TL RO hg ht sub T (pins := pins) (σ := σ) (Q := Nx) stat (fun H' sz Iz q => hZ sz H' Iz q) (I4.weak (wipe_length σ vs) fun j v q => (wipe_some q).1) st4 (fun b hb => (f4 b hb).1) q4
  exact start_ok hk1 loop (T.self Y.A 0 _ _ _ st4 loop)
end
section
variable {X : Cx}
/-- the whole comprehension: the first clause and more, what is behind its tests told by ta -/
theorem lcN_core {pins : List (Addr × Obj)} {s : Shared} {σ : L2.St} {H : Hp} {Q : VK} {elt tg iter : Expr} {ifs : List Expr} {rest : List Comprehension} {scope : Scope} {own : List (Str × Nat)} {vs1 : List Nat} {pos pos' : Pos} {wi : TI} {g : TG} {tt : TT} {ta : TAc}
    {use : Option (Value → Sem Unit)} {Qf : Value → Shared → Prop}
    (TR : Cx → Addr → Shared → (Shared → Prop) → Prop) (hc : X.calm = true) (hN : X.N.Nodup) (I : Inv X pins σ H s) (hi : PI X tg iter wi) (ok : BlkOk X.N X.env.scope scope own) (hv : ∀ i ∈ vs1, i ∈ own.map (·.2))
    (hg : ∀ (s : Shared) (H : Hp) (C : Addr) (cl : List (Str × Addr)) (fp : List Addr), PG (X.blk s H scope (compEnvC scope cl C X.env) fp) tg g)
    (ht : ∀ (s : Shared) (H : Hp) (C : Addr) (cl : List (Str × Addr)) (fp : List Addr), PTs (X.blk s H scope (compEnvC scope cl C X.env) fp) ifs tt)
    (hTL : ∀ (s : Shared) (H : Hp) (C : Addr) (cl : List (Str × Addr)) (fp : List Addr) (D : Addr), TurnLaw (X.blk s H scope (compEnvC scope cl C X.env) fp) (.ListComp elt (⟨tg, iter, ifs, 0⟩ :: rest) scope pos) 0 tg ifs (.ref D) (TR (X.blk s H scope (compEnvC scope cl C X.env) fp) D))
    (hRO : ∀ (s : Shared) (H : Hp) (C : Addr) (cl : List (Str × Addr)) (fp : List Addr) (D : Addr), RestOk (X.blk s H scope (compEnvC scope cl C X.env) fp) (TR (X.blk s H scope (compEnvC scope cl C X.env) fp) D) (ta D) vs1)
    (hs : ∀ x, foldedSetIterable iter X.env x = pure x) (h : tLcN wi g tt ta (own.map (·.2)) σ H Q)
    (hRR : ∀ D C sz m H', Inv X pins σ H' sz → Q (.ref D) H' → sz.heap.Ns C m → FpOk X pins H' C → compPost (model X.prog X.w) X.A X.xe use Qf (.ref D) C (.ok .next) sz) :
    wpAny (model X.prog X.w) X.A (comprehension (.ListComp elt (⟨tg, iter, ifs, 0⟩ :: rest) scope pos) scope X.env pos' (newList []) false (eval iter X.env) use) Qf X.xe s := by
  have known : ∀ z ∈ scope.names, z.2 = .free → ∃ c, X.env.cells.lookup z.1 = some c := fun z hz q => (ok.free z hz q).elim (fun u => I.ok.has _ (.inl u)) fun u => I.ok.has _ (.inr u)
  refine wpAny_comprehension_free (use := use) rfl hs (closure_ok known) ok.kind (fun z hz q => by rw [ok.uniq z hz, q]) (thn (hi.run pins s σ H _ I h) fun xv sa ha => thn ha fun itv sb hb => ?_)
  obtain ⟨it, fp, tn, J, HB, rfl, IB, T, stB, fB, qB⟩ := hb
  refine wpAny_newObj_type (newEnv_comp ?_) (Nat.zero_le sizeLine)
  generalize hD : sb.heap.objs.size = D
  have DB : HB D = none := IB.hok.fresh (Nat.le_of_eq hD)
  have tq := qB D DB
  generalize hsc : ({ sb with heap := sb.heap.push { cls := .type "list", data := .seq ([] : List Value).toArray } } : Shared) = sc
  have eh : sc.heap = sb.heap.push { cls := .type "list", data := .seq ([] : List Value).toArray } := by rw [← hsc]
  have IC : Inv X pins σ (upd HB D (.lst [])) sc := by
    rw [← hsc]
    exact IB.laid (t' := sb.toks) (fun b o q => Heap.get?_push_of_some _ q) (Nat.le_of_eq hD) ⟨Nat.zero_le _, [], 0, .nil, by rw [← hD]; exact Heap.get?_push_size _ rfl⟩
  have fC : ∀ b ∈ fp, FpOk X pins (upd HB D (.lst [])) b ∧ b < sc.heap.objs.size := fun b hb => by
    obtain ⟨o, q, _⟩ := T.obj _ _ stB b hb
    have small := Heap.lt_size q
    obtain ⟨z0, z1⟩ := fB b hb
    refine ⟨⟨?_, z1⟩, by rw [eh, Heap.size_push]; exact Nat.lt_succ_of_lt small⟩
    rw [upd_ne (by rw [← hD]; exact Nat.ne_of_lt small)]
    exact z0
  have stC : tn 0 sc.heap := T.keep _ _ _ stB fun b _ o q => by rw [eh]; exact Heap.get?_push_of_some _ q
  have IE := block_start IC ok hN fC
  show codeAny _ _ (.compStart (.ListComp elt (⟨tg, iter, ifs, 0⟩ :: rest) scope pos) 0 (.ref it) (.ref D) (compEnvC scope (cellsFrom (sc.heap.objs.size + 1) scope.names (cloFrom X.env.cells scope.names [])) sc.heap.objs.size X.env)) (compPost (model X.prog X.w) X.A X.xe use Qf (.ref D) sc.heap.objs.size) { sc with heap := pushCells (sc.heap.push { cls := .type "dict", data := .dict #[] }) scope.names }
  generalize hcl : cellsFrom (sc.heap.objs.size + 1) scope.names (cloFrom X.env.cells scope.names []) = cl at IE ⊢
  generalize hce : compEnvC scope cl sc.heap.objs.size X.env = ce at IE ⊢
  have cL : ce.locals = sc.heap.objs.size := by subst hce; rfl
  generalize hHC : upd HB D (.lst []) = HC at IC IE fC tq
  generalize hse : ({ sc with heap := pushCells (sc.heap.push { cls := .type "dict", data := .dict #[] }) scope.names } : Shared) = se at IE ⊢
  have stE : tn 0 se.heap := T.keep _ _ _ stC fun b _ o q => by rw [← hse]; exact pushCells_keeps _ _ _ _ (Heap.get?_push_of_some _ q)
  have stat : ∀ {σ' : L2.St} {H' : Hp} {sz : Shared}, Inv (X.blk sc HC scope ce fp) [] σ' H' sz → (∀ b ∈ fp, H' b = none) → ∀ b ∈ fp, FpOk (X.blk sc HC scope ce fp) [] H' b := fun {σ' H' sz} Iz hn b hb =>
    ⟨hn b hb, (Iz.ok.exf b hb).1, Iz.ok.exfs b hb, .inl hb, fun x c q => (Iz.ok.exf b hb).2 x c q, fun p hp => by cases hp⟩
  have tl := hTL sc HC sc.heap.objs.size cl fp D
  have ro := hRO sc HC sc.heap.objs.size cl fp D
  have pg := hg sc HC sc.heap.objs.size cl fp
  have pt := ht sc HC sc.heap.objs.size cl fp
  rw [hce] at tl ro pg pt
  have loop := loop_ok (Y := X.blk sc HC scope ce fp) (R := compPost (model X.prog X.w) X.A X.xe use Qf (.ref D) sc.heap.objs.size) hc rfl tl ro pg pt hv T (pins := []) (σ := σ) (Q := Q (.ref D)) stat (fun H' sz Iz qq => ?_) IE stE (fun b hb => (fC b hb).1.1) tq
  · exact codeAny_compStart_list loop (T.self X.A 0 _ _ _ stE loop)
  · have back : Inv X pins σ H' sz := IC.call' (ch := fp) Iz.os Iz.base Iz.hok Iz.bare fun b hb => ⟨(fC b hb).1.2.2.2.1, (fC b hb).1.2.1, (fC b hb).1.2.2.2.2.1, (fC b hb).1.2.2.2.2.2⟩
    have nC : H' sc.heap.objs.size = none := by
      have z : H' ce.locals = none := Iz.free
      rw [cL] at z
      exact z
    obtain ⟨m, hn, _⟩ := Iz.loc
    have hn : sz.heap.Ns ce.locals m := hn
    rw [cL] at hn
    exact hRR D sc.heap.objs.size sz m H' back qq hn (IC.fpOk (Nat.le_refl _) nC)
/-- the same, stored in a local -/
theorem ps_setLc3 {i : Nat} {y : Str} {py spos : Pos} {elt tg iter tg1 iter1 tg2 iter2 : Expr} {ifs ifs1 ifs2 : List Expr} {scope : Scope} {own : List (Str × Nat)} {vs1 vs2 : List Nat} {pos : Pos} {wi wi1 wi2 : TI} {g g1 g2 : TG} {tt tt1 tt2 : TT} {te : TE}
    (hc : X.calm = true) (hN : X.N.Nodup) (hy : X.N[i]? = some y) (hyl : X.env.scope.names.lookup y = some .local)
    (hsw : swapsWith (.ListComp elt [⟨tg, iter, ifs, 0⟩, ⟨tg1, iter1, ifs1, 0⟩, ⟨tg2, iter2, ifs2, 0⟩] scope pos) (some (.Name y py)) spos.line X.env = pure true) (hi : PI X tg iter wi) (ok : BlkOk X.N X.env.scope scope own) (hv : ∀ i ∈ vs1, i ∈ own.map (·.2)) (hv2 : ∀ i ∈ vs2, i ∈ vs1)
    (hg : ∀ (s : Shared) (H : Hp) (C : Addr) (cl : List (Str × Addr)) (fp : List Addr), PG (X.blk s H scope (compEnvC scope cl C X.env) fp) tg g)
    (ht : ∀ (s : Shared) (H : Hp) (C : Addr) (cl : List (Str × Addr)) (fp : List Addr), PTs (X.blk s H scope (compEnvC scope cl C X.env) fp) ifs tt)
    (hi1 : ∀ (s : Shared) (H : Hp) (C : Addr) (cl : List (Str × Addr)) (fp : List Addr), PI (X.blk s H scope (compEnvC scope cl C X.env) fp) tg1 iter1 wi1)
    (hg1 : ∀ (s : Shared) (H : Hp) (C : Addr) (cl : List (Str × Addr)) (fp : List Addr), PG (X.blk s H scope (compEnvC scope cl C X.env) fp) tg1 g1)
    (ht1 : ∀ (s : Shared) (H : Hp) (C : Addr) (cl : List (Str × Addr)) (fp : List Addr), PTs (X.blk s H scope (compEnvC scope cl C X.env) fp) ifs1 tt1)
    (hi2 : ∀ (s : Shared) (H : Hp) (C : Addr) (cl : List (Str × Addr)) (fp : List Addr), PI (X.blk s H scope (compEnvC scope cl C X.env) fp) tg2 iter2 wi2)
    (hg2 : ∀ (s : Shared) (H : Hp) (C : Addr) (cl : List (Str × Addr)) (fp : List Addr), PG (X.blk s H scope (compEnvC scope cl C X.env) fp) tg2 g2)
    (ht2 : ∀ (s : Shared) (H : Hp) (C : Addr) (cl : List (Str × Addr)) (fp : List Addr), PTs (X.blk s H scope (compEnvC scope cl C X.env) fp) ifs2 tt2)
    (he : ∀ (s : Shared) (H : Hp) (C : Addr) (cl : List (Str × Addr)) (fp : List Addr), PE (X.blk s H scope (compEnvC scope cl C X.env) fp) elt te)
    (hs : ∀ x, foldedSetIterable iter X.env x = pure x := by intro _; rfl) (hs1 : ∀ env x, foldedSetIterable iter1 env x = pure x := by intro _ _; rfl) (hs2 : ∀ env x, foldedSetIterable iter2 env x = pure x := by intro _ _; rfl) :
    PS X (.Assign [.Name y py] (.ListComp elt [⟨tg, iter, ifs, 0⟩, ⟨tg1, iter1, ifs1, 0⟩, ⟨tg2, iter2, ifs2, 0⟩] scope pos) spos) (tAsg (tLcN wi g tt (tCl wi1 g1 tt1 (tCl wi2 g2 tt2 (tApp te) vs2) vs1) (own.map (·.2))) (gName i)) := by
  refine ⟨fun pins s σ H D I h => ?_⟩
  rw [exec_Assign_Name_used _ _ _ _ hsw]
  refine wpAny_bind (wpAny_standAt (wpAny_bind ?_))
  have h : tLcN wi g tt (tCl wi1 g1 tt1 (tCl wi2 g2 tt2 (tApp te) vs2) vs1) (own.map (·.2)) σ H (fun x H1 => gName i x σ H1 D.nx) := h
  have core := lcN_core (use := some (assign (.Name y py) X.env)) (Qf := fun _ sz => SP X pins D .next sz) (pos' := firstIterPos [⟨tg, iter, ifs, 0⟩, ⟨tg1, iter1, ifs1, 0⟩, ⟨tg2, iter2, ifs2, 0⟩] pos)
    (fun Y D => TRnext Y (.ListComp elt [⟨tg, iter, ifs, 0⟩, ⟨tg1, iter1, ifs1, 0⟩, ⟨tg2, iter2, ifs2, 0⟩] scope pos) 0 iter1 (.ref D)) hc hN I hi ok hv hg ht (fun s H C cl fp D => law_next rfl rfl (hs1 _))
    (fun s H C cl fp D => rest_next hc rfl rfl (law_next rfl rfl (hs2 _)) (rest_next hc rfl rfl (law_last rfl rfl) (rest_last rfl (he s H C cl fp)) (hi2 s H C cl fp) (hg2 s H C cl fp) (ht2 s H C cl fp) (fun i hi => by cases hi)) (hi1 s H C cl fp) (hg1 s H C cl fp) (ht1 s H C cl fp) hv2) hs h fun L C sz m H' back qq hn f => by
      show wpAny _ _ (assign (.Name y py) X.env (.ref L)) _ _ _
      refine wpAny_assign_Name (store_ok2 (v := V.ref L) back hN hy (.inl hyl) rfl (fun s2 Iz ⟨a, sb, ha⟩ => ?_) (.inr hyl))
      obtain ⟨f0, f1, f2, f3, f4, f5⟩ := f
      have apart : C ≠ a := ha.elim (fun z => by rw [z]; exact f1) fun z q => f4 y a z q.symm
      exact ⟨m, hn.sameBut sb apart, fun h3 sb3 => ⟨_, H', Iz.turned (t' := s2.toks) (fun b o hb q => (sb3.2 b hb).trans q) f0 f1 f3 f4 f5, qq⟩⟩
  exact wpAny_bind (thn core fun _ sz hq => wpAny_pure (wpAny_pure hq))
end
end LCN
namespace DL
variable [DL.TabsT]
open PySem PySem.Spec PyProof.Rows L2 Evl Lay ErrX LCN
section
variable {K : PySem.W.Frag}
/-- heaps going on, a list of one's own at Dl grown meanwhile -/
structure Gr (K : PySem.W.Frag) (Dl : Addr) (F H F' H' : Hp) : Prop where
  ff : Ex F F'
  rep : ∀ {F0 H0 : Hp} {σ : L2.St} {Γ : G}, noOwn Γ = true → Free H0 Dl → Rep K F0 H0 F H σ Γ → Rep K F0 H0 F' H' σ Γ
  ext : ∀ {F1 H1 : Hp}, Free H1 Dl → Ext F1 H1 F H → Ext F1 H1 F' H'
  nof : F' Dl = none
theorem Gr.refl {Dl : Addr} {F H : Hp} (h : F Dl = none) : Gr K Dl F H F H := ⟨Ex.refl F, fun _ _ r => r, fun _ x => x, h⟩
theorem Gr.trans {Dl : Addr} {F H F1 H1 F2 H2 : Hp} (a : Gr K Dl F H F1 H1) (b : Gr K Dl F1 H1 F2 H2) : Gr K Dl F H F2 H2 := ⟨a.ff.trans b.ff, fun n h r => b.rep n h (a.rep n h r), fun h x => b.ext h (a.ext h x), b.nof⟩
theorem nof_ext {Dl : Addr} {F H F1 H1 : Hp} {ws : List V} (hf : F Dl = none) (hd : H Dl = some (.lst ws)) (e : Ext F H F1 H1) : F1 Dl = none := by
  cases q : F1 Dl with
  | none => rfl
  | some o =>
    exact ((e.nw Dl o q hf).not hd (fun ps z => by cases z)).elim
theorem Gr.of {Dl : Addr} {F H F1 H1 : Hp} {ws : List V} (hf : F Dl = none) (hd : H Dl = some (.lst ws)) (e : Ext F H F1 H1) : Gr K Dl F H F1 H1 := ⟨e.ff, fun _ _ r => r.ext e, fun _ x => x.trans e, nof_ext hf hd e⟩
theorem Gr.put {Dl : Addr} {F H : Hp} {ws vs : List V} (hf : F Dl = none) (hd : H Dl = some (.lst ws)) : Gr K Dl F H F (upd H Dl (.lst vs)) :=
  ⟨Ex.refl F, fun n h r => r.mut n hf h hd noTab_lst, fun h x => ⟨x.ff, x.hh.mut h, fun a o q => by
    rw [upd_ne (ne_of_none q hf)]
    exact x.fh a o q, x.tb.mut hd noTab_lst, x.nw⟩, hf⟩
/-- what adds at most n things to a list -/
def AcOk (K : PySem.W.Frag) (ta : TAc) (wa : Nat → G → (List D → Prop) → Prop) : Prop :=
  ∀ n Γ Pd, wa n Γ Pd → ∀ F0 H0 F H σ, Rep K F0 H0 F H σ Γ → ∀ Dl ws zs, F Dl = none → Free H0 Dl → H Dl = some (.lst ws) → RA K F ws zs → zs.length + n ≤ 100000 →
    ∀ Nx : Hp → Prop, (∀ F' H' ws' ys, Gr K Dl F H F' H' → H' Dl = some (.lst ws') → RA K F' ws' (zs ++ ys) → Pd ys → ys.length ≤ n → Nx H') → ta Dl σ H Nx
abbrev wAppL (we : WE) : Nat → G → (List D → Prop) → Prop := fun n Γ Pd => 1 ≤ n ∧ we Γ fun d => Pd [d]
theorem a_app {te : TE} {we : WE} (he : EOk K te we) : AcOk K (tApp te) (wAppL we) := fun n Γ Pd ⟨n1, h⟩ F0 H0 F H σ r Dl ws zs hf h0 hd ra sz Nx fin =>
  he Γ _ h F0 H0 F H σ r _ fun u dy F1 H1 z e1 ru => ⟨ws, e1.hh.kp hd, sz_lt (by rw [ra.len]; omega),
    fin F1 (upd H1 Dl (.lst (ws ++ [u]))) (ws ++ [u]) [dy] ((Gr.of hf hd e1).trans (Gr.put (nof_ext hf hd e1) (e1.hh.kp hd))) upd_same ((ra.mono e1.ff).snoc ru) z n1⟩
theorem turns_ok {J : It} {g : TG} {tt : TT} {ta : TAc} {vs js : List Nat} {wg : WG} {wt : WT} {wa : Nat → G → (List D → Prop) → Prop} (hg : GOk K g wg js) (ht : TOk K tt wt) (ha : AcOk K ta wa) (hj : ∀ j ∈ js, j ∈ vs)
    {xs : List D} {FB : Hp} (hit : IsIt K FB J xs) {Γ : G} {F0 H0 F H : Hp} {σ : L2.St} {Dl : Addr} {ws : List V} {zs : List D} (fx : Ex FB F) (rp : ∀ {F' H' : Hp}, Gr K Dl F H F' H' → Rep K F0 H0 F' H' (wipe σ vs) (wipeG Γ vs))
    (hf : F Dl = none) (h0 : Free H0 Dl) (hd : H Dl = some (.lst ws)) (ra : RA K F ws zs) {n b : Nat} {c : Nat → Bool} {Pd : Nat → List D → Prop} (lb : xs.length * b ≤ n) (sz : zs.length + n ≤ 100000)
    (turn : ∀ k x, xs[k]? = some x → wg x (wipeG Γ vs) fun Γ2 => wt Γ2 fun bb => bb = c k ∧ (bb = true → wa b Γ2 (Pd k))) {Q : Hp → Prop}
    (fin : ∀ F' H' ws' (zss : List (List D)), Gr K Dl F H F' H' → H' Dl = some (.lst ws') → RA K F' ws' (zs ++ zss.flatten) → zss.length = xs.length → (∀ k ys, zss[k]? = some ys → if c k = true then Pd k ys else ys = []) → zss.flatten.length ≤ n → Q H') :
    tTurns J g tt (ta Dl) vs σ H Q := by
  obtain ⟨Gd, Y, wk, good, yld⟩ := hit
  refine ⟨fun i m H' => m = xs.length - i ∧ i ≤ xs.length ∧ ∃ F' ws', ∃ zss : List (List D), Gr K Dl F H F' H' ∧ H' Dl = some (.lst ws') ∧ RA K F' ws' (zs ++ zss.flatten) ∧ zss.length = i ∧ (∀ k ys, zss[k]? = some ys → if c k = true then Pd k ys else ys = []) ∧ zss.flatten.length ≤ i * b,
    ⟨xs.length, by simp, Nat.zero_le _, F, ws, [], Gr.refl hf, hd, by rw [List.flatten_nil, List.append_nil]; exact ra, rfl, fun k ys h => by simp at h, Nat.zero_le _⟩, ?_⟩
  rintro i m H' ⟨rfl, hile, F', ws', zss, gr, hd', ra', zl, zp, zn⟩
  have r' := rp gr
  have gd := good F' H' (fx.trans gr.ff) r'.fh
  by_cases lt : i < xs.length
  · have step : (i + 1) * b ≤ xs.length * b := Nat.mul_le_mul_right b lt
    have step2 : (i + 1) * b = i * b + b := Nat.succ_mul i b
    refine .inr ⟨wk.goes i H' lt gd, fun H2 => i + 1 ≤ xs.length ∧ ∃ F' ws', ∃ zss : List (List D), Gr K Dl F H F' H2 ∧ H2 Dl = some (.lst ws') ∧ RA K F' ws' (zs ++ zss.flatten) ∧ zss.length = i + 1 ∧ (∀ k ys, zss[k]? = some ys → if c k = true then Pd k ys else ys = []) ∧ zss.flatten.length ≤ (i + 1) * b, fun H2 q => ⟨_, by omega, rfl, q.1, q.2⟩, fun v H2 y => ?_⟩
    obtain ⟨F2, d, hx, e2, rv⟩ := yld i F' H' v H2 lt (fx.trans gr.ff) r'.fh (wk.yields i H' v H2 lt gd y)
    refine hg d _ _ (turn i d hx) F0 H0 F2 H2 _ v (r'.ext e2) rv _ fun Γ3 σ3 F3 H3 z3 r3 e3 w3 => ⟨by rw [w3 vs hj]; exact wipe_twice σ vs, ?_⟩
    refine ht Γ3 _ z3 F0 H0 F3 H3 σ3 r3 _ fun bb F4 H4 zt et => ?_
    obtain ⟨hb, z4⟩ := zt
    have e24 := (e2.trans e3).trans et
    have f4 := nof_ext gr.nof hd' e24
    have d4 := e24.hh.kp hd'
    have g4 := gr.trans (Gr.of gr.nof hd' e24)
    have at' : ∀ ys : List D, (if c i = true then Pd i ys else ys = []) → ∀ k us, (zss ++ [ys])[k]? = some us → if c k = true then Pd k us else us = [] := fun ys hy k us h => by
      rw [List.getElem?_append] at h
      split at h
      · exact zp k us h
      · rename_i hk
        have : k = zss.length := by
          have := (List.getElem?_eq_some_iff.mp h).1
          simp at this
          omega
        subst this
        simp at h
        subst h
        rw [zl]
        exact hy
    refine ⟨fun eb => ?_, fun eb => ?_⟩
    · subst eb
      refine ha b Γ3 _ (z4 rfl) F0 H0 F4 H4 σ3 (r3.ext et) Dl ws' (zs ++ zss.flatten) f4 h0 d4 (ra'.mono e24.ff) (by rw [List.length_append]; omega) _ fun F5 H5 ws5 ys g5 hd5 ra5 pd ly => ?_
      refine ⟨by omega, F5, ws5, zss ++ [ys], g4.trans g5, hd5, ?_, by rw [List.length_append, zl]; rfl, at' ys (by rw [← hb, if_pos rfl]; exact pd), ?_⟩
      · rw [List.flatten_append, List.flatten_singleton, ← List.append_assoc]
        exact ra5
      · rw [List.flatten_append, List.flatten_singleton, List.length_append]
        omega
    · subst eb
      refine ⟨by omega, F4, ws', zss ++ [[]], g4, d4, ?_, by rw [List.length_append, zl]; rfl, at' [] (by rw [← hb, if_neg (by decide)]), ?_⟩
      · rw [List.flatten_append, List.flatten_singleton, List.append_nil]
        exact ra'.mono e24.ff
      · rw [List.flatten_append, List.flatten_singleton, List.append_nil]
        omega
  · have ei : i = xs.length := by omega
    subst ei
    exact .inl ⟨wk.stops H' gd, fin F' H' ws' zss gr hd' ra' zl zp (by omega)⟩
abbrev wCl (it : WA) (g : WG) (t : WT) (wa : Nat → G → (List D → Prop) → Prop) (vs : List Nat) : Nat → G → (List D → Prop) → Prop := fun n Γ Pd => it Γ fun xs => noOwn (wipeG Γ vs) = true ∧ ∃ (b : Nat) (c : Nat → Bool) (P1 : Nat → List D → Prop), xs.length * b ≤ n ∧
  (∀ k x, xs[k]? = some x → g x (wipeG Γ vs) fun Γ2 => t Γ2 fun bb => bb = c k ∧ (bb = true → wa b Γ2 (P1 k))) ∧
  ∀ zss : List (List D), zss.length = xs.length → (∀ k ys, zss[k]? = some ys → if c k = true then P1 k ys else ys = []) → Pd zss.flatten
theorem a_cl {wi : TI} {g : TG} {tt : TT} {ta : TAc} {vs js : List Nat} {wit : WA} {wg : WG} {wt : WT} {wa : Nat → G → (List D → Prop) → Prop} (hi : IOk K wi wit) (hg : GOk K g wg js) (ht : TOk K tt wt) (ha : AcOk K ta wa) (hj : ∀ j ∈ js, j ∈ vs := by decide) :
    AcOk K (tCl wi g tt ta vs) (wCl wit wg wt wa vs) := fun n Γ Pd h F0 H0 F H σ r Dl ws zs hf h0 hd ra sz Nx fin =>
  hi Γ _ h F0 H0 F H σ r _ fun J xs F1 H1 z e1 hit => by
    obtain ⟨no, b, c, P1, lb, turn, out⟩ := z
    have g1 := Gr.of (K := K) hf hd e1
    exact turns_ok hg ht ha hj hit (Ex.refl F1) (fun gr => gr.rep no h0 ((r.ext e1).wipe vs)) g1.nof h0 (e1.hh.kp hd) (ra.mono e1.ff) lb sz turn fun F' H' ws' zss gr hd' ra' zl zp zn => fin F' H' ws' _ (g1.trans gr) hd' ra' (out zss zl zp) zn
abbrev wLcN (it : WA) (g : WG) (t : WT) (wa : Nat → G → (List D → Prop) → Prop) (vs : List Nat) : WA := fun Γ Q => it Γ fun xs => ∃ (b : Nat) (c : Nat → Bool) (P1 : Nat → List D → Prop), xs.length * b ≤ 100000 ∧
  (∀ k x, xs[k]? = some x → g x (wipeG Γ vs) fun Γ2 => t Γ2 fun bb => bb = c k ∧ (bb = true → wa b Γ2 (P1 k))) ∧
  ∀ zss : List (List D), zss.length = xs.length → (∀ k ys, zss[k]? = some ys → if c k = true then P1 k ys else ys = []) → Q zss.flatten
theorem f_lcN {wi : TI} {g : TG} {tt : TT} {ta : TAc} {vs js : List Nat} {wit : WA} {wg : WG} {wt : WT} {wa : Nat → G → (List D → Prop) → Prop} (hi : IOk K wi wit) (hg : GOk K g wg js) (ht : TOk K tt wt) (ha : AcOk K ta wa) (hj : ∀ j ∈ js, j ∈ vs := by decide) :
    FOk K (tLcN wi g tt ta vs) (wLcN wit wg wt wa vs) := fun Γ Q hq F0 H0 F H σ r QV w =>
  hi Γ _ hq F0 H0 F H σ r _ fun J xs F1 H1 z e1 hit => by
    obtain ⟨b, c, P1, lb, turn, out⟩ := z
    intro Dl hD
    have r1 := r.ext e1
    have hf := fresh_back e1.fh hD
    have x0 : Ext F1 H1 F1 (upd H1 Dl (.lst [])) := Ext.heap e1.fh (Ex.new hD)
    refine turns_ok (zs := []) hg ht ha hj hit (Ex.refl F1) (fun gr => (r1.wipe vs).ext (gr.ext hD x0)) hf (ExT.back r1.h0 hD) upd_same .nil lb (by show 0 + 100000 ≤ 100000; decide) turn fun F' H' ws' zss gr hd' ra' zl zp zn => ?_
    exact w Dl ws' _ F' H' (out zss zl zp) (e1.trans (gr.ext hD x0)) (ExT.back e1.hh hD) gr.nof hd' ra'
end
end DL
namespace SrtD
variable [DL.TabsT]
open PySem PySem.Spec PyProof.Rows L2 Evl Lay ErrX DL SeqAt SrtO
/-- forms of data that can be compared -/
inductive Sh
  | i
  | t (s : Sh)
  | l (s : Sh)
def Sh.dep : Sh → Nat
  | .i => 0
  | .t s => s.dep + 1
  | .l s => s.dep + 1
def hasSh : Sh → D → Prop
  | .i, d => ∃ n, d = .i n
  | .t s, d => ∃ xs, d = .t xs ∧ ∀ x ∈ xs, hasSh s x
  | .l s, d => ∃ xs, d = .l xs ∧ ∀ x ∈ xs, hasSh s x
open Classical in
noncomputable def lexF (lt : D → D → Bool) (fin : Bool) : List D → List D → Bool
  | [], _ => fin
  | _ :: _, [] => fin
  | x :: xs, y :: ys => if x = y then lexF lt fin xs ys else lt x y
noncomputable def lexL (lt : D → D → Bool) (xs ys : List D) : Bool := lexF lt (decide (xs.length < ys.length)) xs ys
theorem lexL_cons {lt : D → D → Bool} {x y : D} {xs ys : List D} : lexL lt (x :: xs) (y :: ys) = (open Classical in if x = y then lexL lt xs ys else lt x y) := by
  unfold lexL
  rw [show decide ((x :: xs).length < (y :: ys).length) = decide (xs.length < ys.length) by simp]
  rw [lexF]
structure Tot (P : D → Prop) (lt : D → D → Bool) : Prop where
  irr : ∀ x, P x → lt x x = false
  tr : ∀ x y z, P x → P y → P z → lt x y = true → lt y z = true → lt x z = true
  tri : ∀ x y, P x → P y → lt x y = true ∨ x = y ∨ lt y x = true
theorem lex_irr {P : D → Prop} {lt : D → D → Bool} : ∀ xs : List D, lexL lt xs xs = false
  | [] => by simp [lexL, lexF]
  | x :: xs => by rw [lexL_cons, if_pos rfl]; exact lex_irr (P := P) xs
theorem lex_tri {P : D → Prop} {lt : D → D → Bool} (T : Tot P lt) : ∀ xs ys : List D, (∀ x ∈ xs, P x) → (∀ y ∈ ys, P y) → lexL lt xs ys = true ∨ xs = ys ∨ lexL lt ys xs = true
  | [], [], _, _ => .inr (.inl rfl)
  | [], y :: ys, _, _ => .inl (by simp [lexL, lexF])
  | x :: xs, [], _, _ => .inr (.inr (by simp [lexL, lexF]))
  | x :: xs, y :: ys, hx, hy => by
    rw [lexL_cons, lexL_cons]
    by_cases e : x = y
    · subst e
      rw [if_pos rfl, if_pos rfl]
      rcases lex_tri T xs ys (fun a h => hx a (List.mem_cons_of_mem _ h)) (fun a h => hy a (List.mem_cons_of_mem _ h)) with h | h | h
      · exact .inl h
      · exact .inr (.inl (by rw [h]))
      · exact .inr (.inr h)
    · rw [if_neg e, if_neg (Ne.symm e)]
      rcases T.tri x y (hx x (List.mem_cons_self ..)) (hy y (List.mem_cons_self ..)) with h | h | h
      · exact .inl h
      · exact absurd h e
      · exact .inr (.inr h)
theorem lex_tr {P : D → Prop} {lt : D → D → Bool} (T : Tot P lt) : ∀ xs ys zs : List D, (∀ x ∈ xs, P x) → (∀ y ∈ ys, P y) → (∀ z ∈ zs, P z) → lexL lt xs ys = true → lexL lt ys zs = true → lexL lt xs zs = true
  | [], [], [], _, _, _, h1, _ => h1
  | [], _ :: _, [], _, _, _, _, h2 => by simp [lexL, lexF] at h2
  | [], _, z :: zs, _, _, _, _, _ => by simp [lexL, lexF]
  | x :: xs, [], _, _, _, _, h1, _ => by simp [lexL, lexF] at h1
  | x :: xs, y :: ys, [], _, _, _, _, h2 => by simp [lexL, lexF] at h2
  | x :: xs, y :: ys, z :: zs, hx, hy, hz, h1, h2 => by
    rw [lexL_cons] at h1 h2 ⊢
    have px := hx x (List.mem_cons_self ..)
    have py := hy y (List.mem_cons_self ..)
    have pz := hz z (List.mem_cons_self ..)
    by_cases e1 : x = y
    · subst e1
      rw [if_pos rfl] at h1
      by_cases e2 : x = z
      · subst e2
        rw [if_pos rfl] at h2 ⊢
        exact lex_tr T xs ys zs (fun a h => hx a (List.mem_cons_of_mem _ h)) (fun a h => hy a (List.mem_cons_of_mem _ h)) (fun a h => hz a (List.mem_cons_of_mem _ h)) h1 h2
      · rw [if_neg e2] at h2 ⊢
        exact h2
    · rw [if_neg e1] at h1
      by_cases e2 : y = z
      · subst e2
        rw [if_neg e1]
        exact h1
      · rw [if_neg e2] at h2
        have h3 := T.tr x y z px py pz h1 h2
        have ne : x ≠ z := fun e => by
          subst e
          rw [T.irr x px] at h3
          cases h3
        rw [if_neg ne]
        exact h3
noncomputable def ltS : Sh → D → D → Bool
  | .i => fun x y => match x, y with
    | .i a, .i b => decide (a < b)
    | _, _ => false
  | .t s => fun x y => match x, y with
    | .t xs, .t ys => lexL (ltS s) xs ys
    | _, _ => false
  | .l s => fun x y => match x, y with
    | .l xs, .l ys => lexL (ltS s) xs ys
    | _, _ => false
theorem tot : ∀ s : Sh, Tot (hasSh s) (ltS s)
  | .i => by
    refine ⟨fun x h => ?_, fun x y z h1 h2 h3 => ?_, fun x y h1 h2 => ?_⟩
    · obtain ⟨n, rfl⟩ := h
      exact decide_eq_false (Int.lt_irrefl n)
    · obtain ⟨a, rfl⟩ := h1
      obtain ⟨b, rfl⟩ := h2
      obtain ⟨c, rfl⟩ := h3
      exact fun p q => decide_eq_true (Int.lt_trans (of_decide_eq_true p) (of_decide_eq_true q))
    · obtain ⟨a, rfl⟩ := h1
      obtain ⟨b, rfl⟩ := h2
      rcases Int.lt_trichotomy a b with c | c | c
      · exact .inl (decide_eq_true c)
      · exact .inr (.inl (by rw [c]))
      · exact .inr (.inr (decide_eq_true c))
  | .t s => by
    have T := tot s
    refine ⟨fun x h => ?_, fun x y z h1 h2 h3 => ?_, fun x y h1 h2 => ?_⟩
    · obtain ⟨xs, rfl, h⟩ := h
      exact lex_irr (P := hasSh s) xs
    · obtain ⟨a, rfl, ha⟩ := h1
      obtain ⟨b, rfl, hb⟩ := h2
      obtain ⟨c, rfl, hc⟩ := h3
      exact lex_tr T a b c ha hb hc
    · obtain ⟨a, rfl, ha⟩ := h1
      obtain ⟨b, rfl, hb⟩ := h2
      rcases lex_tri T a b ha hb with c | c | c
      · exact .inl c
      · exact .inr (.inl (by rw [c]))
      · exact .inr (.inr c)
  | .l s => by
    have T := tot s
    refine ⟨fun x h => ?_, fun x y z h1 h2 h3 => ?_, fun x y h1 h2 => ?_⟩
    · obtain ⟨xs, rfl, h⟩ := h
      exact lex_irr (P := hasSh s) xs
    · obtain ⟨a, rfl, ha⟩ := h1
      obtain ⟨b, rfl, hb⟩ := h2
      obtain ⟨c, rfl, hc⟩ := h3
      exact lex_tr T a b c ha hb hc
    · obtain ⟨a, rfl, ha⟩ := h1
      obtain ⟨b, rfl, hb⟩ := h2
      rcases lex_tri T a b ha hb with c | c | c
      · exact .inl c
      · exact .inr (.inl (by rw [c]))
      · exact .inr (.inr c)
theorem Tot.swo {P : D → Prop} {lt : D → D → Bool} (T : Tot P lt) {α : Type} (k : α → D) (hk : ∀ v, P (k v)) : Swo fun v u => lt (k v) (k u) := by
  refine ⟨fun x y h => ?_, fun x y z h1 h2 => ?_⟩
  · cases q : lt (k y) (k x) with
    | false => rfl
    | true =>
      have := T.tr _ _ _ (hk x) (hk y) (hk x) h q
      rw [T.irr _ (hk x)] at this
      cases this
  · cases q : lt (k z) (k x) with
    | false => rfl
    | true =>
      rcases T.tri (k y) (k x) (hk y) (hk x) with c | c | c
      · have c : lt (k y) (k x) = true := c
        have h1 : lt (k y) (k x) = false := h1
        rw [h1] at c
        cases c
      · have h2 : lt (k z) (k y) = false := h2
        rw [c, q] at h2
        cases h2
      · have h2 : lt (k z) (k y) = false := h2
        rw [T.tr _ _ _ (hk z) (hk x) (hk y) q c] at h2
        cases h2
def isS : Sh → Heap → Value → D → Prop
  | .i, _, v, d => ∃ n t, v = .int n t ∧ d = .i n
  | .t s, h, v, d => ∃ a items xs, v = .ref a ∧ h.IsTuple a items ∧ d = .t xs ∧ items.size = xs.length ∧ ∀ j (h1 : j < items.size) (h2 : j < xs.length), isS s h items[j] xs[j]
  | .l s, h, v, d => ∃ a items xs, v = .ref a ∧ h.IsList a items ∧ d = .l xs ∧ items.size = xs.length ∧ ∀ j (h1 : j < items.size) (h2 : j < xs.length), isS s h items[j] xs[j]
theorem isS_sh : ∀ {s : Sh} {h : Heap} {v : Value} {d : D}, isS s h v d → hasSh s d
  | .i, _, _, _, ⟨n, _, _, e⟩ => ⟨n, e⟩
  | .t s, h, v, d, ⟨a, items, xs, _, _, e, l, H⟩ => ⟨xs, e, fun x hx => by
    obtain ⟨j, hj, rfl⟩ := List.getElem_of_mem hx
    exact isS_sh (H j (by omega) hj)⟩
  | .l s, h, v, d, ⟨a, items, xs, _, _, e, l, H⟩ => ⟨xs, e, fun x hx => by
    obtain ⟨j, hj, rfl⟩ := List.getElem_of_mem hx
    exact isS_sh (H j (by omega) hj)⟩
theorem isS_keep : ∀ {s : Sh} {h h' : Heap} {v : Value} {d : D}, isS s h v d → (∀ b o, h.get? b = some o → h'.get? b = some o) → isS s h' v d
  | .i, _, _, _, _, x, _ => x
  | .t s, h, h', v, d, ⟨a, items, xs, e1, ⟨o, ho, hc, n, hd⟩, e2, l, H⟩, k => ⟨a, items, xs, e1, ⟨o, k _ _ ho, hc, n, hd⟩, e2, l, fun j h1 h2 => isS_keep (H j h1 h2) k⟩
  | .l s, h, h', v, d, ⟨a, items, xs, e1, ⟨o, ho, hc, n, hd⟩, e2, l, H⟩, k => ⟨a, items, xs, e1, ⟨o, k _ _ ho, hc, n, hd⟩, e2, l, fun j h1 h2 => isS_keep (H j h1 h2) k⟩
theorem isS_det : ∀ {s : Sh} {h : Heap} {v : Value} {d d' : D}, isS s h v d → isS s h v d' → d = d'
  | .i, _, _, _, _, ⟨n, t, e1, e2⟩, ⟨n', t', e1', e2'⟩ => by
    rw [e1] at e1'
    cases e1'
    rw [e2, e2']
  | .t s, h, v, d, d', ⟨a, items, xs, e1, ⟨o, ho, hc, n, hd⟩, e2, l, H⟩, ⟨a', items', xs', e1', ⟨o', ho', hc', n', hd'⟩, e2', l', H'⟩ => by
    rw [e1] at e1'
    cases e1'
    rw [ho] at ho'
    cases ho'
    rw [hd] at hd'
    cases hd'
    rw [e2, e2']
    congr 1
    refine List.ext_getElem (by omega) fun j h1 h2 => isS_det (H j (by omega) h1) (H' j (by omega) h2)
  | .l s, h, v, d, d', ⟨a, items, xs, e1, ⟨o, ho, hc, n, hd⟩, e2, l, H⟩, ⟨a', items', xs', e1', ⟨o', ho', hc', n', hd'⟩, e2', l', H'⟩ => by
    rw [e1] at e1'
    cases e1'
    rw [ho] at ho'
    cases ho'
    rw [hd] at hd'
    cases hd'
    rw [e2, e2']
    congr 1
    refine List.ext_getElem (by omega) fun j h1 h2 => isS_det (H j (by omega) h1) (H' j (by omega) h2)
open Classical in
theorem eqs (xs ys : List D) : ((List.range (min xs.length ys.length)).all (fun j => decide (xs[j]? = ys[j]?)) && xs.length == ys.length) = decide (xs = ys) := by
  rw [Bool.eq_iff_iff, Bool.and_eq_true, List.all_eq_true, decide_eq_true_iff, beq_iff_eq]
  constructor
  · rintro ⟨h, l⟩
    refine List.ext_getElem? fun j => ?_
    by_cases c : j < xs.length
    · exact of_decide_eq_true (h j (List.mem_range.mpr (by omega)))
    · rw [List.getElem?_eq_none (by omega), List.getElem?_eq_none (by omega)]
  · rintro rfl
    exact ⟨fun j _ => decide_eq_true rfl, rfl⟩
theorem firstLt_map {e r : Nat → Bool} {fin : Bool} (f : Nat → Nat) : ∀ l : List Nat, firstLt e r fin (l.map f) = firstLt (fun j => e (f j)) (fun j => r (f j)) fin l
  | [] => rfl
  | j :: l => by
    show (if e (f j) = true then firstLt e r fin (l.map f) else r (f j)) = if e (f j) = true then firstLt (fun j => e (f j)) (fun j => r (f j)) fin l else r (f j)
    rw [firstLt_map f l]
noncomputable def ltO (lt : D → D → Bool) : Option D → Option D → Bool
  | some x, some y => lt x y
  | _, _ => false
open Classical in
theorem lts (lt : D → D → Bool) (fin : Bool) : ∀ xs ys : List D, firstLt (fun j => decide (xs[j]? = ys[j]?)) (fun j => ltO lt xs[j]? ys[j]?) fin (List.range (min xs.length ys.length)) = lexF lt fin xs ys
  | [], ys => by simp [lexF, firstLt]
  | x :: xs, [] => by simp [lexF, firstLt]
  | x :: xs, y :: ys => by
    rw [show min (x :: xs).length (y :: ys).length = min xs.length ys.length + 1 by simp only [List.length_cons]; omega, List.range_succ_eq_map]
    show (if decide ((x :: xs)[0]? = (y :: ys)[0]?) = true then _ else _) = _
    rw [firstLt_map]
    have ih := lts lt fin xs ys
    simp only [List.getElem?_cons_succ, List.getElem?_cons_zero, Option.some.injEq, decide_eq_true_eq] at ih ⊢
    rw [ih, lexF]
    rfl
section
variable {prog : Program} {w : World}
open Classical in
theorem eq_law : ∀ (s : Sh) {A : Around} {sa : Shared} {v u : Value} {x y : D}, A.units + s.dep < cLine → isS s sa.heap v x → isS s sa.heap u y → EqAt A sa v u (decide (x = y))
  | .i, A, sa, v, u, x, y, _, ⟨n, t, e1, e2⟩, ⟨m, t', e3, e4⟩ => by
    subst e1 e2 e3 e4
    have z : decide (D.i n = D.i m) = (n == m) := by
      rw [Bool.eq_iff_iff, decide_eq_true_iff, beq_iff_eq]
      exact ⟨fun e => by injection e, fun e => by rw [e]⟩
    rw [z]
    exact EqAt.int_int n t m t'
  | .t s, A, sa, v, u, x, y, hu, hx, hy => by
    obtain ⟨a, ia, xs, rfl, ha, rfl, la, Ha⟩ := id hx
    obtain ⟨b, ib, ys, rfl, hb, rfl, lb, Hb⟩ := id hy
    by_cases e : a = b
    · subst e
      rw [decide_eq_true (isS_det hx hy)]
      exact EqAt.same _
    · have z : decide (D.t xs = D.t ys) = decide (xs = ys) := by
        rw [decide_eq_decide]
        exact ⟨fun e => by injection e, fun e => by rw [e]⟩
      rw [z, ← eqs, ← la, ← lb]
      have hu : A.units + (s.dep + 1) < cLine := hu
      refine EqAt.of_refs e (RcAt.tuples ha hb (by omega) fun j h1 h2 => ?_)
      have := eq_law s (A := A.in1) (by show A.units + 1 + s.dep < cLine; omega) (Ha j h1 (by omega)) (Hb j h2 (by omega))
      rw [List.getElem?_eq_getElem (show j < xs.length by omega), List.getElem?_eq_getElem (show j < ys.length by omega)]
      simpa using this
  | .l s, A, sa, v, u, x, y, hu, hx, hy => by
    obtain ⟨a, ia, xs, rfl, ha, rfl, la, Ha⟩ := id hx
    obtain ⟨b, ib, ys, rfl, hb, rfl, lb, Hb⟩ := id hy
    have hu : A.units + (s.dep + 1) < cLine := hu
    by_cases e : a = b
    · subst e
      rw [decide_eq_true (isS_det hx hy)]
      exact EqAt.same _
    · have z : decide (D.l xs = D.l ys) = decide (xs = ys) := by
        rw [decide_eq_decide]
        exact ⟨fun e => by injection e, fun e => by rw [e]⟩
      rw [z]
      by_cases c : ia.size = ib.size
      · have q := eqs xs ys
        rw [show min xs.length ys.length = ia.size by omega, show (xs.length == ys.length) = true by rw [beq_iff_eq]; omega, Bool.and_true] at q
        rw [← q]
        refine EqAt.of_refs e (RcAt.lists ha hb c (by omega) fun j h1 h2 => ?_)
        have := eq_law s (A := A.in1) (by show A.units + 1 + s.dep < cLine; omega) (Ha j h1 (by omega)) (Hb j h2 (by omega))
        rw [List.getElem?_eq_getElem (show j < xs.length by omega), List.getElem?_eq_getElem (show j < ys.length by omega)]
        simpa using this
      · rw [decide_eq_false fun e => c (by rw [la, lb, e])]
        exact EqAt.of_refs e (RcAt.lists_lengths ha hb (by simpa using c) (by omega))
theorem at_dec {A : Around} {sa : Shared} {v u : Value} {x y : D} {i1 : Decidable (x = y)} {i2 : Decidable (some x = some y)} (h : EqAt A sa v u (@decide (x = y) i1)) : EqAt A sa v u (@decide (some x = some y) i2) := by
  rw [show @decide (some x = some y) i2 = @decide (x = y) i1 by rw [decide_eq_decide]; exact ⟨fun e => by injection e, fun e => by rw [e]⟩]
  exact h
theorem lt_law : ∀ (s : Sh) {A : Around} {sa : Shared} {v u : Value} {x y : D}, A.units + s.dep < cLine → isS s sa.heap v x → isS s sa.heap u y → RcLt A sa v u (ltS s x y)
  | .i, A, sa, v, u, x, y, _, ⟨n, t, e1, e2⟩, ⟨m, t', e3, e4⟩ => by
    subst e1 e2 e3 e4
    exact fun prog w E Q h => PyProof.Rows.lt_int h
  | .t s, A, sa, v, u, x, y, hu, hx, hy => by
    obtain ⟨a, ia, xs, rfl, ha, rfl, la, Ha⟩ := id hx
    obtain ⟨b, ib, ys, rfl, hb, rfl, lb, Hb⟩ := id hy
    have hu : A.units + (s.dep + 1) < cLine := hu
    show RcLt A sa _ _ (lexL (ltS s) xs ys)
    unfold lexL
    rw [← lts, ← la, ← lb]
    refine RcLt.tuples ha hb (by omega) (fun j h1 h2 => ?_) (fun j h1 h2 _ => ?_)
    · have := eq_law s (A := A.in1) (by show A.units + 1 + s.dep < cLine; omega) (Ha j h1 (by omega)) (Hb j h2 (by omega))
      rw [List.getElem?_eq_getElem (show j < xs.length by omega), List.getElem?_eq_getElem (show j < ys.length by omega)]
      exact at_dec this
    · have := lt_law s (A := A.in1) (by show A.units + 1 + s.dep < cLine; omega) (Ha j h1 (by omega)) (Hb j h2 (by omega))
      rw [List.getElem?_eq_getElem (show j < xs.length by omega), List.getElem?_eq_getElem (show j < ys.length by omega)]
      exact this
  | .l s, A, sa, v, u, x, y, hu, hx, hy => by
    obtain ⟨a, ia, xs, rfl, ha, rfl, la, Ha⟩ := id hx
    obtain ⟨b, ib, ys, rfl, hb, rfl, lb, Hb⟩ := id hy
    have hu : A.units + (s.dep + 1) < cLine := hu
    show RcLt A sa _ _ (lexL (ltS s) xs ys)
    unfold lexL
    rw [← lts, ← la, ← lb]
    refine RcLt.lists ha hb (by omega) (fun j h1 h2 => ?_) (fun j h1 h2 _ => ?_)
    · have := eq_law s (A := A.in1) (by show A.units + 1 + s.dep < cLine; omega) (Ha j h1 (by omega)) (Hb j h2 (by omega))
      rw [List.getElem?_eq_getElem (show j < xs.length by omega), List.getElem?_eq_getElem (show j < ys.length by omega)]
      exact at_dec this
    · have := lt_law s (A := A.in1) (by show A.units + 1 + s.dep < cLine; omega) (Ha j h1 (by omega)) (Hb j h2 (by omega))
      rw [List.getElem?_eq_getElem (show j < xs.length by omega), List.getElem?_eq_getElem (show j < ys.length by omega)]
      exact this
open Classical in
theorem kat_keys {s : Sh} {A : Around} {sa : Shared} {b : Bool} {fin : Bool} (hu : A.units + s.dep < cLine) (h1 : b = true → s = .i) : ∀ (us vs : List Value) (xs ys : List D) (i : Nat) (Q : Bool → Shared → Prop), us.length = xs.length → vs.length = ys.length →
    (∀ j (h1 : j < us.length) (h2 : j < xs.length), isS s sa.heap us[j] xs[j]) → (∀ j (h1 : j < vs.length) (h2 : j < ys.length), isS s sa.heap vs[j] ys[j]) → Q (lexF (ltS s) fin xs ys) sa → PySem.W.KatLex prog w A b fin Q (us.zip vs) i sa
  | [], vs, [], ys, i, Q, _, _, _, _, q => by
    rw [List.zip_nil_left]
    exact PySem.W.kat_nil (by simpa [lexF] using q)
  | u :: us, [], x :: xs, [], i, Q, _, _, _, _, q => by
    rw [List.zip_nil_right]
    exact PySem.W.kat_nil (by simpa [lexF] using q)
  | u :: us, v :: vs, x :: xs, y :: ys, i, Q, l1, l2, a1, a2, q => by
    have b1 : isS s sa.heap u x := a1 0 (Nat.zero_lt_succ _) (Nat.zero_lt_succ _)
    have b2 : isS s sa.heap v y := a2 0 (Nat.zero_lt_succ _) (Nat.zero_lt_succ _)
    rw [List.zip_cons_cons]
    refine PySem.W.kat_cons (eq_law s hu b1 b2 prog w _ _ ?_)
    rw [lexF] at q
    refine PySem.W.kat_go (fun e => ?_) (fun e => ?_)
    · rw [if_pos (of_decide_eq_true e)] at q
      refine PySem.W.kat_yes (kat_keys hu h1 us vs xs ys (i + 1) Q (by simpa using l1) (by simpa using l2) (fun j h1 h2 => ?_) (fun j h1 h2 => ?_) q)
      · exact a1 (j + 1) (Nat.succ_lt_succ h1) (Nat.succ_lt_succ h2)
      · exact a2 (j + 1) (Nat.succ_lt_succ h1) (Nat.succ_lt_succ h2)
    · rw [if_neg (of_decide_eq_false e)] at q
      refine PySem.W.kat_no ?_
      cases hb : (b && i == 0) with
      | false => exact PySem.W.kat_one _ _ (lt_law s hu b1 b2 prog w _ _ q)
      | true =>
        rw [Bool.and_eq_true] at hb
        have es := h1 hb.1
        subst es
        obtain ⟨n, t, rfl, rfl⟩ := b1
        obtain ⟨m, t', rfl, rfl⟩ := b2
        exact oneLt_int q
/-- what the first ones are -/
def kindOf : Sh → Value
  | .i => .type "int"
  | .t _ => .type "tuple"
  | .l _ => .type "list"
theorem looks_kind {M : Model} {s : Sh} {h : Heap} {v : Value} {d : D} (x : isS s h v d) : PySem.W.Looks M h (typeOf v) (kindOf s) := by
  cases s with
  | i =>
    obtain ⟨n, t, rfl, _⟩ := x
    exact PySem.W.Looks.now
  | t s =>
    obtain ⟨a, ia, xs, rfl, ⟨o, ho, hc, n, hd⟩, _⟩ := x
    have z : PySem.W.Looks M h (typeOf (.ref a)) o.cls := (PySem.W.Looks.ld ho).andThen .now
    rw [hc] at z
    exact z
  | l s =>
    obtain ⟨a, ia, xs, rfl, ⟨o, ho, hc, n, hd⟩, _⟩ := x
    have z : PySem.W.Looks M h (typeOf (.ref a)) o.cls := (PySem.W.Looks.ld ho).andThen .now
    rw [hc] at z
    exact z
theorem firsts {s : Sh} {h : Heap} {k : Value → D} : ∀ vs : List Value, (∀ v ∈ vs, isS (.t s) h v (k v) ∧ k v ≠ .t []) → ∃ fs : List Value, PySem.W.KatTups h vs fs ∧ fs.length = vs.length ∧ ∀ f ∈ fs, ∃ d, isS s h f d
  | [], _ => ⟨[], PySem.W.KatTups.nil, rfl, fun f hf => by cases hf⟩
  | v :: vs, x => by
    obtain ⟨fs, kt, hl, hi⟩ := firsts vs fun u hu => x u (List.mem_cons_of_mem _ hu)
    obtain ⟨⟨a, ia, xs, ev, ⟨o, ho, hc, n, hd⟩, ek, la, Ha⟩, ne⟩ := x v (List.mem_cons_self ..)
    subst ev
    have l0 : 0 < xs.length := List.length_pos_iff.mpr fun e => ne (by rw [ek, e])
    refine ⟨ia[0] :: fs, PySem.W.KatTups.cons ho hc hd (by rw [Array.getElem?_eq_getElem]) kt, by rw [List.length_cons, List.length_cons, hl], fun f hf => ?_⟩
    rcases List.mem_cons.mp hf with rfl | hf
    · exact ⟨_, Ha 0 (by omega) l0⟩
    · exact hi f hf
theorem tups_sortable {s : Sh} (hs : s = .i ∨ ∃ s', s = .t s') {A : Around} {sa : Shared} {a : Addr} {vs : List Value} {k : Value → D} (hu : A.units + s.dep < cLine) (h0 : 0 < vs.length) (hp : ∀ h' : Heap, (∀ b o, b ≠ a → sa.heap.get? b = some o → h'.get? b = some o) → ∀ v ∈ vs, isS (.t s) h' v (k v) ∧ k v ≠ .t []) :
    SortableO prog w A sa a vs fun v u => ltS (.t s) (k v) (k u) := by
  intro h' keep
  have hp' := hp h' keep
  obtain ⟨fs, h1, h2, h3⟩ := firsts vs hp'
  refine ⟨tuples' (kindOf s != .type "tuple"), fun Q E hq => ?_, ?_⟩
  · refine PySem.W.kat_kind (T := kindOf s) h1 (by omega) (fun f hm => ?_) ?_ hq
    · obtain ⟨d, hd⟩ := h3 f hm
      exact looks_kind hd
    · rcases hs with rfl | ⟨s', rfl⟩ <;> rfl
  · intro p q hm hm'
    obtain ⟨x1, _⟩ := hp' _ hm
    obtain ⟨x2, _⟩ := hp' _ hm'
    show wpAny (model prog w) A (keyLt' (tuples' _) p.1 q.1) (fun r s' => s' = _ ∧ r = ltS (.t s) (k p.1) (k q.1)) (fun _ _ => False) _
    obtain ⟨a1, ia, xs, e1, ⟨o1, ho1, hc1, n1, hd1⟩, k1, la, Ha⟩ := x1
    obtain ⟨a2, ib, ys, e2, ⟨o2, ho2, hc2, n2, hd2⟩, k2, lb, Hb⟩ := x2
    rw [k1, k2, e1, e2]
    refine PySem.W.kat_lt ho1 hd1 ho2 hd2 ?_
    refine kat_keys (s := s) hu (fun hb => ?_) ia.toList ib.toList xs ys 0 _ (by simpa using la) (by simpa using lb) (fun j h1 h2 => ?_) (fun j h1 h2 => ?_) ⟨rfl, ?_⟩
    · rcases hs with rfl | ⟨s', rfl⟩
      · rfl
      · exact absurd hb (by simp [kindOf])
    · simpa using Ha j (by simpa using h1) h2
    · simpa using Hb j (by simpa using h1) h2
    · show _ = lexL (ltS s) xs ys
      unfold lexL
      rw [la, lb]
end
section
variable {X : Cx} {pins : List (Addr × Obj)} {σ : L2.St} {H : Hp} {sa : Shared}
theorem is_all {K : PySem.W.Frag} {F : Hp} {s : Sh} {h : Heap} (one : ∀ v u d, hasSh s d → R K F v d → RelV v u → isS s h u d) : ∀ {vs : List V} {us : List Value} {xs : List D}, RA K F vs xs → Vals vs us → (∀ x ∈ xs, hasSh s x) → us.length = xs.length ∧ ∀ j (h1 : j < us.length) (h2 : j < xs.length), isS s h us[j] xs[j]
  | _, _, _, .nil, .nil, _ => ⟨rfl, fun j h1 => absurd h1 (Nat.not_lt_zero j)⟩
  | _, _, _, .cons r ra, .cons rv rvs, hx => by
    obtain ⟨l, a⟩ := is_all one ra rvs fun x hm => hx x (List.mem_cons_of_mem _ hm)
    refine ⟨by rw [List.length_cons, List.length_cons, l], fun j h1 h2 => ?_⟩
    cases j with
    | zero => exact one _ _ _ (hx _ (List.mem_cons_self ..)) r rv
    | succ j => exact a j (Nat.lt_of_succ_lt_succ h1) (Nat.lt_of_succ_lt_succ h2)
theorem is_of (I : Inv X pins σ H sa) {F : Hp} (e : Ex F H) : ∀ (s : Sh) (v : V) (u : Value) (d : D), hasSh s d → R X.K F v d → RelV v u → isS s sa.heap u d
  | .i, v, u, d, ⟨n, hd⟩, r, rv => by
    subst hd
    cases r
    obtain ⟨t, rfl⟩ := rv
    exact ⟨n, t, rfl, rfl⟩
  | .t s, v, u, d, ⟨xs, hd, hx⟩, r, rv => by
    subst hd
    cases r with
    | @t p vs _ st ra =>
      obtain ⟨its, rvs, ⟨o, ho, hc, n, hdt⟩, _⟩ := I.tuple (ex_t e st)
      obtain ⟨l, a⟩ := is_all (fun v u d => is_of I e s v u d) ra rvs hx
      exact ⟨p, its.toArray, xs, rv, ⟨o, ho, hc, n, hdt⟩, rfl, by simpa using l, fun j h1 h2 => by simpa using a j (by simpa using h1) h2⟩
  | .l s, v, u, d, ⟨xs, hd, hx⟩, r, rv => by
    subst hd
    cases r with
    | @l p vs _ h ra =>
      obtain ⟨its, rvs, pl, _⟩ := I.list (sq_of (e _ _ h))
      obtain ⟨l, a⟩ := is_all (fun v u d => is_of I e s v u d) ra rvs hx
      exact ⟨p, its.toArray, xs, rv, pl.isList, rfl, by simpa using l, fun j h1 h2 => by simpa using a j (by simpa using h1) h2⟩
/-- sorted(xs), xs a list of tuples of one form -/
def rSortS (K : PySem.W.Frag) (s : Sh) : List V → Hp → VK → Prop := fun vs H Q => ∃ (a : Addr) (Z : List (V × D)) (F : Hp), vs = [.ref a] ∧ SqL K H a (Z.map (·.1)) ∧ Ex F H ∧ (∀ z ∈ Z, R K F z.1 z.2 ∧ hasSh (.t s) z.2 ∧ z.2 ≠ .t []) ∧
  ∀ (Z' : List (V × D)) (p : Addr), Z'.Perm Z → (Z'.map (·.2)).Pairwise (fun x y => ltS (.t s) y x = false) → H p = none → Q (.ref p) (upd H p (.lst (Z'.map (·.1))))
theorem sndsD {kv : Value → D} : ∀ {Z : List (V × D)} {out : List Value}, Z.map (·.1) = out.map backV → (∀ u ∈ out, ∃ a, u = Value.ref a) → (∀ z ∈ Z, ∀ t, z.1 = .ref t → kv (.ref t) = z.2) → Z.map (·.2) = out.map kv
  | [], [], _, _, _ => rfl
  | [], _ :: _, h, _, _ => by cases h
  | _ :: _, [], h, _, _ => by cases h
  | z :: Z, u :: out, h, h1, h2 => by
    rw [List.map_cons, List.map_cons] at h
    injection h with e1 e2
    obtain ⟨a, rfl⟩ := h1 u (List.mem_cons_self ..)
    rw [List.map_cons, List.map_cons, sndsD e2 (fun v hv => h1 v (List.mem_cons_of_mem _ hv)) fun y hy => h2 y (List.mem_cons_of_mem _ hy), h2 z (List.mem_cons_self ..) a e1]
open Classical in
theorem kx_sortS (K : PySem.W.Frag) {s : Sh} (hs : s = .i ∨ ∃ s', s = .t s') {X : Cx} (hu : X.A.units + 64 < cLine) (hd : s.dep ≤ 8 := by decide) (hK : X.K = K := by rfl) : CallR X (.builtin "sorted") (rSortS K s) := by
  subst hK
  intro pins sa σ H vs us Q I r h
  obtain ⟨a, Z, F, rfl, hl0, ex, hz, q⟩ := h
  obtain ⟨its, rv, hl, hsz⟩ := I.list hl0
  rw [Vals.ref1 r]
  have refs : ∀ x ∈ Z.map (·.1), ∃ a, x = V.ref a := fun x hx => by
    obtain ⟨z, hz', rfl⟩ := List.mem_map.mp hx
    obtain ⟨r1, ⟨xs, e, _⟩, _⟩ := hz z hz'
    rw [e] at r1
    generalize z.1 = v at r1
    cases r1 with
    | t st ra => exact ⟨_, rfl⟩
  obtain ⟨e1, e2⟩ := refs_back rv refs
  have kdef : ∃ kv : Value → D, (∀ v, hasSh (.t s) (kv v)) ∧ ∀ z ∈ Z, ∀ t, z.1 = .ref t → isS (.t s) sa.heap (.ref t) (kv (.ref t)) ∧ kv (.ref t) = z.2 := by
    refine ⟨fun u => if h : ∃ d, isS (.t s) sa.heap u d then Classical.choose h else .t [], fun v => ?_, fun z hz' t et => ?_⟩
    · by_cases c : ∃ d, isS (.t s) sa.heap v d
      · show hasSh (.t s) (if h : ∃ d, isS (.t s) sa.heap v d then Classical.choose h else .t [])
        rw [dif_pos c]
        exact isS_sh (Classical.choose_spec c)
      · show hasSh (.t s) (if h : ∃ d, isS (.t s) sa.heap v d then Classical.choose h else .t [])
        rw [dif_neg c]
        exact ⟨[], rfl, fun x hx => by cases hx⟩
    · obtain ⟨r1, sh, _⟩ := hz z hz'
      rw [et] at r1
      have x := is_of I ex (.t s) (.ref t) (.ref t) z.2 sh r1 rfl
      have c : ∃ d, isS (.t s) sa.heap (.ref t) d := ⟨_, x⟩
      show isS (.t s) sa.heap (.ref t) (if h : ∃ d, isS (.t s) sa.heap (.ref t) d then Classical.choose h else .t []) ∧ (if h : ∃ d, isS (.t s) sa.heap (.ref t) d then Classical.choose h else .t []) = z.2
      rw [dif_pos c]
      exact ⟨Classical.choose_spec c, isS_det (Classical.choose_spec c) x⟩
  obtain ⟨kv, ksh, hk⟩ := kdef
  have own : ∀ v ∈ its, isS (.t s) sa.heap v (kv v) ∧ kv v ≠ .t [] := fun v hv => by
    obtain ⟨t, rfl⟩ := e2 v hv
    have hm : V.ref t ∈ Z.map (·.1) := by rw [e1]; exact List.mem_map.mpr ⟨_, hv, rfl⟩
    obtain ⟨z, hz', ez⟩ := List.mem_map.mp hm
    obtain ⟨k1, k2⟩ := hk z hz' t ez
    exact ⟨k1, by rw [k2]; exact (hz z hz').2.2⟩
  refine sorted_ord ((tot (.t s)).swo kv ksh) hl.isList (by rw [← rv.length]; exact hsz) (fun h2 h1 b hb kk => ?_) fun out hs1 hb => ?_
  · refine tups_sortable hs (by show X.A.units + 1 + 1 + s.dep < cLine; omega) (by omega) fun h' keep v hv => ?_
    obtain ⟨x, ne⟩ := own v hv
    exact ⟨isS_keep x fun c o q => keep c o (kk c o q).1 (kk c o q).2, ne⟩
  · have h3 : ∀ u ∈ out, ∃ a, u = Value.ref a := fun u hu => e2 u (hb.perm.mem_iff.mp hu)
    have pm : (out.map backV).Perm (Z.map (·.1)) := by
      rw [e1]
      exact hb.perm.map backV
    obtain ⟨Z', q1, q2⟩ := DO.perm_lift _ pm
    have sn := sndsD (kv := kv) q2 h3 fun z hz' t et => (hk z (q1.mem_iff.mp hz') t et).2
    have pw : (Z'.map (·.2)).Pairwise (fun x y => ltS (.t s) y x = false) := by
      rw [sn, List.pairwise_map]
      exact hs1
    obtain ⟨n, hn⟩ := sortedAll_at sa.heap its out.toArray
    have len : (out.map backV).length ≤ sizeLine := by
      rw [pm.length_eq]
      exact hsz
    have rvo : Vals (Z'.map (·.1)) out := by
      rw [q2]
      exact vals_back h3
    refine ⟨.ref _, upd H (sa.heap.objs.size + 1) (.lst (Z'.map (·.1))), I.laid (t' := sa.toks) (fun _ _ => sortedAll_old) (Nat.le_succ _) ⟨by rw [q2]; exact len, out, n, rvo, by simpa using hn⟩, rfl, q Z' _ q1 pw (I.hok.fresh (Nat.le_succ _))⟩
end
end SrtD
namespace FlC
variable [DL.TabsT]
open PySem DL ShM SrtD
abbrev F5 := Int × Int × Int × Int × Int
def t5 (f : F5) : D := .t [.i f.1, .i f.2.1, .i f.2.2.1, .i f.2.2.2.1, .i f.2.2.2.2]
def cellN (w s h c : Int) : List F5 := (List.range h.toNat).map fun (d : Nat) => (w, s, h, c, (d : Int))
def rowN (w s h : Int) : List F5 := (List.range w.toNat).flatMap fun (c : Nat) => cellN w s h c
def fullN (n w : Int) : List F5 := (List.range w.toNat).flatMap fun (s : Nat) => rowN w s (n / w)
def wsN (n : Int) : List Int := ((List.range n.toNat).filter fun (k : Nat) => decide (n % (1 + (k : Int)) = 0)).map fun (k : Nat) => 1 + (k : Int)
def canon (n : Int) : List F5 := (wsN n).flatMap (fullN n)
theorem ws_mem {n w : Int} : w ∈ wsN n ↔ 1 ≤ w ∧ w ≤ n ∧ n % w = 0 := by
  unfold wsN
  simp only [List.mem_map, List.mem_filter, List.mem_range, decide_eq_true_iff]
  constructor
  · rintro ⟨k, ⟨hk, z⟩, rfl⟩
    exact ⟨by omega, by omega, z⟩
  · rintro ⟨a, b, z⟩
    refine ⟨(w - 1).toNat, ⟨by omega, ?_⟩, by omega⟩
    rw [show 1 + (((w - 1).toNat : Nat) : Int) = w by omega]
    exact z
theorem cell_mem {w s h c : Int} {f : F5} : f ∈ cellN w s h c ↔ ∃ d, 0 ≤ d ∧ d < h ∧ f = (w, s, h, c, d) := by
  unfold cellN
  rw [List.mem_map]
  constructor
  · rintro ⟨d, hd, rfl⟩
    have := List.mem_range.mp hd
    exact ⟨d, by omega, by omega, rfl⟩
  · rintro ⟨d, a, b, rfl⟩
    exact ⟨d.toNat, List.mem_range.mpr (by omega), by rw [show ((d.toNat : Nat) : Int) = d by omega]⟩
theorem row_mem {w s h : Int} {f : F5} : f ∈ rowN w s h ↔ ∃ c d, (0 ≤ c ∧ c < w) ∧ 0 ≤ d ∧ d < h ∧ f = (w, s, h, c, d) := by
  unfold rowN
  rw [List.mem_flatMap]
  constructor
  · rintro ⟨c, hc, hf⟩
    have := List.mem_range.mp hc
    obtain ⟨d, a, b, rfl⟩ := cell_mem.mp hf
    exact ⟨c, d, by omega, a, b, rfl⟩
  · rintro ⟨c, d, ⟨a, b⟩, d0, d1, rfl⟩
    refine ⟨c.toNat, List.mem_range.mpr (by omega), ?_⟩
    rw [show ((c.toNat : Nat) : Int) = c by omega]
    exact cell_mem.mpr ⟨d, d0, d1, rfl⟩
theorem full_mem {n w : Int} {f : F5} : f ∈ fullN n w ↔ ∃ s c d, (0 ≤ s ∧ s < w) ∧ (0 ≤ c ∧ c < w) ∧ 0 ≤ d ∧ d < n / w ∧ f = (w, s, n / w, c, d) := by
  unfold fullN
  rw [List.mem_flatMap]
  constructor
  · rintro ⟨s, hs, hf⟩
    have := List.mem_range.mp hs
    obtain ⟨c, d, a, b, e, rfl⟩ := row_mem.mp hf
    exact ⟨s, c, d, by omega, a, b, e, rfl⟩
  · rintro ⟨s, c, d, ⟨a, b⟩, c0, d0, d1, rfl⟩
    refine ⟨s.toNat, List.mem_range.mpr (by omega), ?_⟩
    rw [show ((s.toNat : Nat) : Int) = s by omega]
    exact row_mem.mpr ⟨c, d, c0, d0, d1, rfl⟩
theorem canon_mem {n : Int} {f : F5} : f ∈ canon n ↔ ∃ w s c d, (1 ≤ w ∧ w ≤ n ∧ n % w = 0) ∧ (0 ≤ s ∧ s < w) ∧ (0 ≤ c ∧ c < w) ∧ 0 ≤ d ∧ d < n / w ∧ f = (w, s, n / w, c, d) := by
  unfold canon
  rw [List.mem_flatMap]
  constructor
  · rintro ⟨w, hw, hf⟩
    obtain ⟨s, c, d, a, b, d0, d1, e⟩ := full_mem.mp hf
    exact ⟨w, s, c, d, ws_mem.mp hw, a, b, d0, d1, e⟩
  · rintro ⟨w, s, c, d, hw, a, b, d0, d1, e⟩
    exact ⟨w, ws_mem.mpr hw, full_mem.mpr ⟨s, c, d, a, b, d0, d1, e⟩⟩
theorem divs {n w : Int} (hw : 1 ≤ w ∧ w ≤ n ∧ n % w = 0) : w * (n / w) = n ∧ 1 ≤ n / w ∧ n / w ≤ n := by
  obtain ⟨a, b, z⟩ := hw
  have h := Int.mul_ediv_add_emod n w
  have h2 : n / w ≤ n := Int.ediv_le_self _ (by omega)
  have h3 := Int.ediv_nonneg (show 0 ≤ n by omega) (show 0 ≤ w by omega)
  refine ⟨by omega, ?_, h2⟩
  rcases Int.lt_trichotomy (n / w) 0 with c | c | c
  · omega
  · rw [c] at h
    simp only [Int.mul_zero] at h
    omega
  · omega
theorem rest_rest {w s h : Int} (A : IsL w s h) (p : Pr) : rest w s h (rest w s h p) = rest w s h p := by
  obtain ⟨a, b, c, d⟩ := rest_range A p
  exact rest_self A a b c d
/-- the places of a shape and its half turn have rests of their own -/
def Own (L : List Pr) (w s h c d : Int) : Prop := ((dbl c d L).map (rest w s h)).Nodup
def okB (L : List Pr) (f : F5) : Bool := floorD L (t5 f)
theorem okB_iff {L : List Pr} {n : Int} {w s h c d : Int} (m : (w, s, h, c, d) ∈ canon n) (l : ((2 * L.length : Nat) : Int) = n) : okB L (w, s, h, c, d) = true ↔ Own L w s h c d := by
  obtain ⟨w', s', c', d', hw, s0, c0, d0, d1, e⟩ := canon_mem.mp m
  simp only [Prod.mk.injEq] at e
  obtain ⟨rfl, rfl, rfl, rfl, rfl⟩ := e
  obtain ⟨e1, e2, e3⟩ := divs hw
  show decide (okF L _ _ _ _ _) = true ↔ _
  rw [decide_eq_true_iff]
  have e4 : ((dbl c d L).length : Int) = w * (n / w) := by rw [dbl_len]; omega
  have e5 : 0 ≤ s ∧ s < w ∧ 1 ≤ n / w ∧ 0 ≤ c ∧ c < w ∧ 0 ≤ d ∧ d < n / w := by omega
  exact ⟨fun z => z.2.2, fun z => ⟨e5, e4, z⟩⟩
end FlC
namespace DO
open PySem PySem.Spec PyProof.Rows L2 Evl Lay ErrX DL
end DO
namespace K40
variable [DL.TabsT]
open PySem PySem.Spec PyProof.Rows L2 Evl Lay ErrX DL
def top (i : Nat) : Stmt := PySem.Challenge.pw_shovefloors_k40_whole_copies_in_turned_f.main.body.getD i (.Pass ⟨0, 0, 0, 0⟩)
structure Txt (mg : Str → Option Value) : Prop where
  z_ArithmeticError : mg "ArithmeticError" = none
  z_LookupError : mg "LookupError" = none
  z_ValueError : mg "ValueError" = none
  z_abs : mg "abs" = none
  z_all : mg "all" = none
  z_bool : mg "bool" = none
  z_divmod : mg "divmod" = none
  z_enumerate : mg "enumerate" = none
  z_int : mg "int" = none
  z_isinstance : mg "isinstance" = none
  z_len : mg "len" = none
  z_list : mg "list" = none
  z_max : mg "max" = none
  z_min : mg "min" = none
  z_range : mg "range" = none
  z_repr : mg "repr" = none
  z_set : mg "set" = none
  z_sorted : mg "sorted" = none
  z_tuple : mg "tuple" = none
  m_MOST_CELLS : ∃ t, mg "MOST_CELLS" = some (.int 24 t)
  m_MOST_PLACE : ∃ t, mg "MOST_PLACE" = some (.int 1000 t)
  m_MOST_TO_TURN : ∃ t, mg "MOST_TO_TURN" = some (.int 12 t)
section
variable {P : Program} {w : World} {K : PySem.W.Frag} {mg : Str → Option Value} {base : Heap}
abbrev s_sip : Stmt := top 50
abbrev N_sip : List Str := ["_law_pool", "_law_size", "_law_figure", "_law_state"]
abbrev P_sip : List Str := ["_law_pool", "_law_size"]
theorem sc_sip : FnScope N_sip P_sip (defScope s_sip) := ⟨rfl, rfl, rfl, by decide +kernel, rfl, by decide +kernel, by decide +kernel⟩
def spSipL : Sp := fun vs H Q _ => ∃ (j : Addr) (a b c top : Int), vs = [.ref j, .int top] ∧ H j = some (.lst [.int a, .int b, .int c]) ∧ (0 ≤ a ∧ 0 ≤ b ∧ b < 2147483648) ∧ 0 < top ∧ top < 2 ^ 250 ∧
  ∀ (r a' b' c' : Int) H', 0 ≤ r → r < top → (0 ≤ a' ∧ 0 ≤ b' ∧ b' < 2147483648) → Ex (upd H j (.lst [.int a', .int b', .int c'])) H' → Q (.int r) H'
section
variable {P : Program} {w : World} {K : PySem.W.Frag} {mg : Str → Option Value} {base : Heap}
theorem d_sip0 (D : DefIn K mg "_law_sip" s_sip P_sip) (T : Txt mg) : DefOk P w K mg base "_law_sip" 1 P_sip spSipL := by
  refine defok D sc_sip (fun vs H Q E h => ?_) (fun f cdv A outer s H vs Q E hr hg h => ?_)
  · obtain ⟨j, a, b, c, top, rfl, _⟩ := h
    rfl
  obtain ⟨j, a, b, c, top, rfl, hj, ⟨ha, hb0, hb1⟩, ht, ht2, k⟩ := h
  have SC := sc_sip
  refine ⟨_, (pss_cons (ps_if (pt_cmpR op_gt (pe_ix ix_list (pv 0) pe_int (fun _ _ => rfl)) pe_int (nomark _)) (pss_cons (ps_asg (pe_callB call_divmodW (by rfl) T.z_divmod (by decide +kernel) (pa_cons (pe_ix ix_list (pv 0) pe_int (fun _ _ => rfl)) (pa_cons (pv 1) pa_nil))) (pg_tup (by rfl) (pgs_cons (pg_sub (pv 0) pe_int set_list) (pgs_cons (pg_name (i := 2) SC.nd rfl (Or.inl rfl)) pgs_nil)))) (pss_one (ps_ret (pv 2)))) pss_nil) (pss_cons (ps_asg (pe_op op_add (pe_ix ix_list (pv 0) pe_int (fun _ _ => rfl)) pe_int) (pg_sub (pv 0) pe_int set_list)) (pss_cons (ps_set (i := 3) SC.nd rfl (Or.inl rfl) (pe_op op_modN (pe_callTy call_int1 (by rfl) T.z_int (by decide +kernel) (pa_cons (pe_op op_add (pe_op op_add (pe_op op_mul (pe_ix ix_list (pv 0) pe_int (fun _ _ => rfl)) (pe_op op_add pe_int (pe_op op_mul pe_int (pe_ix ix_list (pv 0) pe_int (fun _ _ => rfl))))) (pe_op op_mul pe_int (pe_ix ix_list (pv 0) pe_int (fun _ _ => rfl)))) pe_int) pa_nil)) pe_int)) (pss_cons (ps_asg (pe_op op_modN (pe_callTy call_int1 (by rfl) T.z_int (by decide +kernel) (pa_cons (pe_op op_add (pe_op op_add (pe_op op_mul (pv 3) pe_int) (pe_op op_mul pe_int (pe_ix ix_list (pv 0) pe_int (fun _ _ => rfl)))) pe_int) pa_nil)) pe_int) (pg_sub (pv 0) pe_int set_list)) (pss_one (ps_ret (pe_op op_modN (pe_callTy call_int1 (by rfl) T.z_int (by decide +kernel) (pa_cons (pe_op op_fdivN (pe_ix ix_list (pv 0) pe_int (fun _ _ => rfl)) pe_int) pa_nil)) (pv 1)))))))), ?_⟩
  refine q_when (et_test (ev_op (ev_op (ev_var rfl) ev_c (rv_ixL (K := K) (sq_of hj) rfl)) ev_c rv_I0)) (fun hb H2 e2 => ?_) (fun hb H2 e2 => ?_)
  · have hpos : 0 < a := of_decide_eq_true hb
    have j2 := e2 j _ hj
    refine q_asgGU (eu_dmW (i := a) (j := top) (ea_cons (ev_op (ev_var rfl) ev_c (rv_ixL (K := K) (sq_of j2) rfl)) (ea_cons (ev_var rfl) ea_nil)) (cdivP ht ht2)) fun p H3 hp e3 h3 => ?_
    have j3 := e3 j _ j2
    refine g_tup (st_of h3) rfl (g_cons (g_setL j3 (ev_var rfl) ev_c (j := 0) (by show 0 < 3; decide) fun H4 e4 => g_cons (g_name (g_nil ?_))))
    refine s_ret (ev_var rfl) fun H5 e5 => ?_
    refine k (a % top) (a / top) b c H5 (Int.emod_nonneg _ (by omega)) (Int.emod_lt_of_pos _ ht) ⟨Int.ediv_nonneg ha (by omega), hb0, hb1⟩ ?_
    exact ExM.fin (j := j) (((((Ex.m e2).trans (Ex.m e3)).trans (Ex.m e4)).upd).trans (Ex.m e5)) (e5 _ _ upd_same)
  · have j2 := e2 j _ hj
    refine q_setL j2 (ev_op (ev_op (ev_var rfl) ev_c (rv_ixL (K := K) (sq_of j2) rfl)) ev_c rv_I0) (ev_var rfl) ev_c (j := 2) (by show 2 < 3; decide) fun H3 e3 => ?_
    have j3 : (upd H3 j (.lst ([V.int a, V.int b, V.int c].set 2 (V.int (c + 1))))) j = some (.lst [V.int a, V.int b, V.int (c + 1)]) := upd_same
    have ix : ∀ {σ : L2.St} {H4 : Hp} {m : Nat} {x : V}, Ex (upd H3 j (.lst ([V.int a, V.int b, V.int c].set 2 (V.int (c + 1))))) H4 → σ[0]? = some (some (.ref j)) → [V.int a, V.int b, V.int (c + 1)][m]? = some x → Ev (tOp (rIxL K) (tVar 0) (tC (.int (m : Int)))) σ H4 x := fun e h hx => ev_op (ev_var h) ev_c (rv_ixL (sq_of (e _ _ j3)) (atI_nat hx))
    refine q_asg (v := .int ((b * (51001 + 2 * (c + 1)) + 4013 * (c + 1) + 23).fmod 2147483543)) (ev_op (ev_int1 (ev_op (ev_op (ev_op (ix (m := 1) (Ex.refl _) rfl rfl) (ev_op ev_c (ev_op ev_c (ix (m := 2) (Ex.refl _) rfl rfl) (rv_I (.inl (by omega)))) rv_I0) (rv_I (.inl (by omega)))) (ev_op ev_c (ix (m := 2) (Ex.refl _) rfl rfl) (rv_I (.inl (by omega)))) rv_I0) ev_c rv_I0)) ev_c (rv_I (by decide))) fun H4 e4 => ?_
    have s1 : 0 ≤ (b * (51001 + 2 * (c + 1)) + 4013 * (c + 1) + 23).fmod 2147483543 := Int.fmod_nonneg_of_pos _ (by decide)
    have s2 : (b * (51001 + 2 * (c + 1)) + 4013 * (c + 1) + 23).fmod 2147483543 < 2147483543 := Int.fmod_lt_of_pos _ (by decide)
    have j4 := e4 _ _ j3
    generalize (b * (51001 + 2 * (c + 1)) + 4013 * (c + 1) + 23).fmod 2147483543 = z at s1 s2
    refine q_setL (v := .int ((z * 39019 + 17 * (c + 1) + 9).fmod 2147483489)) (j := 1) j4 (ev_op (ev_int1 (ev_op (ev_op (ev_op (ev_var rfl) ev_c (rv_I (.inr (by omega)))) (ev_op ev_c (ix (m := 2) e4 rfl rfl) (rv_I (.inl (by omega)))) rv_I0) ev_c rv_I0)) ev_c (rv_I (by decide))) (ev_var rfl) ev_c (by show 1 < 3; decide) fun H5 e5 => ?_
    have j5 : (upd H5 j (.lst ([V.int a, V.int b, V.int (c + 1)].set 1 (V.int ((z * 39019 + 17 * (c + 1) + 9).fmod 2147483489))))) j = some (.lst [V.int a, V.int ((z * 39019 + 17 * (c + 1) + 9).fmod 2147483489), V.int (c + 1)]) := upd_same
    have t1 : 0 ≤ (z * 39019 + 17 * (c + 1) + 9).fmod 2147483489 := Int.fmod_nonneg_of_pos _ (by decide)
    have t2 : (z * 39019 + 17 * (c + 1) + 9).fmod 2147483489 < 2147483489 := Int.fmod_lt_of_pos _ (by decide)
    generalize (z * 39019 + 17 * (c + 1) + 9).fmod 2147483489 = y at j5 t1 t2
    refine s_ret (ev_op (ev_int1 (ev_op (ev_op (ev_var rfl) ev_c (rv_ixL (K := K) (sq_of j5) rfl)) ev_c (rv_I ⟨by decide, by decide⟩))) (ev_var rfl) (rv_I (by omega))) fun H6 e6 => ?_
    refine k _ a y (c + 1) H6 (Int.fmod_nonneg_of_pos _ ht) (Int.fmod_lt_of_pos _ ht) ⟨ha, t1, by omega⟩ ?_
    exact ExM.fin (j := j) (((((Ex.m e2).trans (Ex.m e3)).upd.trans (Ex.m e4)).trans (Ex.m e5)).upd.trans (Ex.m e6)) (e6 _ _ j5)
def spSip : Sp := fun vs H Q _ => ∃ (j : Addr) (top : Int), vs = [.ref j, .int top] ∧ H j = some (poolO j) ∧ 0 < top ∧ top < 2 ^ 250 ∧ ∀ (r : Int) H', 0 ≤ r → r < top → Ex H H' → Q (.int r) H'
theorem r_sip (D : DefIn K mg "_law_sip" s_sip P_sip) (T : Txt mg) : DefOk P w K mg base "_law_sip" 1 P_sip spSip := by
  refine (d_sip0 D T).gst (fun vs H Q E h => ?_) (fun vs H Q E hp h hok => ?_)
  · obtain ⟨j, top, rfl, _⟩ := h
    rfl
  · obtain ⟨j, top, rfl, hj, h1, h2, k⟩ := h
    obtain ⟨a, b, c, ha, g⟩ := tri_open (R := RPool) hj hok
    refine ⟨_, g, j, a, b, c, top, rfl, upd_same, ha, h1, h2, fun r a' b' c' H' r1 r2 ha' e => ?_⟩
    rw [upd_upd] at e
    have hj' := e j _ upd_same
    exact ⟨_, fun hp' => tri_close (R := RPool) hj' ha', k r _ r1 r2 (ex_tri hj e)⟩
abbrev s_origin : Stmt := top 49
abbrev N_origin : List Str := ["_law_script", "_law_turn", "_law_own", "_law_state", "_law_each"]
abbrev P_origin : List Str := ["_law_script", "_law_turn"]
theorem sc_origin : FnScope N_origin P_origin (defScope s_origin) := ⟨rfl, rfl, rfl, by decide +kernel, rfl, by decide +kernel, by decide +kernel⟩
def spOriginL (K : PySem.W.Frag) : Sp := fun vs H Q _ => ∃ (a : Addr) (ns : List Int) (n : Nat), vs = [.ref a, .int (n : Int)] ∧ SqL K H a (ns.map V.int) ∧ ns.length ≤ 63 ∧ n ≤ 100 ∧ (∀ z ∈ ns, Builtin.Int.intBits z ≤ 1048576) ∧
  ∀ (p : Addr) (x y : Int) H', H p = none → (0 ≤ x ∧ 0 ≤ y ∧ y < 2147483648) → Ex H H' → H' p = some (.lst [.int x, .int y, .int 0]) → Q (.ref p) H'
theorem d_origin0 (D : DefIn K mg "_law_origin" s_origin P_origin) (T : Txt mg) : DefOk P w K mg base "_law_origin" 1 P_origin (spOriginL K) := by
  refine defok D sc_origin (fun vs H Q E h => ?_) (fun f cdv A outer s H vs Q E hr hg h => ?_)
  · obtain ⟨a, ns, n, rfl, _⟩ := h
    rfl
  obtain ⟨a, ns, n, rfl, hs, l1, l2, hbits, k⟩ := h
  have SC := sc_origin
  refine ⟨_, (pss_cons (ps_set (i := 2) SC.nd rfl (Or.inl rfl) (pe_ifExp (pt_cmpR op_lt (pv 1) (pe_callB call_len (by rfl) T.z_len (by decide +kernel) (pa_cons (pv 0) pa_nil)) (nomark _)) (pe_ix ix_list (pv 0) (pv 1) (fun _ _ => rfl)) pe_int)) (pss_cons (ps_set (i := 3) SC.nd rfl (Or.inl rfl) (pe_op op_add pe_int (pe_op op_mul pe_int (pv 1)))) (pss_cons (ps_for PassesOwn.never rfl (pi_list (pe_slice sl_list (pv 0) po_none (po_some pe_int))) (pg_name (i := 4) SC.nd rfl (Or.inl rfl)) (pss_one (ps_set (i := 3) SC.nd rfl (Or.inl rfl) (pe_op op_modN (pe_callTy call_int1 (by rfl) T.z_int (by decide +kernel) (pa_cons (pe_op op_add (pe_op op_add (pe_op op_mul (pv 3) pe_int) (pe_op op_mul (pv 4) pe_int)) pe_int) pa_nil)) pe_int)))) (pss_one (ps_ret (pe_lst (pa_cons (pe_ifExp (PW.pt (pw_or (pt_cmpR op_lt (pv 2) pe_int (nomark _)) (pw_or1 (pt_cmpR op_ge (pv 2) (pe_op op_pow pe_int pe_int) (nomark _))))) (pe_callB call_abs (by rfl) T.z_abs (by decide +kernel) (pa_cons (pv 2) pa_nil)) pe_int) (pa_cons (pe_op op_modN (pe_callTy call_int1 (by rfl) T.z_int (by decide +kernel) (pa_cons (pe_op op_add (pe_op op_add (pe_op op_mul (pv 3) pe_int) (pe_op op_mulX (pv 2) (pv 2))) (pe_op op_mul pe_int (pv 1))) pa_nil)) pe_int) (pa_cons pe_int pa_nil))))))))), ?_⟩
  refine q_asgP (P := fun v _ => ∃ c : Int, Builtin.Int.intBits c ≤ 1048576 ∧ v = .int c) (evp_if (et_test (ev_op (ev_var rfl) (ev_cb (ea_cons (ev_var rfl) ea_nil) (rc_lenL hs)) rv_I0)) (fun hb => ?_) fun hb => ?_) fun v H1 e1 p => ?_
  · have hn : n < (ns.map V.int).length := by
      have := of_decide_eq_true hb
      omega
    have hn2 : n < ns.length := by simpa using hn
    have hv : (ns.map V.int)[n]? = some (.int ns[n]) := by
      rw [List.getElem?_map, List.getElem?_eq_getElem hn2]
      rfl
    exact Ev.pp (ev_op (ev_var rfl) (ev_var rfl) (rv_ixL hs (atI_nat hv))) fun _ _ => ⟨_, hbits _ (List.getElem_mem hn2), rfl⟩
  · exact Ev.pp ev_c fun _ _ => ⟨_, by decide, rfl⟩
  obtain ⟨c, hc, rfl⟩ := p
  refine q_asg (ev_op ev_c (ev_op ev_c (ev_var rfl) (rv_I (.inl (by omega)))) rv_I0) fun H2 e2 => ?_
  have hs2 := ex_l (e1.trans e2) hs
  have all : ∀ v ∈ cutV (ns.map V.int) none (some 5), ∃ i : Int, v = .int i := fun v hv => by
    obtain ⟨i, _, rfl⟩ := List.mem_map.mp (cutV_mem hv)
    exact ⟨i, rfl⟩
  refine q_forNLn (xs := cutV (ns.map V.int) none (some 5)) (el_sl (ev_var rfl) eo_none (eo_some ev_c) hs2)
    (fun p i σ' H' => Ex H H' ∧ H p = none ∧ H' p = some (.lst (cutV (ns.map V.int) none (some 5))) ∧ ∃ (m : Int) (z : Option V), σ' = [some (.ref a), some (.int (n : Int)), some (.int c), some (.int m), z]) (fun p H3 hp e3 h3 => ?_) (fun p i σ' H' _ q => sq_of q.2.2.1) (fun p i x σ' H' hx q => ?_) fun p σ' H' q => ?_
  · exact ⟨(e1.trans e2).trans e3, fresh_back (e1.trans e2) hp, h3, _, none, rfl⟩
  · obtain ⟨e3, hp, h3, m, z, rfl⟩ := q
    obtain ⟨y, rfl⟩ := all x (List.mem_of_getElem? hx)
    refine s_asg (ev_op (ev_int1 (ev_op (ev_op (ev_op (ev_var rfl) ev_c (rv_I (.inr (by omega)))) (ev_op (ev_var rfl) ev_c (rv_I (.inr (by omega)))) rv_I0) ev_c rv_I0)) ev_c (rv_I (by decide))) fun H4 e4 => ?_
    exact ⟨e3.trans e4, hp, e4 _ _ h3, _, _, rfl⟩
  · obtain ⟨e3, hp, h3, m, z, rfl⟩ := q
    have cond : EvT (tOr (tTest (tOp (rI0 fun i j => V.bl (decide (i < j))) (tVar 2) (tC (V.int 0)))) (tTest (tOp (rI0 fun i j => V.bl (decide (j ≤ i))) (tVar 2) (tOp (rI CPow fun i j => V.int (i ^ j.toNat)) (tC (V.int 10)) (tC (V.int 18))))))
        [some (.ref a), some (.int (n : Int)), some (.int c), some (.int m), z] H' (decide (c < 0) || decide ((10 : Int) ^ (18 : Int).toNat ≤ c)) :=
      et_or (et_test (ev_op (ev_var rfl) ev_c rv_I0)) fun _ => et_test (ev_op (ev_var rfl) (ev_op ev_c ev_c (rv_I ⟨by decide, by decide, by decide⟩)) rv_I0)
    refine s_retL (xs := [.int (if (decide (c < 0) || decide ((10 : Int) ^ (18 : Int).toNat ≤ c)) = true then (if c < 0 then -c else c) else 0), .int ((m * 89 + c * c + 59 * (n : Int)).fmod 2147483543), .int 0]) (el_lst (ea_cons (ev_if cond (fun hb => ?_) fun hb => ?_) (ea_cons (ev_op (ev_int1 (ev_op (ev_op (ev_op (ev_var rfl) ev_c (rv_I (.inr (by omega)))) (ev_op (ev_var rfl) (ev_var rfl) (rv_I (C := CMulX) (g := fun i j => .int (i * j)) ?_)) rv_I0) (ev_op ev_c (ev_var rfl) (rv_I (.inl (by omega)))) rv_I0)) ev_c (rv_I (by decide))) (ea_cons ev_c ea_nil))) (by show 3 ≤ 100000; decide)) fun p' H4 hp' e4 h4 => ?_
    · rw [if_pos hb]
      exact ev_cb (ea_cons (ev_var rfl) ea_nil) rc_abs
    · rw [if_neg (by rw [hb]; decide)]
      exact ev_c
    · unfold CMulX
      omega
    · have s1 : 0 ≤ (m * 89 + c * c + 59 * (n : Int)).fmod 2147483543 := Int.fmod_nonneg_of_pos _ (by decide)
      have s2 : (m * 89 + c * c + 59 * (n : Int)).fmod 2147483543 < 2147483543 := Int.fmod_lt_of_pos _ (by decide)
      refine k p' _ _ H4 (fresh_back e3 hp') ⟨?_, s1, by omega⟩ (e3.trans e4) h4
      split
      · split <;> omega
      · exact Int.le_refl _
def spOrigin (K : PySem.W.Frag) : Sp := fun vs H Q _ => ∃ (a : Addr) (ns : List Int) (n : Nat), vs = [.ref a, .int (n : Int)] ∧ SqL K H a (ns.map V.int) ∧ ns.length ≤ 63 ∧ n ≤ 100 ∧ (∀ z ∈ ns, Builtin.Int.intBits z ≤ 1048576) ∧
  ∀ (p : Addr) H', H p = none → Ex H H' → H' p = some (poolO p) → Q (.ref p) H'
theorem r_origin (D : DefIn K mg "_law_origin" s_origin P_origin) (T : Txt mg) : DefOk P w K mg base "_law_origin" 1 P_origin (spOrigin K) := by
  refine (d_origin0 D T).gst (fun vs H Q E h => ?_) (fun vs H Q E hp h hok => ?_)
  · obtain ⟨a, ns, n, rfl, _⟩ := h
    rfl
  · obtain ⟨a, ns, n, rfl, hs, l1, l2, hb, k⟩ := h
    refine ⟨H, Gst.refl H, a, ns, n, rfl, hs, l1, l2, hb, fun p x y H' hp hx e h => ?_⟩
    refine ⟨_, fun hp' => tri_close (R := RPool) h hx, k p _ hp (fun b o q => ?_) upd_same⟩
    rw [upd_ne (ne_of_none q hp)]
    exact e b o q
end
section
variable {P : Program} {w : World} {K : PySem.W.Frag} {mg : Str → Option Value} {base : Heap}
def S_sip : List D → (D → Prop) → Prop := fun ds Q => match ds with
  | [.p 0, .i top] => (0 < top ∧ top < 2 ^ 250) ∧ ∀ r : Int, 0 ≤ r → r < top → Q (.i r)
  | _ => False
theorem d_sip (D : DefIn K mg "_law_sip" s_sip P_sip) (T : Txt mg) : DefOk P w K mg base "_law_sip" 1 P_sip (spD K S_sip) := (r_sip D T).imp fun vs H Q E ⟨F, ds, P, e, ra, s, q⟩ => by
  unfold S_sip at s
  split at s
  · rename_i top
    cases ra with
    | cons a ra =>
      cases ra with
      | cons b ra =>
        cases ra
        cases b
        cases a with
        | @p a _ hj => exact ⟨a, top, rfl, e.1 _ _ hj, s.1.1, s.1.2, fun r H' r1 r2 x => q _ _ F H' (s.2 r r1 r2) (Ext.heap e.1 x) (.i r)⟩
  · exact s.elim
def S_origin : List D → (D → Prop) → Prop := fun ds Q => match ds with
  | [.c ns, .i n] => ((ns.length ≤ 63 ∧ ∀ z ∈ ns, Builtin.Int.intBits z ≤ 1048576) ∧ 0 ≤ n ∧ n ≤ 100) ∧ Q (.p 0)
  | _ => False
theorem d_origin (D : DefIn K mg "_law_origin" s_origin P_origin) (T : Txt mg) : DefOk P w K mg base "_law_origin" 1 P_origin (spD K S_origin) := (r_origin D T).imp fun vs H Q E ⟨F, ds, P, e, ra, s, q⟩ => by
  unfold S_origin at s
  split at s
  · rename_i ns n
    obtain ⟨⟨⟨s1, sb⟩, s2, s3⟩, s4⟩ := s
    obtain ⟨m, rfl⟩ := Int.eq_ofNat_of_zero_le s2
    cases ra with
    | cons a ra =>
      cases ra with
      | cons b ra =>
        cases ra
        cases b
        cases a with
        | @c a _ hs => exact ⟨a, ns, m, rfl, ex_l e.1 hs, s1, by omega, sb, fun p H' hp x hj => q _ _ (upd F p (triO (RK 0) p)) H' s4 ⟨Ex.new (fresh_back e.1 hp), ExT.of x, ex_told (e.1.trans x) hj, (TabG.of x).told, fun a o z n => by
            by_cases y : a = p
            · rw [y]
              exact .of hp
            · rw [upd_ne y, n] at z
              cases z⟩ (.p 0 upd_same)⟩
  · exact s.elim
end
end
end K40
namespace K40
variable [DL.TabsT]
open PySem PySem.Spec PyProof.Rows L2 Evl Lay ErrX DL TE DO ShM
abbrev Pr := Int × Int
abbrev s_is_int : Stmt := top 19
abbrev N_is_int : List Str := ["value"]
abbrev P_is_int : List Str := ["value"]
theorem sc_is_int : FnScope N_is_int P_is_int (defScope s_is_int) := ⟨rfl, rfl, rfl, by decide +kernel, rfl, by decide +kernel, by decide +kernel⟩
abbrev s_is_ints : Stmt := top 20
abbrev N_is_ints : List Str := ["value", "many", "part"]
abbrev P_is_ints : List Str := ["value", "many"]
theorem sc_is_ints : FnScope N_is_ints P_is_ints (defScope s_is_ints) := ⟨rfl, rfl, rfl, by decide +kernel, rfl, by decide +kernel, by decide +kernel⟩
abbrev s_is_pair : Stmt := top 21
abbrev N_is_pair : List Str := ["value"]
abbrev P_is_pair : List Str := ["value"]
theorem sc_is_pair : FnScope N_is_pair P_is_pair (defScope s_is_pair) := ⟨rfl, rfl, rfl, by decide +kernel, rfl, by decide +kernel, by decide +kernel⟩
abbrev s_is_place : Stmt := top 22
abbrev N_is_place : List Str := ["value"]
abbrev P_is_place : List Str := ["value"]
theorem sc_is_place : FnScope N_is_place P_is_place (defScope s_is_place) := ⟨rfl, rfl, rfl, by decide +kernel, rfl, by decide +kernel, by decide +kernel⟩
abbrev s_is_lattice : Stmt := top 23
abbrev N_is_lattice : List Str := ["value"]
abbrev P_is_lattice : List Str := ["value"]
theorem sc_is_lattice : FnScope N_is_lattice P_is_lattice (defScope s_is_lattice) := ⟨rfl, rfl, rfl, by decide +kernel, rfl, by decide +kernel, by decide +kernel⟩
abbrev s_first_wrong : Stmt := top 24
abbrev N_first_wrong : List Str := ["values", "most", "seen", "index", "value"]
abbrev P_first_wrong : List Str := ["values", "most"]
theorem sc_first_wrong : FnScope N_first_wrong P_first_wrong (defScope s_first_wrong) := ⟨rfl, rfl, rfl, by decide +kernel, rfl, by decide +kernel, by decide +kernel⟩
abbrev s_is_nonempty : Stmt := top 25
abbrev N_is_nonempty : List Str := ["value"]
abbrev P_is_nonempty : List Str := ["value"]
theorem sc_is_nonempty : FnScope N_is_nonempty P_is_nonempty (defScope s_is_nonempty) := ⟨rfl, rfl, rfl, by decide +kernel, rfl, by decide +kernel, by decide +kernel⟩
abbrev s_check_cells : Stmt := top 26
abbrev N_check_cells : List Str := ["cells", "index"]
abbrev P_check_cells : List Str := ["cells"]
theorem sc_check_cells : FnScope N_check_cells P_check_cells (defScope s_check_cells) := ⟨rfl, rfl, rfl, by decide +kernel, rfl, by decide +kernel, by decide +kernel⟩
abbrev s_from_zero : Stmt := top 29
abbrev N_from_zero : List Str := ["cells", "left", "x", "y", "top"]
abbrev P_from_zero : List Str := ["cells"]
theorem sc_from_zero : FnScope N_from_zero P_from_zero (defScope s_from_zero) := ⟨rfl, rfl, rfl, by decide +kernel, rfl, by decide +kernel, by decide +kernel⟩
abbrev s_check_shape : Stmt := top 34
abbrev N_check_shape : List Str := ["shape"]
abbrev P_check_shape : List Str := ["shape"]
theorem sc_check_shape : FnScope N_check_shape P_check_shape (defScope s_check_shape) := ⟨rfl, rfl, rfl, by decide +kernel, rfl, by decide +kernel, by decide +kernel⟩
abbrev s_rest_of : Stmt := top 36
abbrev N_rest_of : List Str := ["lattice", "cell", "wide", "slip", "high", "x", "y"]
abbrev P_rest_of : List Str := ["lattice", "cell"]
theorem sc_rest_of : FnScope N_rest_of P_rest_of (defScope s_rest_of) := ⟨rfl, rfl, rfl, by decide +kernel, rfl, by decide +kernel, by decide +kernel⟩
abbrev s_holds_each_once : Stmt := top 37
abbrev N_holds_each_once : List Str := ["lattice", "cells", "wide", "_", "high", "cell"]
abbrev P_holds_each_once : List Str := ["lattice", "cells"]
theorem sc_holds_each_once : FnScope N_holds_each_once P_holds_each_once (defScope s_holds_each_once) := ⟨rfl, rfl, rfl, by decide +kernel, rfl, by decide +kernel, by decide +kernel⟩
abbrev s_both_cells : Stmt := top 42
abbrev N_both_cells : List Str := ["shape", "floor", "c", "d", "x", "y"]
abbrev P_both_cells : List Str := ["shape", "floor"]
theorem sc_both_cells : FnScope N_both_cells P_both_cells (defScope s_both_cells) := ⟨rfl, rfl, rfl, by decide +kernel, rfl, by decide +kernel, by decide +kernel⟩
abbrev s_check_cell : Stmt := top 27
abbrev N_check_cell : List Str := ["cell"]
abbrev P_check_cell : List Str := ["cell"]
theorem sc_check_cell : FnScope N_check_cell P_check_cell (defScope s_check_cell) := ⟨rfl, rfl, rfl, by decide +kernel, rfl, by decide +kernel, by decide +kernel⟩
abbrev s_holder : Stmt := top 38
abbrev N_holder : List Str := ["lattice", "cells", "cell", "index", "own", "x", "y"]
abbrev P_holder : List Str := ["lattice", "cells", "cell"]
theorem sc_holder : FnScope N_holder P_holder (defScope s_holder) := ⟨rfl, rfl, rfl, by decide +kernel, rfl, by decide +kernel, by decide +kernel⟩
abbrev s_lattices_with : Stmt := top 39
abbrev N_lattices_with : List Str := ["many", "wide", "slip"]
abbrev P_lattices_with : List Str := ["many"]
theorem sc_lattices_with : FnScope N_lattices_with P_lattices_with (defScope s_lattices_with) := ⟨rfl, rfl, rfl, by decide +kernel, rfl, by decide +kernel, by decide +kernel⟩
abbrev s_is_floor : Stmt := top 43
abbrev N_is_floor : List Str := ["shape", "floor"]
abbrev P_is_floor : List Str := ["shape", "floor"]
theorem sc_is_floor : FnScope N_is_floor P_is_floor (defScope s_is_floor) := ⟨rfl, rfl, rfl, by decide +kernel, rfl, by decide +kernel, by decide +kernel⟩
abbrev s_has_form : Stmt := top 44
abbrev N_has_form : List Str := ["value"]
abbrev P_has_form : List Str := ["value"]
theorem sc_has_form : FnScope N_has_form P_has_form (defScope s_has_form) := ⟨rfl, rfl, rfl, by decide +kernel, rfl, by decide +kernel, by decide +kernel⟩
abbrev s_is_turned_floor : Stmt := top 46
abbrev N_is_turned_floor : List Str := ["shape", "floor"]
abbrev P_is_turned_floor : List Str := ["shape", "floor"]
theorem sc_is_turned_floor : FnScope N_is_turned_floor P_is_turned_floor (defScope s_is_turned_floor) := ⟨rfl, rfl, rfl, by decide +kernel, rfl, by decide +kernel, by decide +kernel⟩
/-- a lattice, as asked -/
def IsLat (w s h : Int) : Prop := 0 < w ∧ w ≤ 100 ∧ 0 ≤ s ∧ s < w ∧ 0 < h ∧ h ≤ 100
theorem IsLat.isL {w s h : Int} (L : IsLat w s h) : IsL w s h := ⟨L.1, L.2.2.1, L.2.2.2.1, L.2.2.2.2.1⟩
/-- a place, near -/
def Place (p : Int × Int) : Prop := -1000 ≤ p.1 ∧ p.1 ≤ 1000 ∧ -1000 ≤ p.2 ∧ p.2 ≤ 1000
def CellsOk (ss : List Pr) : Prop := ss.Nodup ∧ (∀ p ∈ ss, Place p) ∧ ss.length ≤ 24
section
variable {P : Program} {w : World} {K : PySem.W.Frag} {mg : Str → Option Value} {base : Heap} {CS : Addr}
def S_is_int : List D → (D → Prop) → Prop := fun ds Q => match ds with
  | [.i _] => Q (.b true)
  | [.b _] => Q (.b false)
  | [x] => plainD x = true ∧ Q (.b false)
  | _ => False
theorem len_is_int : ∀ ds P, S_is_int ds P → ds.length = P_is_int.length := fun ds P h => by
  unfold S_is_int at h
  split at h <;> first | rfl | exact h.elim
theorem d_is_int (Df : DefIn K mg "is_int" s_is_int P_is_int) (T : Txt mg) : DOk P w K mg base "is_int" s_is_int 1 P_is_int S_is_int := by
  have SC := sc_is_int
  refine dok (k := 0) Df sc_is_int (len_is_int) (body := fun f cdv A outer s H E hr hg => ⟨_, _, (pss_one (ps_ret (pe_and (pe_callB (kx_isi K) (by rfl) T.z_isinstance (by decide +kernel) (pa_cons (pv 0) (pa_cons (pe_gty T.z_int PyProof.Rows.Boot.«int») pa_nil))) (pe_one (pe_not (pe_callB (kx_isi K) (by rfl) T.z_isinstance (by decide +kernel) (pa_cons (pv 0) (pa_cons (pe_gty T.z_bool PyProof.Rows.Boot.«bool») pa_nil)))))))), (s_ret (e_andV (e_isi (fun _ _ => tab_int) e_var) (e_notV (e_isi (fun _ _ => tab_bool) e_var)))), ?_⟩)
  clear hr hg
  intro ds Q h
  unfold S_is_int at h
  split at h
  · exact ⟨fun _ => h, fun z => nomatch z⟩
  · exact ⟨fun _ => h, fun z => nomatch z⟩
  · rename_i x n1 n2
    obtain ⟨nv, h⟩ := h
    cases x with
    | i v => exact (n1 v rfl).elim
    | b v => exact (n2 v rfl).elim
    | o _ _ _ => cases nv
    | j => cases nv
    | p _ => cases nv
    | c _ => cases nv
    | T _ => cases nv
    | r _ _ _ _ => cases nv
    | _ => exact ⟨(fun z => nomatch z), fun _ => h⟩
  · exact h.elim
theorem is_int_of {x : D} {Q : D → Prop} (n : plainD x = true) (q : Q (.b (isIntD x))) : S_is_int [x] Q := by
  cases x <;> first | exact q | exact ⟨n, q⟩ | (cases n; done)
def S_is_ints : List D → (D → Prop) → Prop := fun ds Q => match ds with
  | [x, .i n] => (NV x ∨ ∃ ns : List Int, x = .t (ns.map D.i) ∧ ns.length ≤ 1000) ∧ Q (.b (isIntsD x n))
  | _ => False
theorem len_is_ints : ∀ ds P, S_is_ints ds P → ds.length = P_is_ints.length := fun ds P h => by
  unfold S_is_ints at h
  split at h <;> first | rfl | exact h.elim
theorem d_is_ints (Df : DefIn K mg "is_ints" s_is_ints P_is_ints) (T : Txt mg) (D_is_int : DOk P w K mg base "is_int" s_is_int 1 P_is_int S_is_int) : DOk P w K mg base "is_ints" s_is_ints 2 P_is_ints S_is_ints := by
  have SC := sc_is_ints
  refine dok (k := 1) Df sc_is_ints (len_is_ints) (body := fun f cdv A outer s H E hr hg => ⟨_, _, (pss_one (ps_ret (pe_and (pe_callB (kx_isi K) (by rfl) T.z_isinstance (by decide +kernel) (pa_cons (pv 0) (pa_cons (pe_gty T.z_tuple PyProof.Rows.Boot.«tuple») pa_nil))) (pe_and (pe_cmpR op_eq (pe_callB (kx_len K) (by rfl) T.z_len (by decide +kernel) (pa_cons (pv 0) pa_nil)) (pv 1) (nomark _)) (pe_one (pe_callB (kx_all K rfl) (by rfl) T.z_all (by decide +kernel) (pa_cons (pe_lc (own := [("part", 2)]) (g := (gName 2)) (tt := tYes) (by rfl) SC.nd (kx_piTup K (pv 0)) (blkOk_by (own := [("part", 2)]) (N := N_is_ints) (sc := defScope s_is_ints) (by decide +kernel)) (fun _ _ _ _ _ => (pg_name (i := 2) SC.nd rfl (Or.inl rfl))) (fun _ _ _ _ _ => pts_nil) (fun _ _ _ _ _ => (pe_callD D_is_int.d (hr.mono (by decide)) hg (pa_cons (pv 2) pa_nil)))) pa_nil))))))), (s_ret (e_andV (e_isi (fun _ _ => tab_tuple) e_var) (e_andV (e_op o_eqS (e_cb c_len (a_cons e_var a_nil)) e_var) (e_cb c_all (a_cons (e_f (f_lc (i_tup e_var) g_name t_yes (e_call (a_cons e_var a_nil)))) a_nil))))), ?_⟩)
  clear hr hg
  intro ds Q h
  unfold S_is_ints at h
  split at h
  · rename_i x n
    obtain ⟨nv, h⟩ := h
    have cl : (∃ xs, x = .t xs ∧ xs.length ≤ 1000 ∧ ∀ y ∈ xs, plainD y = true) ∨ (plainD x = true ∧ ∀ xs, x ≠ .t xs) := by
      rcases nv with nv | ⟨ns, e, l⟩
      · cases nv with
        | @t xs l nv => exact .inl ⟨xs, rfl, l, fun x hx => rd_plain (nv x hx)⟩
        | _ => exact .inr ⟨rfl, fun xs e => by cases e⟩
      · exact .inl ⟨_, e, by rw [List.length_map]; exact l, fun x hx => by
          obtain ⟨n, _, rfl⟩ := List.mem_map.mp hx
          rfl⟩
    rcases cl with ⟨xs, rfl, l, nv⟩ | ⟨pl, nt⟩
    · refine ⟨fun _ => ?_, fun z => nomatch z⟩
      show (decide ((xs.length : Int) = n) = true → _) ∧ _
      unfold isIntsD at h
      refine ⟨fun hn => ?_, fun hn => ?_⟩
      · have h : Q (.b (decide ((xs.length : Int) = n) && xs.all isIntD)) := h
        rw [hn, Bool.true_and] at h
        refine ⟨by show xs.length ≤ 100000; omega, fun _ => true, fun k d => d = .b (isIntD (xs.getD k .n)), fun k x hx => ?_, fun ys hs => ?_⟩
        · have e : xs.getD k .n = x := by rw [List.getD_eq_getElem?_getD, hx]; rfl
          refine ⟨rfl, fun _ => is_int_of (nv x (List.mem_of_getElem? hx)) ?_⟩
          show D.b (isIntD x) = D.b (isIntD (xs.getD k .n))
          rw [e]
        · have e := hs.map
          have e2 : ys = (xs.map isIntD).map D.b := by
            rw [e, List.map_map]
            refine List.ext_getElem (by simp) fun k h1 h2 => ?_
            rw [List.length_map] at h2
            rw [List.getElem_map, List.getElem_map, List.getElem_range, List.getD_eq_getElem?_getD, List.getElem?_eq_getElem h2]
            rfl
          refine ⟨xs.map isIntD, e2, ?_⟩
          rw [List.all_map]
          exact h
      · have h : Q (.b (decide ((xs.length : Int) = n) && xs.all isIntD)) := h
        rw [hn, Bool.false_and] at h
        exact h
    · cases x with
      | t xs => exact (nt xs rfl).elim
      | o _ _ _ => cases pl
      | j => cases pl
      | p _ => cases pl
      | c _ => cases pl
      | T _ => cases pl
      | r _ _ _ _ => cases pl
      | _ => exact ⟨(fun z => nomatch z), fun _ => h⟩
  · exact h.elim
def S_is_pair : List D → (D → Prop) → Prop := fun ds Q => match ds with
  | [.t [.i _, .i _]] => Q (.b true)
  | _ => False
theorem len_is_pair : ∀ ds P, S_is_pair ds P → ds.length = P_is_pair.length := fun ds P h => by
  unfold S_is_pair at h
  split at h <;> first | rfl | exact h.elim
theorem d_is_pair (Df : DefIn K mg "is_pair" s_is_pair P_is_pair) (T : Txt mg) (D_is_int : DOk P w K mg base "is_int" s_is_int 1 P_is_int S_is_int) : DOk P w K mg base "is_pair" s_is_pair 2 P_is_pair S_is_pair := by
  have SC := sc_is_pair
  refine dok (k := 1) Df sc_is_pair (len_is_pair) (body := fun f cdv A outer s H E hr hg => ⟨_, _, (pss_one (ps_ret (pe_and (pe_callB (kx_isi K) (by rfl) T.z_isinstance (by decide +kernel) (pa_cons (pv 0) (pa_cons (pe_gty T.z_tuple PyProof.Rows.Boot.«tuple») pa_nil))) (pe_and (pe_cmpR op_eq (pe_callB (kx_len K) (by rfl) T.z_len (by decide +kernel) (pa_cons (pv 0) pa_nil)) pe_int (nomark _)) (pe_and (pe_callD D_is_int.d (hr.mono (by decide)) hg (pa_cons (pe_ix (kx_ixT K) (pv 0) pe_int (fun _ _ => rfl)) pa_nil)) (pe_one (pe_callD D_is_int.d (hr.mono (by decide)) hg (pa_cons (pe_ix (kx_ixT K) (pv 0) pe_int (fun _ _ => rfl)) pa_nil)))))))), (s_ret (e_andV (e_isi (fun _ _ => tab_tuple) e_var) (e_andV (e_op o_eqS (e_cb c_len (a_cons e_var a_nil)) e_int) (e_andV (e_call (a_cons (e_op o_ixT e_var e_int) a_nil)) (e_call (a_cons (e_op o_ixT e_var e_int) a_nil)))))), ?_⟩)
  clear hr hg
  intro ds Q h
  unfold S_is_pair at h
  split at h
  · exact ⟨fun _ => ⟨fun _ => ⟨_, rfl, fun _ => ⟨_, rfl, h⟩, fun z => nomatch z⟩, fun z => nomatch z⟩, fun z => nomatch z⟩
  · exact h.elim
def S_is_place : List D → (D → Prop) → Prop := fun ds Q => match ds with
  | [.t [.i x, .i y]] => Place (x, y) ∧ Q (.b true)
  | _ => False
theorem len_is_place : ∀ ds P, S_is_place ds P → ds.length = P_is_place.length := fun ds P h => by
  unfold S_is_place at h
  split at h <;> first | rfl | exact h.elim
theorem d_is_place (Df : DefIn K mg "is_place" s_is_place P_is_place) (T : Txt mg) (D_is_pair : DOk P w K mg base "is_pair" s_is_pair 2 P_is_pair S_is_pair) : DOk P w K mg base "is_place" s_is_place 3 P_is_place S_is_place := by
  have SC := sc_is_place
  refine dok (k := 2) Df sc_is_place (len_is_place) (body := fun f cdv A outer s H E hr hg => ⟨_, _, (pss_one (ps_ret (pe_and (pe_callD D_is_pair.d (hr.mono (by decide)) hg (pa_cons (pv 0) pa_nil)) (pe_and (pe_cmpR op_le (pe_callB call_abs (by rfl) T.z_abs (by decide +kernel) (pa_cons (pe_ix (kx_ixT K) (pv 0) pe_int (fun _ _ => rfl)) pa_nil)) (pe_gint T.m_MOST_PLACE) (nomark _)) (pe_one (pe_cmpR op_le (pe_callB call_abs (by rfl) T.z_abs (by decide +kernel) (pa_cons (pe_ix (kx_ixT K) (pv 0) pe_int (fun _ _ => rfl)) pa_nil)) (pe_gint T.m_MOST_PLACE) (nomark _))))))), (s_ret (e_andV (e_call (a_cons e_var a_nil)) (e_andV (e_op o_le (e_cb c_abs (a_cons (e_op o_ixT e_var e_int) a_nil)) e_int) (e_op o_le (e_cb c_abs (a_cons (e_op o_ixT e_var e_int) a_nil)) e_int)))), ?_⟩)
  clear hr hg
  intro ds Q h
  unfold S_is_place at h
  split at h
  · rename_i x y
    obtain ⟨⟨h1, h2, h3, h4⟩, h⟩ := h
    dsimp only at h1 h2 h3 h4
    have a1 : (if x < 0 then -x else x) ≤ 1000 := by split <;> omega
    have a2 : (if y < 0 then -y else y) ≤ 1000 := by split <;> omega
    refine ⟨fun _ => ⟨_, rfl, ?_⟩, fun z => nomatch z⟩
    refine ⟨fun _ => ⟨_, rfl, ?_⟩, fun z => ?_⟩
    · show Q (.b (decide ((if y < 0 then -y else y) ≤ 1000)))
      rw [decide_eq_true a2]
      exact h
    · exact absurd a1 (of_decide_eq_false z)
  · exact h.elim
def S_is_lattice : List D → (D → Prop) → Prop := fun ds Q => match ds with
  | [.t [.i w, .i s, .i h]] => Q (.b (decide (0 ≤ s ∧ s < w ∧ 1 ≤ h)))
  | _ => False
theorem len_is_lattice : ∀ ds P, S_is_lattice ds P → ds.length = P_is_lattice.length := fun ds P h => by
  unfold S_is_lattice at h
  split at h <;> first | rfl | exact h.elim
theorem d_is_lattice (Df : DefIn K mg "is_lattice" s_is_lattice P_is_lattice) (T : Txt mg) (D_is_ints : DOk P w K mg base "is_ints" s_is_ints 2 P_is_ints S_is_ints) : DOk P w K mg base "is_lattice" s_is_lattice 3 P_is_lattice S_is_lattice := by
  have SC := sc_is_lattice
  refine dok (k := 2) Df sc_is_lattice (len_is_lattice) (body := fun f cdv A outer s H E hr hg => ⟨_, _, (pss_one (ps_ret (pe_and (pe_callD D_is_ints.d (hr.mono (by decide)) hg (pa_cons (pv 0) (pa_cons pe_int pa_nil))) (pe_and (pe_chain op_le op_lt pe_int (pe_ix (kx_ixT K) (pv 0) pe_int (fun _ _ => rfl)) (pe_ix (kx_ixT K) (pv 0) pe_int (fun _ _ => rfl))) (pe_one (pe_cmpR op_ge (pe_ix (kx_ixT K) (pv 0) pe_int (fun _ _ => rfl)) pe_int (nomark _))))))), (s_ret (e_andV (e_call (a_cons e_var (a_cons e_int a_nil))) (e_andV (e_chain o_le o_lt e_int (e_op o_ixT e_var e_int) (e_op o_ixT e_var e_int)) (e_op o_ge (e_op o_ixT e_var e_int) e_int)))), ?_⟩)
  clear hr hg
  intro ds Q h
  unfold S_is_lattice at h
  split at h
  · rename_i w s h'
    refine ⟨.inr ⟨[w, s, h'], rfl, by show 3 ≤ 1000; decide⟩, ?_⟩
    refine ⟨fun _ => ⟨_, rfl, ⟨fun z => ?_, fun z => ?_⟩⟩, fun z => nomatch z⟩
    · have z := of_decide_eq_true z
      refine ⟨_, rfl, ⟨fun z2 => ⟨_, rfl, ?_⟩, fun z2 => ?_⟩⟩
      · have z2 := of_decide_eq_true z2
        rw [show decide (0 ≤ s ∧ s < w ∧ 1 ≤ h') = decide (1 ≤ h') from by rw [decide_eq_decide]; exact ⟨fun a => a.2.2, fun a => ⟨z, z2, a⟩⟩] at h
        exact h
      · have z2 := of_decide_eq_false z2
        rw [decide_eq_false fun a => z2 a.2.1] at h
        exact h
    · have z := of_decide_eq_false z
      rw [decide_eq_false fun a => z a.1] at h
      exact ⟨(fun z => nomatch z), fun _ => h⟩
  · exact h.elim
def il (p : Int × Int) : List Int := [p.1, p.2]
theorem il_inj {p q : Int × Int} (h : il p = il q) : p = q := by
  unfold il at h
  simp only [List.cons.injEq, and_true] at h
  exact Prod.ext h.1 h.2
def S_first_wrong : List D → (D → Prop) → Prop := fun ds Q => match ds with
  | [.t xs, .i most] => ∃ ss : List (Int × Int), xs = ss.map pt ∧ CellsOk ss ∧ (ss.length : Int) ≤ most ∧ Q .n
  | _ => False
theorem len_first_wrong : ∀ ds P, S_first_wrong ds P → ds.length = P_first_wrong.length := fun ds P h => by
  unfold S_first_wrong at h
  split at h <;> first | rfl | exact h.elim
theorem d_first_wrong (Df : DefIn K mg "first_wrong" s_first_wrong P_first_wrong) (T : Txt mg) (D_is_place : DOk P w K mg base "is_place" s_is_place 3 P_is_place S_is_place) : DOk P w K mg base "first_wrong" s_first_wrong 4 P_first_wrong S_first_wrong := by
  have SC := sc_first_wrong
  refine dok (k := 3) Df sc_first_wrong (len_first_wrong) (body := fun f cdv A outer s H E hr hg => ⟨_, _, (pss_cons (ps_set (i := 2) SC.nd rfl (Or.inl rfl) (pe_callTy0 (kx_newS P w) (by rfl) T.z_set (by decide +kernel))) (pss_cons (ps_for PassesOwn.never rfl (kx_enumT K (by rfl) T.z_enumerate (pa_cons (pv 0) pa_nil)) (kx_pgTup (n := 2) K rfl (pgs_cons (pg_name (i := 3) SC.nd rfl (Or.inl rfl)) (pgs_cons (pg_name (i := 4) SC.nd rfl (Or.inl rfl)) pgs_nil)) (by rfl)) (pss_cons (ps_if (PW.pt (pw_or (pt_cmpR op_ge (pv 3) (pv 1) (nomark _)) (pw_or (pt_not (pt_val (pe_callD D_is_place.d (hr.mono (by decide)) hg (pa_cons (pv 4) pa_nil)))) (pw_or1 (pt_cmpR (kx_inS K P w hr.units) (pv 4) (pv 2) (by with_unfolding_all rfl)))))) (pss_one (ps_ret (pv 3))) pss_nil) (pss_one (ps_expr (kx_addS K P w hr.units (pv 2) (pa_cons (pv 4) pa_nil)))))) (pss_one (ps_ret pe_non)))), (s_seq s_newS (s_seq (s_for (i_enumT (a_cons e_var a_nil)) (g_tup (gs_cons g_name (gs_cons g_name gs_nil))) (s_seq (s_if (t_or (t_test (e_op o_ge e_var e_var)) (t_or (t_not (t_B (e_call (a_cons e_var a_nil)))) (t_test (e_inS e_var)))) (s_ret e_var) s_next) (s_addS e_var))) (s_ret e_non))), ?_⟩)
  clear hr hg
  intro ds Q h
  unfold S_first_wrong at h
  split at h
  · rename_i most
    obtain ⟨ss, rfl, ⟨nd, pl, l24⟩, lm, h⟩ := h
    refine ⟨fun k Γ => ∃ ks a3 a4, Γ = [.d (.t (ss.map pt)), .d (.i most), .os (SetTO P w) ks, a3, a4] ∧ ks.length ≤ k ∧ ∀ q, q ∈ ks → q ∈ (ss.take k).map il, ?_⟩
    refine ⟨⟨[], _, _, rfl, Nat.le_refl _, fun q hq => by cases hq⟩, ?_, fun Γ' _ => h⟩
    rintro k x Γ' hx ⟨ks, a3, a4, rfl, lk, hk⟩
    have kl : k < ss.length := by
      have := (List.getElem?_eq_some_iff.mp hx).1
      rw [enumD_len, List.length_map] at this
      exact this
    have e : (ss.map pt)[k]? = some (pt ss[k]) := by
      rw [List.getElem?_map, List.getElem?_eq_getElem kl]
      rfl
    rw [enumD_get e] at hx
    obtain rfl := (Option.some.inj hx).symm
    have np : il ss[k] ∉ ks := fun z => by
      obtain ⟨p, hp, ep⟩ := List.mem_map.mp (hk _ z)
      have := il_inj ep
      subst this
      obtain ⟨i, hi, ei⟩ := List.getElem_of_mem hp
      rw [List.length_take] at hi
      rw [List.getElem_take] at ei
      have := (List.getElem_inj (h₀ := by omega) (h₁ := kl) nd).mp ei
      omega
    have pk : Place (ss[k].1, ss[k].2) := pl _ (List.getElem_mem kl)
    refine ⟨rfl, fun z => ?_, fun _ => ⟨pk, ⟨(fun z => nomatch z), fun _ => ⟨rfl, il ss[k], rfl, ⟨fun z => absurd (of_decide_eq_true z) np, fun _ => ?_⟩⟩⟩⟩⟩
    · have := of_decide_eq_true z
      omega
    refine ⟨rfl, by omega, il ss[k], rfl, fun z => absurd z np, fun _ => ?_⟩
    dsimp only [put]
    refine ⟨_, _, _, rfl, by simp only [List.length_cons]; omega, fun q hq => ?_⟩
    rw [List.take_succ_eq_append_getElem kl, List.map_append]
    rcases List.mem_cons.mp hq with rfl | hq
    · exact List.mem_append_right _ (by simp)
    · exact List.mem_append_left _ (hk q hq)
  · exact h.elim
def S_is_nonempty : List D → (D → Prop) → Prop := fun ds Q => match ds with
  | [.t (_ :: _)] => Q (.b true)
  | _ => False
theorem len_is_nonempty : ∀ ds P, S_is_nonempty ds P → ds.length = P_is_nonempty.length := fun ds P h => by
  unfold S_is_nonempty at h
  split at h <;> first | rfl | exact h.elim
theorem d_is_nonempty (Df : DefIn K mg "is_nonempty" s_is_nonempty P_is_nonempty) (T : Txt mg) : DOk P w K mg base "is_nonempty" s_is_nonempty 1 P_is_nonempty S_is_nonempty := by
  have SC := sc_is_nonempty
  refine dok (k := 0) Df sc_is_nonempty (len_is_nonempty) (body := fun f cdv A outer s H E hr hg => ⟨_, _, (pss_one (ps_ret (pe_and (pe_callB (kx_isi K) (by rfl) T.z_isinstance (by decide +kernel) (pa_cons (pv 0) (pa_cons (pe_gty T.z_tuple PyProof.Rows.Boot.«tuple») pa_nil))) (pe_one (pe_cmpR op_gt (pe_callB (kx_len K) (by rfl) T.z_len (by decide +kernel) (pa_cons (pv 0) pa_nil)) pe_int (nomark _)))))), (s_ret (e_andV (e_isi (fun _ _ => tab_tuple) e_var) (e_op o_gt (e_cb c_len (a_cons e_var a_nil)) e_int))), ?_⟩)
  clear hr hg
  intro ds Q h
  unfold S_is_nonempty at h
  split at h
  · rename_i x xs
    refine ⟨fun _ => ?_, fun z => nomatch z⟩
    show Q (.b (decide (0 < ((x :: xs).length : Int))))
    rw [decide_eq_true (by simp only [List.length_cons]; omega)]
    exact h
  · exact h.elim
def S_check_cells : List D → (D → Prop) → Prop := fun ds Q => match ds with
  | [.t xs] => ∃ ss : List (Int × Int), xs = ss.map pt ∧ ss ≠ [] ∧ CellsOk ss ∧ Q .n
  | _ => False
theorem len_check_cells : ∀ ds P, S_check_cells ds P → ds.length = P_check_cells.length := fun ds P h => by
  unfold S_check_cells at h
  split at h <;> first | rfl | exact h.elim
theorem d_check_cells (Df : DefIn K mg "check_cells" s_check_cells P_check_cells) (T : Txt mg) (D_is_nonempty : DOk P w K mg base "is_nonempty" s_is_nonempty 1 P_is_nonempty S_is_nonempty) (D_first_wrong : DOk P w K mg base "first_wrong" s_first_wrong 4 P_first_wrong S_first_wrong) : DOk P w K mg base "check_cells" s_check_cells 5 P_check_cells S_check_cells := by
  have SC := sc_check_cells
  refine dok (k := 4) Df sc_check_cells (len_check_cells) (body := fun f cdv A outer s H E hr hg => ⟨_, _, (pss_cons (ps_if (pt_not (pt_val (pe_callD D_is_nonempty.d (hr.mono (by decide)) hg (pa_cons (pv 0) pa_nil)))) (pss_one ps_never) pss_nil) (pss_cons (ps_set (i := 1) SC.nd rfl (Or.inl rfl) (pe_callD D_first_wrong.d (hr.mono (by decide)) hg (pa_cons (pv 0) (pa_cons (pe_gint T.m_MOST_CELLS) pa_nil)))) (pss_one (ps_if (pt_cmpR op_notN (pv 1) pe_non (nomark _)) (pss_one ps_never) pss_nil)))), (s_seq (s_if (t_not (t_B (e_call (a_cons e_var a_nil)))) s_never s_next) (s_seq (s_asg (e_call (a_cons e_var (a_cons e_int a_nil))) g_name) (s_if (t_test (e_op o_notN e_var e_non)) s_never s_next))), ?_⟩)
  clear hr hg
  intro ds Q h
  unfold S_check_cells at h
  split at h
  · obtain ⟨ss, rfl, ne, ok, h⟩ := h
    cases ss with
    | nil => exact absurd rfl ne
    | cons p ss => exact ⟨(fun z => nomatch z), fun _ => ⟨p :: ss, rfl, ok, by have := ok.2.2; show ((p :: ss).length : Int) ≤ 24; omega, ⟨(fun z => nomatch z), fun _ => h⟩⟩⟩
  · exact h.elim
theorem getpt {L : List Pr} {k : Nat} {x : D} (h : (L.map pt)[k]? = some x) : k < L.length ∧ x = pt (L.getD k (0, 0)) := by
  rw [List.getElem?_map] at h
  cases q : L[k]? with
  | none => rw [q] at h; cases h
  | some p =>
    rw [q] at h
    cases h
    refine ⟨(List.getElem?_eq_some_iff.mp q).1, ?_⟩
    rw [List.getD_eq_getElem?_getD, q]
    rfl
theorem range_getD {L : List Pr} : (List.range L.length).map (fun k => L.getD k (0, 0)) = L := by
  refine List.ext_getElem (by simp) fun k h1 h2 => ?_
  rw [List.getElem_map, List.getElem_range, List.getD_eq_getElem?_getD, List.getElem?_eq_getElem h2]
  rfl
theorem selmap {L : List Pr} {f : Pr → D} {n : Nat} {ys : List D} (hs : Sel (fun _ => true) (fun k d => d = f (L.getD k (0, 0))) n ys) (hn : n = L.length) : ys = L.map f := by
  subst hn
  have e := hs.map
  have z := congrArg (List.map f) (range_getD (L := L))
  rw [List.map_map] at z
  rw [e]
  exact z
theorem selfil {L : List Pr} {c : Pr → Bool} {f : Pr → D} {n : Nat} {ys : List D} (hs : Sel (fun k => c (L.getD k (0, 0))) (fun k d => d = f (L.getD k (0, 0))) n ys) (hn : n = L.length) : ys = (L.filter c).map f := by
  subst hn
  have e := hs.filter
  have z := congrArg (fun M => (M.filter c).map f) (range_getD (L := L))
  rw [List.filter_map, List.map_map] at z
  rw [e]
  exact z
def S_from_zero : List D → (D → Prop) → Prop := fun ds Q => match ds with
  | [d] => ∃ L : List Pr, (d = .t (L.map pt) ∨ d = .l (L.map pt)) ∧ 0 < L.length ∧ L.length ≤ 1000 ∧ ∀ (l t : Int) (L' : List Pr), (∃ p ∈ L, p.1 = l) → (∀ p ∈ L, l ≤ p.1) → (∃ p ∈ L, p.2 = t) → (∀ p ∈ L, t ≤ p.2) → L'.Perm (L.map fun p => (p.1 + -l, p.2 + -t)) → L'.Pairwise lexle → Q (.t (L'.map pt))
  | _ => False
theorem len_from_zero : ∀ ds P, S_from_zero ds P → ds.length = P_from_zero.length := fun ds P h => by
  unfold S_from_zero at h
  split at h <;> first | rfl | exact h.elim
theorem d_from_zero (Df : DefIn K mg "from_zero" s_from_zero P_from_zero) (T : Txt mg) : DOk P w K mg base "from_zero" s_from_zero 1 P_from_zero S_from_zero := by
  have SC := sc_from_zero
  refine dok (k := 0) Df sc_from_zero (len_from_zero) (body := fun f cdv A outer s H E hr hg => ⟨_, _, (pss_cons (ps_set (i := 1) SC.nd rfl (Or.inr rfl) (pe_callB (DO.kx_minL K rfl) (by rfl) T.z_min (by decide +kernel) (pa_cons (pe_lc (own := [("x", 2), ("y", 3)]) (g := (gTup K 2 (gCons (gName 2) (gCons (gName 3) gNil)))) (tt := tYes) (by rfl) SC.nd (TStr.pi_any K (pv 0)) (blkOk_by (own := [("x", 2), ("y", 3)]) (N := N_from_zero) (sc := defScope s_from_zero) (by decide +kernel)) (fun _ _ _ _ _ => (kx_pgTup (n := 2) K rfl (pgs_cons (pg_name (i := 2) SC.nd rfl (Or.inl rfl)) (pgs_cons (pg_name (i := 3) SC.nd rfl (Or.inl rfl)) pgs_nil)) (by rfl))) (fun _ _ _ _ _ => pts_nil) (fun _ _ _ _ _ => (pv 2))) pa_nil))) (pss_cons (ps_set (i := 4) SC.nd rfl (Or.inr rfl) (pe_callB (DO.kx_minL K rfl) (by rfl) T.z_min (by decide +kernel) (pa_cons (pe_lc (own := [("x", 2), ("y", 3)]) (g := (gTup K 2 (gCons (gName 2) (gCons (gName 3) gNil)))) (tt := tYes) (by rfl) SC.nd (TStr.pi_any K (pv 0)) (blkOk_by (own := [("x", 2), ("y", 3)]) (N := N_from_zero) (sc := defScope s_from_zero) (by decide +kernel)) (fun _ _ _ _ _ => (kx_pgTup (n := 2) K rfl (pgs_cons (pg_name (i := 2) SC.nd rfl (Or.inl rfl)) (pgs_cons (pg_name (i := 3) SC.nd rfl (Or.inl rfl)) pgs_nil)) (by rfl))) (fun _ _ _ _ _ => pts_nil) (fun _ _ _ _ _ => (pv 3))) pa_nil))) (pss_one (ps_ret (pe_callTy (kx_tupleOf K) (by rfl) T.z_tuple (by decide +kernel) (pa_cons (pe_callB (DO.kx_sortQ K) (by rfl) T.z_sorted (by decide +kernel) (pa_cons (pe_lc (own := [("x", 2), ("y", 3)]) (g := (gTup K 2 (gCons (gName 2) (gCons (gName 3) gNil)))) (tt := tYes) (by rfl) SC.nd (TStr.pi_any K (pv 0)) (blkOk_by (own := [("x", 2), ("y", 3)]) (N := N_from_zero) (sc := defScope s_from_zero) (by decide +kernel)) (fun _ _ _ _ _ => (kx_pgTup (n := 2) K rfl (pgs_cons (pg_name (i := 2) SC.nd rfl (Or.inl rfl)) (pgs_cons (pg_name (i := 3) SC.nd rfl (Or.inl rfl)) pgs_nil)) (by rfl))) (fun _ _ _ _ _ => pts_nil) (fun _ _ _ _ _ => (pe_tup (pa_cons (pe_op op_sub (pv 2) (pv 1)) (pa_cons (pe_op op_sub (pv 3) (pv 4)) pa_nil))))) pa_nil)) pa_nil)))))), (s_seq (s_asg (e_cb DO.c_minL (a_cons (e_f (f_lc (i_any e_var) (g_tup (gs_cons g_name (gs_cons g_name gs_nil))) t_yes e_var)) a_nil)) g_name) (s_seq (s_asg (e_cb DO.c_minL (a_cons (e_f (f_lc (i_any e_var) (g_tup (gs_cons g_name (gs_cons g_name gs_nil))) t_yes e_var)) a_nil)) g_name) (s_ret (e_cb c_tupleOf (a_cons (e_cb DO.c_sortQ (a_cons (e_f (f_lc (i_any e_var) (g_tup (gs_cons g_name (gs_cons g_name gs_nil))) t_yes (e_tup (a_cons (e_op o_sub e_var e_var) (a_cons (e_op o_sub e_var e_var) a_nil))))) a_nil)) a_nil))))), ?_⟩)
  clear hr hg
  intro ds Q h
  unfold S_from_zero at h
  split at h
  · obtain ⟨L, hd, l0, l1, h⟩ := h
    rcases hd with rfl | rfl
    · rw [show startG N_from_zero.length [.t (L.map pt)] = [.d (.t (L.map pt)), .u, .u, .u, .u] from rfl]
      have sz : (L.map pt).length ≤ 100000 := by rw [List.length_map]; omega
      refine ⟨sz, fun _ => true, fun k d => d = .i (L.getD k (0, 0)).1, fun k x hx => ?_, fun ys hs => ?_⟩
      · obtain ⟨hk, rfl⟩ := getpt hx
        exact ⟨rfl, rfl, fun _ => rfl⟩
      have e1 := selmap (f := fun p => .i p.1) hs (by rw [List.length_map])
      subst e1
      refine ⟨L.map (·.1), by rw [List.map_map]; rfl, by rw [List.length_map]; exact l0, fun l hl hm => ?_⟩
      refine ⟨sz, fun _ => true, fun k d => d = .i (L.getD k (0, 0)).2, fun k x hx => ?_, fun ys hs => ?_⟩
      · obtain ⟨hk, rfl⟩ := getpt hx
        exact ⟨rfl, rfl, fun _ => rfl⟩
      have e1 := selmap (f := fun p => .i p.2) hs (by rw [List.length_map])
      subst e1
      refine ⟨L.map (·.2), by rw [List.map_map]; rfl, by rw [List.length_map]; exact l0, fun t ht hm2 => ?_⟩
      refine ⟨sz, fun _ => true, fun k d => d = pt ((L.getD k (0, 0)).1 - l, (L.getD k (0, 0)).2 - t), fun k x hx => ?_, fun ys hs => ?_⟩
      · obtain ⟨hk, rfl⟩ := getpt hx
        exact ⟨rfl, rfl, fun _ => ⟨by show 2 ≤ 100000; decide, rfl⟩⟩
      have e1 := selmap (f := fun p => pt (p.1 - l, p.2 - t)) hs (by rw [List.length_map])
      subst e1
      refine ⟨L.map fun p => (p.1 - l, p.2 - t), by rw [List.map_map]; rfl, fun L' pm pw => ?_⟩
      obtain ⟨p, hp, ep⟩ := List.mem_map.mp hl
      obtain ⟨q, hq, eq⟩ := List.mem_map.mp ht
      exact h l t L' ⟨p, hp, ep⟩ (fun p hp => hm _ (List.mem_map_of_mem hp)) ⟨q, hq, eq⟩ (fun p hp => hm2 _ (List.mem_map_of_mem hp)) pm pw
    · rw [show startG N_from_zero.length [.l (L.map pt)] = [.d (.l (L.map pt)), .u, .u, .u, .u] from rfl]
      have sz : (L.map pt).length ≤ 100000 := by rw [List.length_map]; omega
      refine ⟨sz, fun _ => true, fun k d => d = .i (L.getD k (0, 0)).1, fun k x hx => ?_, fun ys hs => ?_⟩
      · obtain ⟨hk, rfl⟩ := getpt hx
        exact ⟨rfl, rfl, fun _ => rfl⟩
      have e1 := selmap (f := fun p => .i p.1) hs (by rw [List.length_map])
      subst e1
      refine ⟨L.map (·.1), by rw [List.map_map]; rfl, by rw [List.length_map]; exact l0, fun l hl hm => ?_⟩
      refine ⟨sz, fun _ => true, fun k d => d = .i (L.getD k (0, 0)).2, fun k x hx => ?_, fun ys hs => ?_⟩
      · obtain ⟨hk, rfl⟩ := getpt hx
        exact ⟨rfl, rfl, fun _ => rfl⟩
      have e1 := selmap (f := fun p => .i p.2) hs (by rw [List.length_map])
      subst e1
      refine ⟨L.map (·.2), by rw [List.map_map]; rfl, by rw [List.length_map]; exact l0, fun t ht hm2 => ?_⟩
      refine ⟨sz, fun _ => true, fun k d => d = pt ((L.getD k (0, 0)).1 - l, (L.getD k (0, 0)).2 - t), fun k x hx => ?_, fun ys hs => ?_⟩
      · obtain ⟨hk, rfl⟩ := getpt hx
        exact ⟨rfl, rfl, fun _ => ⟨by show 2 ≤ 100000; decide, rfl⟩⟩
      have e1 := selmap (f := fun p => pt (p.1 - l, p.2 - t)) hs (by rw [List.length_map])
      subst e1
      refine ⟨L.map fun p => (p.1 - l, p.2 - t), by rw [List.map_map]; rfl, fun L' pm pw => ?_⟩
      obtain ⟨p, hp, ep⟩ := List.mem_map.mp hl
      obtain ⟨q, hq, eq⟩ := List.mem_map.mp ht
      exact h l t L' ⟨p, hp, ep⟩ (fun p hp => hm _ (List.mem_map_of_mem hp)) ⟨q, hq, eq⟩ (fun p hp => hm2 _ (List.mem_map_of_mem hp)) pm pw
  · exact h.elim
/-- a shape, told -/
def shp (CS : Addr) (L : List Pr) : D := .o CS ["_cells"] [.t (L.map pt)]
def S_check_shape (CS : Addr) : List D → (D → Prop) → Prop := fun ds Q => match ds with
  | [a] => (∃ L, a = shp CS L) ∧ Q .n
  | _ => False
theorem len_check_shape {CS : Addr} : ∀ ds P, S_check_shape CS ds P → ds.length = P_check_shape.length := fun ds P h => by
  unfold S_check_shape at h
  split at h <;> first | rfl | exact h.elim
theorem d_check_shape (Df : DefIn K mg "check_shape" s_check_shape P_check_shape) (T : Txt mg) (CL_Shape : DO.Cl K CS) (mg_Shape : mg "Shape" = some (.ref CS)) : DOk P w K mg base "check_shape" s_check_shape 1 P_check_shape (S_check_shape CS) := by
  have SC := sc_check_shape
  refine dok (k := 0) Df sc_check_shape (len_check_shape) (body := fun f cdv A outer s H E hr hg => ⟨_, _, (pss_one (ps_if (pt_not (pt_val (pe_callB (kx_isi K) (by rfl) T.z_isinstance (by decide +kernel) (pa_cons (pv 0) (pa_cons (pe_glob (v := .ref CS) (by rfl) mg_Shape rfl) pa_nil))))) (pss_one ps_never) pss_nil)), (s_if (t_not (t_B (DO.e_isC CL_Shape e_var))) s_never s_next), ?_⟩)
  clear hr hg
  intro ds Q h
  unfold S_check_shape at h
  split at h
  · obtain ⟨⟨L, rfl⟩, h⟩ := h
    exact ⟨rfl, (fun z => nomatch z), fun _ => h⟩
  · exact h.elim
def S_rest_of : List D → (D → Prop) → Prop := fun ds Q => match ds with
  | [.t [.i w, .i s, .i h], .t [.i x, .i y]] => IsLat w s h ∧ Q (pt (rest w s h (x, y)))
  | _ => False
theorem len_rest_of : ∀ ds P, S_rest_of ds P → ds.length = P_rest_of.length := fun ds P h => by
  unfold S_rest_of at h
  split at h <;> first | rfl | exact h.elim
theorem d_rest_of (Df : DefIn K mg "rest_of" s_rest_of P_rest_of) (T : Txt mg) : DOk P w K mg base "rest_of" s_rest_of 1 P_rest_of S_rest_of := by
  have SC := sc_rest_of
  refine dok (k := 0) Df sc_rest_of (len_rest_of) (body := fun f cdv A outer s H E hr hg => ⟨_, _, (pss_cons (ps_asg (pv 0) (kx_pgTup (n := 3) K rfl (pgs_cons (pg_name (i := 2) SC.nd rfl (Or.inl rfl)) (pgs_cons (pg_name (i := 3) SC.nd rfl (Or.inl rfl)) (pgs_cons (pg_name (i := 4) SC.nd rfl (Or.inl rfl)) pgs_nil))) (by rfl))) (pss_cons (ps_asg (pv 1) (kx_pgTup (n := 2) K rfl (pgs_cons (pg_name (i := 5) SC.nd rfl (Or.inl rfl)) (pgs_cons (pg_name (i := 6) SC.nd rfl (Or.inl rfl)) pgs_nil)) (by rfl))) (pss_one (ps_ret (pe_tup (pa_cons (pe_op op_mod (pe_op op_sub (pv 5) (pe_op op_mul (pe_op op_fdiv (pv 6) (pv 4)) (pv 3))) (pv 2)) (pa_cons (pe_op op_mod (pv 6) (pv 4)) pa_nil))))))), (s_seq (s_asg e_var (g_tup (gs_cons g_name (gs_cons g_name (gs_cons g_name gs_nil))))) (s_seq (s_asg e_var (g_tup (gs_cons g_name (gs_cons g_name gs_nil)))) (s_ret (e_tup (a_cons (e_op o_mod (e_op o_sub e_var (e_op o_mul (e_op o_fdiv e_var e_var) e_var)) e_var) (a_cons (e_op o_mod e_var e_var) a_nil)))))), ?_⟩)
  clear hr hg
  intro ds Q h
  unfold S_rest_of at h
  split at h
  · rename_i w s h' x y
    obtain ⟨⟨h1, h2, h3, h4, h5, h6⟩, h⟩ := h
    exact ⟨rfl, rfl, ⟨h5, by omega⟩, .inr ⟨by omega, by omega⟩, h1, h5, by show 2 ≤ 100000; decide, h⟩
  · exact h.elim
/-- a lattice, its numbers small enough to be multiplied -/
def IsLatM (w s h : Int) : Prop := (0 < w ∧ 0 ≤ s ∧ s < w ∧ 0 < h) ∧ CMul w h
def S_holds_each_once : List D → (D → Prop) → Prop := fun ds Q => match ds with
  | [.t [.i w, .i s, .i h], .l xs] => ∃ L : List Pr, xs = L.map pt ∧ IsLatM w s h ∧ L.length ≤ 60 ∧ Q (.b (decide ((L.length : Int) = w * h ∧ (L.map (rest w s h)).Nodup)))
  | _ => False
theorem len_holds_each_once : ∀ ds P, S_holds_each_once ds P → ds.length = P_holds_each_once.length := fun ds P h => by
  unfold S_holds_each_once at h
  split at h <;> first | rfl | exact h.elim
theorem d_holds_each_once (Df : DefIn K mg "holds_each_once" s_holds_each_once P_holds_each_once) (T : Txt mg) (D_rest_of : DOk P w K mg base "rest_of" s_rest_of 1 P_rest_of S_rest_of) : DOk P w K mg base "holds_each_once" s_holds_each_once 2 P_holds_each_once S_holds_each_once := by
  have SC := sc_holds_each_once
  refine dok (k := 1) Df sc_holds_each_once (len_holds_each_once) (body := fun f cdv A outer s H E hr hg => ⟨_, _, (pss_cons (ps_asg (pv 0) (kx_pgTup (n := 3) K rfl (pgs_cons (pg_name (i := 2) SC.nd rfl (Or.inl rfl)) (pgs_cons (pg_name (i := 3) SC.nd rfl (Or.inl rfl)) (pgs_cons (pg_name (i := 4) SC.nd rfl (Or.inl rfl)) pgs_nil))) (by rfl))) (pss_one (ps_ret (pe_chain op_eq op_eq (pe_callB (kx_len K) (by rfl) T.z_len (by decide +kernel) (pa_cons (pv 1) pa_nil)) (pe_op op_mul (pv 2) (pv 4)) (pe_callB (kx_lenS P w) (by rfl) T.z_len (by decide +kernel) (pa_cons (kx_sct K P w (own := [("cell", 5)]) (g := (gName 5)) (tt := tYes) (by rfl) hr.units SC.nd (kx_piList K (pv 1)) (blkOk_by (own := [("cell", 5)]) (N := N_holds_each_once) (sc := defScope s_holds_each_once) (by decide +kernel)) (fun _ _ _ _ _ => (pg_name (i := 5) SC.nd rfl (Or.inl rfl))) (fun _ _ _ _ _ => pts_nil) (fun _ _ _ _ _ => (pe_callD D_rest_of.d (hr.mono (by decide)) hg (pa_cons (pv 0) (pa_cons (pv 5) pa_nil))))) pa_nil)))))), (s_seq (s_asg e_var (g_tup (gs_cons g_name (gs_cons g_name (gs_cons g_name gs_nil))))) (s_ret (e_chain o_eqS o_eqS (e_cb c_len (a_cons e_var a_nil)) (e_op o_mul e_var e_var) (e_lenSc (P := P) (w := w) (i_list e_var) g_name t_yes (e_call (a_cons e_var (a_cons e_var a_nil))))))), ?_⟩)
  clear hr hg
  intro ds Q h
  unfold S_holds_each_once at h
  split at h
  · rename_i w s h' xs
    obtain ⟨L, rfl, ⟨⟨w0, s0, s1, h0⟩, cm⟩, l60, h⟩ := h
    refine ⟨rfl, ?_⟩
    dsimp only [wgName, put]
    refine ⟨cm, ?_⟩
    show (decide (((L.map pt).length : Int) = w * h') = true → _) ∧ (decide (((L.map pt).length : Int) = w * h') = false → _)
    rw [List.length_map]
    refine ⟨fun z => ?_, fun z => ?_⟩
    · have z := of_decide_eq_true z
      have w60 : w ≤ 60 := by
        have := Int.mul_le_mul_of_nonneg_left (show 1 ≤ h' by omega) (Int.le_of_lt w0)
        omega
      have h60 : h' ≤ 60 := by
        have := Int.mul_le_mul_of_nonneg_right (show 1 ≤ w by omega) (Int.le_of_lt h0)
        omega
      refine ⟨by rw [List.length_map]; exact l60, fun _ => true, fun k ns => ns = [(rest w s h' (L.getD k (0, 0))).1, (rest w s h' (L.getD k (0, 0))).2], fun k x hx => ?_, fun ys hs => ?_⟩
      · obtain ⟨hk, rfl⟩ := getpt hx
        exact ⟨rfl, fun _ => ⟨⟨w0, by omega, s0, s1, h0, by omega⟩, _, rfl, rfl⟩⟩
      · rw [List.length_map] at hs
        obtain ⟨_, _, c⟩ := selS_all (f := fun k => [(rest w s h' (L.getD k (0, 0))).1, (rest w s h' (L.getD k (0, 0))).2]) hs
        show Q (.b (decide (w * h' = ((ys.length : Nat) : Int))))
        have e : (w * h' = ((ys.length : Nat) : Int)) ↔ ((L.length : Int) = w * h' ∧ (L.map (rest w s h')).Nodup) := by
          rw [← ShM.nodup_ix, ← z]
          constructor
          · intro e
            refine ⟨rfl, fun i j hi hj e3 => c.mp (by omega) i j hi hj ?_⟩
            rw [e3]
          · rintro ⟨_, inj⟩
            rw [c.mpr fun i j hi hj e => inj i j hi hj ?_]
            injection e with e1 e2
            injection e2 with e2 _
            exact Prod.ext e1 e2
        rw [decide_eq_decide.mpr e]
        exact h
    · have z := of_decide_eq_false z
      rw [decide_eq_false fun a => z a.1] at h
      exact h
  · exact h.elim
def S_both_cells (CS : Addr) : List D → (D → Prop) → Prop := fun ds Q => match ds with
  | [a, .t [.i _, .i _, .i _, .i c, .i d]] => ∃ L : List Pr, a = shp CS L ∧ L.length ≤ 1000 ∧ Q (.l ((dbl c d L).map pt))
  | _ => False
theorem len_both_cells {CS : Addr} : ∀ ds P, S_both_cells CS ds P → ds.length = P_both_cells.length := fun ds P h => by
  unfold S_both_cells at h
  split at h <;> first | rfl | exact h.elim
theorem d_both_cells (Df : DefIn K mg "both_cells" s_both_cells P_both_cells) (T : Txt mg) (PR_cells : DO.PropD P w K mg base CS "cells" "_cells" 1) : DOk P w K mg base "both_cells" s_both_cells 3 P_both_cells (S_both_cells CS) := by
  have SC := sc_both_cells
  refine dok (k := 2) Df sc_both_cells (len_both_cells) (body := fun f cdv A outer s H E hr hg => ⟨_, _, (pss_cons (ps_asg (pe_slice (DO.kx_slA K) (pv 1) (po_some pe_int) po_none) (kx_pgTup (n := 2) K rfl (pgs_cons (pg_name (i := 2) SC.nd rfl (Or.inr rfl)) (pgs_cons (pg_name (i := 3) SC.nd rfl (Or.inr rfl)) pgs_nil)) (by rfl))) (pss_one (ps_ret (pe_op op_cat (pe_callTy (DO.kx_listOf K) (by rfl) T.z_list (by decide +kernel) (pa_cons (DO.pe_propD PR_cells (hr.mono (by decide)) (pv 0) (by rfl)) pa_nil)) (pe_lc (own := [("x", 4), ("y", 5)]) (g := (gTup K 2 (gCons (gName 4) (gCons (gName 5) gNil)))) (tt := tYes) (by rfl) SC.nd (kx_piTup K (DO.pe_propD PR_cells (hr.mono (by decide)) (pv 0) (by rfl))) (blkOk_by (own := [("x", 4), ("y", 5)]) (N := N_both_cells) (sc := defScope s_both_cells) (by decide +kernel)) (fun _ _ _ _ _ => (kx_pgTup (n := 2) K rfl (pgs_cons (pg_name (i := 4) SC.nd rfl (Or.inl rfl)) (pgs_cons (pg_name (i := 5) SC.nd rfl (Or.inl rfl)) pgs_nil)) (by rfl))) (fun _ _ _ _ _ => pts_nil) (fun _ _ _ _ _ => (pe_tup (pa_cons (pe_op op_sub (pv 2) (pv 4)) (pa_cons (pe_op op_sub (pv 3) (pv 5)) pa_nil))))))))), (s_seq (s_asg (DO.e_slA e_var (p_some e_int) p_none) (g_tup (gs_cons g_name (gs_cons g_name gs_nil)))) (s_ret (e_f (f_cat (e_f (DO.f_listOf (a_cons (DO.e_prop1 e_var) a_nil))) (e_f (f_lc (i_tup (DO.e_prop1 e_var)) (g_tup (gs_cons g_name (gs_cons g_name gs_nil))) t_yes (e_tup (a_cons (e_op o_sub e_var e_var) (a_cons (e_op o_sub e_var e_var) a_nil))))))))), ?_⟩)
  clear hr hg
  intro ds Q h
  unfold S_both_cells at h
  split at h
  · rename_i a _ _ _ c d
    obtain ⟨L, rfl, l1, h⟩ := h
    refine ⟨rfl, ?_⟩
    dsimp only [wgName, put]
    refine ⟨_, rfl, _, rfl, by rw [List.length_map]; omega, fun _ => true, fun k x => x = pt (c - (L.getD k (0, 0)).1, d - (L.getD k (0, 0)).2), fun k x hx => ?_, fun ys hs => ?_⟩
    · obtain ⟨hk, rfl⟩ := getpt hx
      exact ⟨rfl, rfl, fun _ => ⟨by show 2 ≤ 100000; decide, rfl⟩⟩
    have e1 := selmap (f := fun p => pt (c - p.1, d - p.2)) hs (by rw [List.length_map])
    subst e1
    have e2 : L.map pt ++ L.map (fun p => pt (c - p.1, d - p.2)) = (dbl c d L).map pt := by
      unfold dbl
      rw [List.map_append, List.map_map]
      rfl
    refine ⟨by rw [List.length_map, List.length_map]; omega, ?_⟩
    show Q (.l (L.map pt ++ L.map (fun p => pt (c - p.1, d - p.2))))
    rw [e2]
    exact h
  · exact h.elim
def S_is_floor (CS : Addr) : List D → (D → Prop) → Prop := fun ds Q => match ds with
  | [a, .t [.i w, .i s, .i h, .i c, .i d]] => ∃ L : List Pr, a = shp CS L ∧ L.length ≤ 30 ∧ IsLatM w s h ∧ Q (.b (decide (((dbl c d L).length : Int) = w * h ∧ ((dbl c d L).map (rest w s h)).Nodup)))
  | _ => False
theorem len_is_floor {CS : Addr} : ∀ ds P, S_is_floor CS ds P → ds.length = P_is_floor.length := fun ds P h => by
  unfold S_is_floor at h
  split at h <;> first | rfl | exact h.elim
theorem d_is_floor (Df : DefIn K mg "is_floor" s_is_floor P_is_floor) (T : Txt mg) (D_holds_each_once : DOk P w K mg base "holds_each_once" s_holds_each_once 2 P_holds_each_once S_holds_each_once) (D_both_cells : DOk P w K mg base "both_cells" s_both_cells 3 P_both_cells (S_both_cells CS)) : DOk P w K mg base "is_floor" s_is_floor 4 P_is_floor (S_is_floor CS) := by
  have SC := sc_is_floor
  refine dok (k := 3) Df sc_is_floor (len_is_floor) (body := fun f cdv A outer s H E hr hg => ⟨_, _, (pss_one (ps_ret (pe_callD D_holds_each_once.d (hr.mono (by decide)) hg (pa_cons (pe_slice (DO.kx_slA K) (pv 1) po_none (po_some pe_int)) (pa_cons (pe_callD D_both_cells.d (hr.mono (by decide)) hg (pa_cons (pv 0) (pa_cons (pv 1) pa_nil))) pa_nil))))), (s_ret (e_call (a_cons (DO.e_slA e_var p_none (p_some e_int)) (a_cons (e_call (a_cons e_var (a_cons e_var a_nil))) a_nil)))), ?_⟩)
  clear hr hg
  intro ds Q h
  unfold S_is_floor at h
  split at h
  · rename_i a w s h' c d
    obtain ⟨L, rfl, l1, I, h⟩ := h
    refine ⟨L, rfl, by omega, ?_⟩
    show S_holds_each_once [.t [.i w, .i s, .i h'], .l ((dbl c d L).map pt)] _
    exact ⟨dbl c d L, rfl, I, by rw [dbl_len]; omega, h⟩
  · exact h.elim
def S_has_form : List D → (D → Prop) → Prop := fun ds Q => match ds with
  | [x] => NV x ∧ ∀ b : Bool, (b = true ↔ ∃ w s h c d : Int, x = .t [.i w, .i s, .i h, .i c, .i d] ∧ 0 ≤ s ∧ s < w ∧ 1 ≤ h ∧ 0 ≤ c ∧ c < w ∧ 0 ≤ d ∧ d < h) → Q (.b b)
  | _ => False
theorem len_has_form : ∀ ds P, S_has_form ds P → ds.length = P_has_form.length := fun ds P h => by
  unfold S_has_form at h
  split at h <;> first | rfl | exact h.elim
theorem d_has_form (Df : DefIn K mg "has_form" s_has_form P_has_form) (T : Txt mg) (D_is_lattice : DOk P w K mg base "is_lattice" s_is_lattice 3 P_is_lattice S_is_lattice) (D_is_ints : DOk P w K mg base "is_ints" s_is_ints 2 P_is_ints S_is_ints) : DOk P w K mg base "has_form" s_has_form 4 P_has_form S_has_form := by
  have SC := sc_has_form
  refine dok (k := 3) Df sc_has_form (len_has_form) (body := fun f cdv A outer s H E hr hg => ⟨_, _, (pss_one (ps_ret (pe_and (pe_callD D_is_ints.d (hr.mono (by decide)) hg (pa_cons (pv 0) (pa_cons pe_int pa_nil))) (pe_and (pe_callD D_is_lattice.d (hr.mono (by decide)) hg (pa_cons (pe_slice (DO.kx_slA K) (pv 0) po_none (po_some pe_int)) pa_nil)) (pe_and (pe_chain op_le op_lt pe_int (pe_ix (kx_ixT K) (pv 0) pe_int (fun _ _ => rfl)) (pe_ix (kx_ixT K) (pv 0) pe_int (fun _ _ => rfl))) (pe_one (pe_chain op_le op_lt pe_int (pe_ix (kx_ixT K) (pv 0) pe_int (fun _ _ => rfl)) (pe_ix (kx_ixT K) (pv 0) pe_int (fun _ _ => rfl))))))))), (s_ret (e_andV (e_call (a_cons e_var (a_cons e_int a_nil))) (e_andV (e_call (a_cons (DO.e_slA e_var p_none (p_some e_int)) a_nil)) (e_andV (e_chain o_le o_lt e_int (e_op o_ixT e_var e_int) (e_op o_ixT e_var e_int)) (e_chain o_le o_lt e_int (e_op o_ixT e_var e_int) (e_op o_ixT e_var e_int)))))), ?_⟩)
  clear hr hg
  intro ds Q h
  unfold S_has_form at h
  split at h
  · rename_i x
    obtain ⟨nv, h⟩ := h
    refine ⟨.inl nv, ⟨fun z => ?_, fun z => ?_⟩⟩
    · obtain ⟨w, s, h', c, d, rfl⟩ := ints5 z
      have hx : ∀ b : Bool, (b = true ↔ (0 ≤ s ∧ s < w ∧ 1 ≤ h' ∧ 0 ≤ c ∧ c < w ∧ 0 ≤ d ∧ d < h')) → Q (.b b) := fun b hb => h b (hb.trans ⟨fun a => ⟨w, s, h', c, d, rfl, a⟩, fun ⟨w', s', h2, c', d', e, a⟩ => by
        simp only [D.t.injEq, List.cons.injEq, D.i.injEq, and_true] at e
        obtain ⟨rfl, rfl, rfl, rfl, rfl⟩ := e
        exact a⟩)
      have no : ¬ (0 ≤ s ∧ s < w ∧ 1 ≤ h' ∧ 0 ≤ c ∧ c < w ∧ 0 ≤ d ∧ d < h') → Q (.b false) := fun n => hx false ⟨(fun z => nomatch z), fun a => absurd a n⟩
      show (decide (0 ≤ s ∧ s < w ∧ 1 ≤ h') = true → _) ∧ (decide (0 ≤ s ∧ s < w ∧ 1 ≤ h') = false → _)
      refine ⟨fun z1 => ?_, fun z1 => no fun a => of_decide_eq_false z1 ⟨a.1, a.2.1, a.2.2.1⟩⟩
      have z1 := of_decide_eq_true z1
      refine ⟨_, rfl, ⟨fun z2 => ⟨_, rfl, ⟨fun z3 => ?_, fun z3 => no fun a => of_decide_eq_false z3 a.2.2.2.2.1⟩⟩, fun z2 => ⟨(fun z => nomatch z), fun _ => no fun a => of_decide_eq_false z2 a.2.2.2.1⟩⟩⟩
      have z2 := of_decide_eq_true z2
      have z3 := of_decide_eq_true z3
      refine ⟨_, rfl, ⟨fun z4 => ⟨_, rfl, ?_⟩, fun z4 => no fun a => of_decide_eq_false z4 a.2.2.2.2.2.1⟩⟩
      have z4 := of_decide_eq_true z4
      exact hx _ ⟨fun z5 => ⟨z1.1, z1.2.1, z1.2.2, z2, z3, z4, of_decide_eq_true z5⟩, fun a => decide_eq_true a.2.2.2.2.2.2⟩
    · refine h false ⟨(fun z => nomatch z), ?_⟩
      rintro ⟨w, s, h', c, d, rfl, _⟩
      cases z
  · exact h.elim
def S_is_turned_floor (CS : Addr) : List D → (D → Prop) → Prop := fun ds Q => match ds with
  | [a, x] => ∃ L : List Pr, a = shp CS L ∧ L.length ≤ 30 ∧ NV x ∧ (∀ w s h c d : Int, x = .t [.i w, .i s, .i h, .i c, .i d] → CMul w h) ∧ Q (.b (floorD L x))
  | _ => False
theorem len_is_turned_floor {CS : Addr} : ∀ ds P, S_is_turned_floor CS ds P → ds.length = P_is_turned_floor.length := fun ds P h => by
  unfold S_is_turned_floor at h
  split at h <;> first | rfl | exact h.elim
theorem d_is_turned_floor (Df : DefIn K mg "is_turned_floor" s_is_turned_floor P_is_turned_floor) (T : Txt mg) (D_check_shape : DOk P w K mg base "check_shape" s_check_shape 1 P_check_shape (S_check_shape CS)) (D_is_floor : DOk P w K mg base "is_floor" s_is_floor 4 P_is_floor (S_is_floor CS)) (D_has_form : DOk P w K mg base "has_form" s_has_form 4 P_has_form S_has_form) : DOk P w K mg base "is_turned_floor" s_is_turned_floor 5 P_is_turned_floor (S_is_turned_floor CS) := by
  have SC := sc_is_turned_floor
  refine dok (k := 4) Df sc_is_turned_floor (len_is_turned_floor) (body := fun f cdv A outer s H E hr hg => ⟨_, _, (pss_cons (ps_expr (pe_callD D_check_shape.d (hr.mono (by decide)) hg (pa_cons (pv 0) pa_nil))) (pss_one (ps_ret (pe_and (pe_callD D_has_form.d (hr.mono (by decide)) hg (pa_cons (pv 1) pa_nil)) (pe_one (pe_callD D_is_floor.d (hr.mono (by decide)) hg (pa_cons (pv 0) (pa_cons (pv 1) pa_nil)))))))), (s_seq (s_drop (e_call (a_cons e_var a_nil))) (s_ret (e_andV (e_call (a_cons e_var a_nil)) (e_call (a_cons e_var (a_cons e_var a_nil)))))), ?_⟩)
  clear hr hg
  intro ds Q h
  unfold S_is_turned_floor at h
  split at h
  · rename_i a x
    obtain ⟨L, rfl, l1, nv, cm, h⟩ := h
    refine ⟨⟨L, rfl⟩, nv, fun b hb => ⟨fun e => ?_, fun e => ?_⟩⟩
    · obtain ⟨w, s, h', c, d, rfl, a⟩ := hb.mp e
      refine ⟨L, rfl, l1, ⟨⟨by omega, by omega, by omega, by omega⟩, cm w s h' c d rfl⟩, ?_⟩
      rw [show floorD L (.t [.i w, .i s, .i h', .i c, .i d]) = decide (((dbl c d L).length : Int) = w * h' ∧ ((dbl c d L).map (rest w s h')).Nodup) from by
        show decide (okF L w s h' c d) = _
        rw [decide_eq_decide]
        exact ⟨fun z => z.2, fun z => ⟨a, z⟩⟩] at h
      exact h
    · rw [show floorD L x = false from by
        rw [Bool.eq_false_iff]
        intro z
        unfold floorD at z
        split at z
        · have z := of_decide_eq_true z
          have := hb.mpr ⟨_, _, _, _, _, rfl, z.1⟩
          rw [e] at this
          cases this
        · cases z] at h
      exact h
  · exact h.elim
/-- the lattices of a width -/
def rowD (n : Int) (k : Nat) : List D := if n % (1 + (k : Int)) = 0 then (List.range (k + 1)).map fun (s : Nat) => .t [.i (1 + (k : Int)), .i (s : Int), .i (n / (1 + (k : Int)))] else []
/-- all lattices with n rests -/
def latsD (n : Int) : List D := ((List.range n.toNat).map (rowD n)).flatten
theorem div_pos {n m : Int} (hn : 0 < n) (hm : 0 < m) (e : n % m = 0) : 0 < n / m ∧ m * (n / m) = n ∧ n / m ≤ n := by
  have h := Int.mul_ediv_add_emod n m
  have h2 : n / m ≤ n := Int.ediv_le_self _ (by omega)
  refine ⟨?_, by omega, h2⟩
  have h3 := Int.ediv_nonneg (show 0 ≤ n by omega) (show 0 ≤ m by omega)
  rcases Int.lt_trichotomy (n / m) 0 with c | c | c
  · omega
  · rw [c] at h
    simp only [Int.mul_zero] at h
    omega
  · exact c
theorem lats_mem {n : Int} {x : D} (n1 : 1 ≤ n) (n2 : n ≤ 24) (hx : x ∈ latsD n) : ∃ w s h : Int, x = .t [.i w, .i s, .i h] ∧ IsLat w s h ∧ w * h = n ∧ w ≤ 24 ∧ h ≤ 24 := by
  obtain ⟨l, hl, hx⟩ := List.mem_flatten.mp hx
  obtain ⟨k, hk, rfl⟩ := List.mem_map.mp hl
  have hk := List.mem_range.mp hk
  unfold rowD at hx
  split at hx
  · rename_i z
    obtain ⟨s, hs, rfl⟩ := List.mem_map.mp hx
    have hs := List.mem_range.mp hs
    obtain ⟨d1, d2, d3⟩ := div_pos (show 0 < n by omega) (show 0 < 1 + (k : Int) by omega) z
    exact ⟨_, _, _, rfl, ⟨by omega, by omega, by omega, by omega, d1, by omega⟩, d2, by omega, by omega⟩
  · cases hx
theorem row_len {n : Int} {k : Nat} : (rowD n k).length ≤ k + 1 := by
  unfold rowD
  split
  · rw [List.length_map, List.length_range]
    exact Nat.le_refl _
  · exact Nat.zero_le _
theorem lats_succ {n : Int} {k : Nat} : ((List.range (k + 1)).map (rowD n)).flatten = ((List.range k).map (rowD n)).flatten ++ rowD n k := by
  rw [List.range_succ, List.map_append, List.flatten_append]
  simp
theorem lats_len {n : Int} : ∀ k : Nat, k ≤ 24 → ((List.range k).map (rowD n)).flatten.length ≤ 24 * k
  | 0, _ => Nat.le_refl _
  | k + 1, h => by
    rw [lats_succ, List.length_append]
    have := lats_len (n := n) k (by omega)
    have := row_len (n := n) (k := k)
    omega
def S_lattices_with : List D → (D → Prop) → Prop := fun ds Q => match ds with
  | [.i n] => (1 ≤ n ∧ n ≤ 24) ∧ Q (.l (latsD n))
  | _ => False
theorem len_lattices_with : ∀ ds P, S_lattices_with ds P → ds.length = P_lattices_with.length := fun ds P h => by
  unfold S_lattices_with at h
  split at h <;> first | rfl | exact h.elim
theorem d_lattices_with (Df : DefIn K mg "lattices_with" s_lattices_with P_lattices_with) (T : Txt mg) : DOk P w K mg base "lattices_with" s_lattices_with 1 P_lattices_with S_lattices_with := by
  have SC := sc_lattices_with
  refine dok (k := 0) Df sc_lattices_with (len_lattices_with) (body := fun f cdv A outer s H E hr hg => ⟨_, _, (pss_one (ps_ret (pe_lc2 (own := [("wide", 1), ("slip", 2)]) (vs1 := [2]) (g := (gName 1)) (g1 := (gName 2)) (tt1 := tYes) (by rfl) SC.nd (pi_range2 (by rfl) T.z_range (pa_cons pe_int (pa_cons (pe_op op_add (pv 0) pe_int) pa_nil))) (blkOk_by (own := [("wide", 1), ("slip", 2)]) (N := N_lattices_with) (sc := defScope s_lattices_with) (by decide +kernel)) (by decide) (fun _ _ _ _ _ => (pg_name (i := 1) SC.nd rfl (Or.inl rfl))) (fun _ _ _ _ _ => (pts_one (pt_cmpR op_eq (pe_op op_mod (pv 0) (pv 1)) pe_int (nomark _)))) (fun _ _ _ _ _ => (pi_range1 (by rfl) T.z_range (pa_cons (pv 1) pa_nil))) (fun _ _ _ _ _ => (pg_name (i := 2) SC.nd rfl (Or.inl rfl))) (fun _ _ _ _ _ => pts_nil) (fun _ _ _ _ _ => (pe_tup (pa_cons (pv 1) (pa_cons (pv 2) (pa_cons (pe_op op_fdiv (pv 0) (pv 1)) pa_nil)))))))), (s_ret (e_f (f_lc2T (i_rng2 (a_cons e_int (a_cons (e_op o_add e_var e_int) a_nil))) g_name (t_test (e_op o_eqS (e_op o_mod e_var e_var) e_int)) (i_rng1 (a_cons e_var a_nil)) g_name t_yes (e_tup (a_cons e_var (a_cons e_var (a_cons (e_op o_fdiv e_var e_var) a_nil))))))), ?_⟩)
  clear hr hg
  intro ds Q h
  unfold S_lattices_with at h
  split at h
  · rename_i n
    obtain ⟨⟨n1, n2⟩, h⟩ := h
    rw [show startG N_lattices_with.length [.i n] = [.d (.i n), .u, .u] from rfl]
    refine ⟨⟨by decide, by decide, by omega, by omega⟩, by rw [rngD_len]; omega, fun k => decide (n % (1 + (k : Int)) = 0), fun k zs => zs = rowD n k, fun k x hx => ?_, fun zss zl zp => ?_⟩
    · obtain ⟨hk, rfl⟩ := rngD_get' hx
      refine ⟨by omega, rfl, fun z => ⟨rfl, ⟨by omega, by omega⟩, by rw [rngD_len]; omega, fun _ => true, fun j d => d = .t [.i (1 + (k : Int)), .i (j : Int), .i (n / (1 + (k : Int)))], fun j y hy => ?_, fun zs hs => ?_⟩⟩
      · obtain ⟨hj, rfl⟩ := rngD_get' hy
        rw [Int.zero_add]
        exact ⟨rfl, fun _ => ⟨⟨by omega, by omega⟩, by show 3 ≤ 100000; decide, rfl⟩⟩
      · have e := hs.map
        rw [rngD_len] at e
        show zs = rowD n k
        unfold rowD
        rw [if_pos (of_decide_eq_true z), e, show (1 + (k : Int)).toNat = k + 1 by omega]
    · rw [rngD_len] at zl
      have e : zss = (List.range n.toNat).map (rowD n) := List.ext_getElem? fun k => by
        by_cases hk : k < zss.length
        · have q := zp k zss[k] (List.getElem?_eq_getElem hk)
          rw [List.getElem?_eq_getElem hk, List.getElem?_map, List.getElem?_range (by omega)]
          show some zss[k] = some (rowD n k)
          split at q
          · rw [q]
          · rename_i z
            rw [decide_eq_true_iff] at z
            unfold rowD
            rw [if_neg z, q]
        · rw [List.getElem?_eq_none (by omega), List.getElem?_eq_none (by rw [List.length_map, List.length_range]; omega)]
      subst e
      exact h
  · exact h.elim
def S_check_cell : List D → (D → Prop) → Prop := fun ds Q => match ds with
  | [.t [.i _, .i _]] => Q .n
  | _ => False
theorem len_check_cell : ∀ ds P, S_check_cell ds P → ds.length = P_check_cell.length := fun ds P h => by
  unfold S_check_cell at h
  split at h <;> first | rfl | exact h.elim
theorem d_check_cell (Df : DefIn K mg "check_cell" s_check_cell P_check_cell) (T : Txt mg) (D_is_pair : DOk P w K mg base "is_pair" s_is_pair 2 P_is_pair S_is_pair) : DOk P w K mg base "check_cell" s_check_cell 3 P_check_cell S_check_cell := by
  have SC := sc_check_cell
  refine dok (k := 2) Df sc_check_cell (len_check_cell) (body := fun f cdv A outer s H E hr hg => ⟨_, _, (pss_one (ps_if (pt_not (pt_val (pe_callD D_is_pair.d (hr.mono (by decide)) hg (pa_cons (pv 0) pa_nil)))) (pss_one ps_never) pss_nil)), (s_if (t_not (t_B (e_call (a_cons e_var a_nil)))) s_never s_next), ?_⟩)
  clear hr hg
  intro ds Q h
  unfold S_check_cell at h
  split at h
  · exact ⟨(fun z => nomatch z), fun _ => h⟩
  · exact h.elim
def S_holder : List D → (D → Prop) → Prop := fun ds Q => match ds with
  | [.t [.i w, .i s, .i h], .l xs, .t [.i x, .i y]] => ∃ L : List Pr, xs = L.map pt ∧ IsLat w s h ∧ Fills w s h L ∧ L.length ≤ 60 ∧ ∀ k : Nat, k < L.length → rest w s h (L.getD k (0, 0)) = rest w s h (x, y) → Q (.t [.i (k : Nat), pt (x - (L.getD k (0, 0)).1, y - (L.getD k (0, 0)).2)])
  | _ => False
theorem len_holder : ∀ ds P, S_holder ds P → ds.length = P_holder.length := fun ds P h => by
  unfold S_holder at h
  split at h <;> first | rfl | exact h.elim
theorem d_holder (Df : DefIn K mg "holder" s_holder P_holder) (T : Txt mg) (D_rest_of : DOk P w K mg base "rest_of" s_rest_of 1 P_rest_of S_rest_of) : DOk P w K mg base "holder" s_holder 2 P_holder S_holder := by
  have SC := sc_holder
  refine dok (k := 1) Df sc_holder (len_holder) (body := fun f cdv A outer s H E hr hg => ⟨_, _, (pss_cons (ps_set (i := 3) SC.nd rfl (Or.inl rfl) (pe_bm PySem.F.plainAttrs_list PySem.F.slot_list_index PySem.F.type_list_index (DO.kx_idxL K hr.u65) (pe_lc (own := [("own", 4)]) (g := (gName 4)) (tt := tYes) (by rfl) SC.nd (kx_piList K (pv 1)) (blkOk_by (own := [("own", 4)]) (N := N_holder) (sc := defScope s_holder) (by decide +kernel)) (fun _ _ _ _ _ => (pg_name (i := 4) SC.nd rfl (Or.inl rfl))) (fun _ _ _ _ _ => pts_nil) (fun _ _ _ _ _ => (pe_callD D_rest_of.d (hr.mono (by decide)) hg (pa_cons (pv 0) (pa_cons (pv 4) pa_nil))))) (pa_cons (pe_callD D_rest_of.d (hr.mono (by decide)) hg (pa_cons (pv 0) (pa_cons (pv 2) pa_nil))) pa_nil))) (pss_cons (ps_asg (pe_ix (kx_ixL K) (pv 1) (pv 3) (fun _ _ => rfl)) (kx_pgTup (n := 2) K rfl (pgs_cons (pg_name (i := 5) SC.nd rfl (Or.inl rfl)) (pgs_cons (pg_name (i := 6) SC.nd rfl (Or.inl rfl)) pgs_nil)) (by rfl))) (pss_one (ps_ret (pe_tup (pa_cons (pv 3) (pa_cons (pe_tup (pa_cons (pe_op op_sub (pe_ix (kx_ixT K) (pv 2) pe_int (fun _ _ => rfl)) (pv 5)) (pa_cons (pe_op op_sub (pe_ix (kx_ixT K) (pv 2) pe_int (fun _ _ => rfl)) (pv 6)) pa_nil))) pa_nil))))))), (s_seq (s_asg (DO.e_idxL (e_f (f_lc (i_list e_var) g_name t_yes (e_call (a_cons e_var (a_cons e_var a_nil))))) (e_call (a_cons e_var (a_cons e_var a_nil)))) g_name) (s_seq (s_asg (e_op o_ixL e_var e_var) (g_tup (gs_cons g_name (gs_cons g_name gs_nil)))) (s_ret (e_tup (a_cons e_var (a_cons (e_tup (a_cons (e_op o_sub (e_op o_ixT e_var e_int) e_var) (a_cons (e_op o_sub (e_op o_ixT e_var e_int) e_var) a_nil))) a_nil)))))), ?_⟩)
  clear hr hg
  intro ds Q h
  unfold S_holder at h
  split at h
  · rename_i w s h' xs x y
    obtain ⟨L, rfl, I, F, l60, h⟩ := h
    rw [show startG N_holder.length [.t [.i w, .i s, .i h'], .l (L.map pt), .t [.i x, .i y]] = [.d (.t [.i w, .i s, .i h']), .d (.l (L.map pt)), .d (.t [.i x, .i y]), .u, .u, .u, .u] from rfl]
    refine ⟨by rw [List.length_map]; omega, fun _ => true, fun k d => d = pt (rest w s h' (L.getD k (0, 0))), fun k z hz => ?_, fun ys hs => ?_⟩
    · obtain ⟨hk, rfl⟩ := getpt hz
      exact ⟨rfl, fun _ => ⟨I, rfl⟩⟩
    have e1 := selmap (f := fun p => pt (rest w s h' p)) hs (by rw [List.length_map])
    subst e1
    refine ⟨L.map (rest w s h'), by rw [List.map_map]; rfl, I, rest w s h' (x, y), rfl, F.all I.isL (x, y), ?_⟩
    have hm := F.all I.isL (x, y)
    generalize ek : idx (L.map (rest w s h')) (rest w s h' (x, y)) = k
    have kl : k < L.length := by
      rw [← ek]
      have this : idx (L.map (rest w s h')) (rest w s h' (x, y)) < (L.map (rest w s h')).length := (@List.idxOf_lt_length_iff Pr instBEqOfDecidableEq inferInstance _ _).mpr hm
      rw [List.length_map] at this
      exact this
    have er : rest w s h' (L.getD k (0, 0)) = rest w s h' (x, y) := by
      rw [List.getD_eq_getElem?_getD, List.getElem?_eq_getElem kl]
      have h0 : k < (L.map (rest w s h')).length := by rw [List.length_map]; exact kl
      have z : (L.map (rest w s h'))[k] = rest w s h' (x, y) := by
        subst ek
        exact @List.getElem_idxOf Pr instBEqOfDecidableEq inferInstance _ _ h0
      rw [List.getElem_map] at z
      exact z
    dsimp only [wgName, put]
    have at1 : L2.atI (L.map pt) ((k : Nat) : Int) = some (pt (L.getD k (0, 0))) := L2.atI_nat (by rw [List.getElem?_map, List.getElem?_eq_getElem kl, List.getD_eq_getElem?_getD, List.getElem?_eq_getElem kl]; rfl)
    refine ⟨_, at1, rfl, ?_⟩
    dsimp only [wgName, put]
    exact ⟨_, rfl, _, rfl, by show 2 ≤ 100000; decide, by show 2 ≤ 100000; decide, h k kl er⟩
  · exact h.elim
end
end K40
namespace DE
variable [DL.TabsT]
open PySem PySem.Spec PyProof.Rows L2 Evl Lay ErrX DL TE
structure Rep (K : PySem.W.Frag) (B : Hp → Hp → Prop) (F0 H0 F H : Hp) (σ : L2.St) (Γ : G) : Prop where
  bs : ∃ F00, B F00 H0 ∧ ∀ F H, Ext F0 H0 F H → Ext F00 H0 F H
  f0 : Ex F0 F
  h0 : ExT H0 H
  fh : Ex F H
  tb : Kn F H
  nw : ∀ p o, F p = some o → F0 p = none → Free H0 p
  len : σ.length = Γ.length
  sl : ∀ k x, nth Γ k = .d x → ∃ v, σ[k]? = some (some v) ∧ R K F v x
  ow : ∀ k o, nth Γ k = .w o → ∃ p ho, σ[k]? = some (some (.ref p)) ∧ F p = none ∧ Free H0 p ∧ H p = some ho ∧ OwnOk K F p o ho
  inj : ∀ k m o o' p, k ≠ m → nth Γ k = .w o → nth Γ m = .w o' → σ[k]? = some (some (.ref p)) → σ[m]? = some (some (.ref p)) → False
section
variable {K : PySem.W.Frag} {B : Hp → Hp → Prop} {F0 H0 F H F' H' : Hp} {σ : L2.St} {Γ : G}
theorem Rep.ek (r : Rep K B F0 H0 F H σ Γ) : ExK F H := ⟨r.fh, r.tb⟩
theorem Rep.ext0 (r : Rep K B F0 H0 F H σ Γ) : Ext F0 H0 F H := ⟨r.f0, r.h0, r.fh, fun _ => r.tb, r.nw⟩
theorem Rep.ol (r : Rep K B F0 H0 F H σ Γ) (k : Nat) (xs : List D) (h : nth Γ k = .ol xs) : ∃ p vs, σ[k]? = some (some (.ref p)) ∧ F p = none ∧ Free H0 p ∧ H p = some (.lst vs) ∧ RA K F vs xs := by
  obtain ⟨p, ho, a, b, c, d, vs, e, f⟩ := r.ow k _ h
  subst e
  exact ⟨p, vs, a, b, c, d, f⟩
theorem Rep.ext (r : Rep K B F0 H0 F H σ Γ) (e : Ext F H F' H') : Rep K B F0 H0 F' H' σ Γ :=
  let z := r.ext0.trans e
  ⟨r.bs, z.ff, z.hh, z.fh, e.tb r.tb, z.nw, r.len, fun k x h => let ⟨v, a, b⟩ := r.sl k x h; ⟨v, a, b.mono e.ff⟩, fun k xs h => by
    obtain ⟨p, vs, a, b, c, d, f⟩ := r.ow k xs h
    refine ⟨p, vs, a, ?_, c, e.hh.kp d f.nt.1, f.mono e.ff⟩
    cases q : F' p with
    | none => rfl
    | some o =>
      exact ((e.nw p o q b).not d f.nt.1).elim, r.inj⟩
theorem Rep.set (r : Rep K B F0 H0 F H σ Γ) {k : Nat} {v : V} {x : D} (h : R K F v x) : Rep K B F0 H0 F H (σ.set k (some v)) (put Γ k (.d x)) := by
  refine ⟨r.bs, r.f0, r.h0, r.fh, r.tb, r.nw, by rw [List.length_set, put_length, r.len], fun m y q => ?_, fun m xs q => ?_, fun m m' xs ys p ne q1 q2 s1 s2 => ?_⟩
  · rw [nth_put] at q
    split at q
    · rename_i z
      obtain ⟨rfl, z⟩ := z
      cases q
      exact ⟨v, by rw [List.getElem?_set_self (by rw [r.len]; exact z)], h⟩
    · rename_i z
      obtain ⟨u, a, b⟩ := r.sl m y q
      refine ⟨u, ?_, b⟩
      by_cases e : k = m
      · subst e
        rw [nth_out (Nat.le_of_not_lt fun l => z ⟨rfl, l⟩)] at q
        cases q
      · rw [List.getElem?_set_ne e]
        exact a
  · rw [nth_put] at q
    split at q
    · cases q
    · rename_i z
      obtain ⟨p, vs, a, b⟩ := r.ow m xs q
      refine ⟨p, vs, ?_, b⟩
      by_cases e : k = m
      · subst e
        rw [nth_out (Nat.le_of_not_lt fun l => z ⟨rfl, l⟩)] at q
        cases q
      · rw [List.getElem?_set_ne e]
        exact a
  · have key : ∀ m xs, nth (put Γ k (.d x)) m = .w xs → k ≠ m ∧ nth Γ m = .w xs := fun m xs q => by
      rw [nth_put] at q
      split at q
      · cases q
      · rename_i z
        refine ⟨fun e => ?_, q⟩
        subst e
        rw [nth_out (Nat.le_of_not_lt fun l => z ⟨rfl, l⟩)] at q
        cases q
    obtain ⟨a1, a2⟩ := key _ _ q1
    obtain ⟨b1, b2⟩ := key _ _ q2
    rw [List.getElem?_set_ne a1] at s1
    rw [List.getElem?_set_ne b1] at s2
    exact r.inj m m' xs ys p ne a2 b2 s1 s2
theorem Rep.setW (r : Rep K B F0 H0 F H σ Γ) {k : Nat} {p : Addr} {vs : HO} {xs : Own} (hf : F p = none) (h0 : Free H0 p) (hp : H p = some vs) (h : OwnOk K F p xs vs) (hn : ∀ m ys, m ≠ k → nth Γ m = .w ys → σ[m]? = some (some (.ref p)) → False) :
    Rep K B F0 H0 F H (σ.set k (some (.ref p))) (put Γ k (.w xs)) := by
  have out : ∀ {m : Nat} {y : Sl}, ¬ (m = k ∧ k < Γ.length) → nth Γ m = y → y ≠ .u → k ≠ m := fun {m y} z q n e => by
    subst e
    rw [nth_out (Nat.le_of_not_lt fun l => z ⟨rfl, l⟩)] at q
    exact n q.symm
  refine ⟨r.bs, r.f0, r.h0, r.fh, r.tb, r.nw, by rw [List.length_set, put_length, r.len], fun m y q => ?_, fun m ys q => ?_, fun m m' ys zs p' ne q1 q2 s1 s2 => ?_⟩
  · rw [nth_put] at q
    split at q
    · cases q
    · rename_i z
      obtain ⟨u, a, b⟩ := r.sl m y q
      exact ⟨u, by rw [List.getElem?_set_ne (out z q (by simp))]; exact a, b⟩
  · rw [nth_put] at q
    split at q
    · rename_i z
      obtain ⟨rfl, z⟩ := z
      cases q
      exact ⟨p, vs, by rw [List.getElem?_set_self (by rw [r.len]; exact z)], hf, h0, hp, h⟩
    · rename_i z
      obtain ⟨p', vs', a, b⟩ := r.ow m ys q
      exact ⟨p', vs', by rw [List.getElem?_set_ne (out z q (by simp))]; exact a, b⟩
  · rw [nth_put] at q1 q2
    split at q1
    · rename_i z
      obtain ⟨rfl, z⟩ := z
      split at q2
      · rename_i z2
        exact ne z2.1.symm
      · rename_i z2
        have e2 := out z2 q2 (by simp)
        rw [List.getElem?_set_self (by rw [r.len]; exact z)] at s1
        rw [List.getElem?_set_ne e2] at s2
        cases s1
        exact hn m' zs (fun e => e2 e.symm) q2 s2
    · rename_i z
      have e1 := out z q1 (by simp)
      rw [List.getElem?_set_ne e1] at s1
      split at q2
      · rename_i z2
        obtain ⟨rfl, z2⟩ := z2
        rw [List.getElem?_set_self (by rw [r.len]; exact z2)] at s2
        cases s2
        exact hn m ys (fun e => e1 e.symm) q1 s1
      · rename_i z2
        rw [List.getElem?_set_ne (out z2 q2 (by simp))] at s2
        exact r.inj m m' ys zs p' ne q1 q2 s1 s2
theorem Rep.setO (r : Rep K B F0 H0 F H σ Γ) {k : Nat} {p : Addr} {vs : List V} {xs : List D} (hf : F p = none) (h0 : Free H0 p) (hp : H p = some (.lst vs)) (h : RA K F vs xs) (hn : ∀ m ys, m ≠ k → nth Γ m = .w ys → σ[m]? = some (some (.ref p)) → False) :
    Rep K B F0 H0 F H (σ.set k (some (.ref p))) (put Γ k (.ol xs)) := r.setW hf h0 hp ⟨vs, rfl, h⟩ hn
theorem Rep.chgW (r : Rep K B F0 H0 F H σ Γ) {k : Nat} {p : Addr} {ws : HO} {xs ys : Own} (hk : nth Γ k = .w xs) (hs : σ[k]? = some (some (.ref p))) (h : OwnOk K F p ys ws) : Rep K B F0 H0 F (upd H p ws) σ (put Γ k (.w ys)) := by
  obtain ⟨p', vs, a, b, c, d, f⟩ := r.ow k xs hk
  rw [hs] at a
  cases a
  have kl : k < Γ.length := Nat.lt_of_not_le fun l => by
    rw [nth_out l] at hk
    cases hk
  refine ⟨r.bs, r.f0, r.h0.mut c, fun a u q => ?_, r.tb.mut d f.nt, r.nw, by rw [put_length, r.len], fun m y q => ?_, fun m zs q => ?_, fun m m' zs zs' p' ne q1 q2 s1 s2 => ?_⟩
  · rw [upd_ne (ne_of_none q b)]
    exact r.fh a u q
  · rw [nth_put] at q
    split at q
    · cases q
    · exact r.sl m y q
  · rw [nth_put] at q
    split at q
    · rename_i z
      obtain ⟨rfl, z⟩ := z
      cases q
      exact ⟨p, ws, hs, b, c, upd_same, h⟩
    · rename_i z
      obtain ⟨p', vs', a', b', c', d', f'⟩ := r.ow m zs q
      refine ⟨p', vs', a', b', c', ?_, f'⟩
      rw [upd_ne fun e => ?_]
      · exact d'
      · subst e
        exact r.inj m k zs xs p' (fun e => z ⟨e, kl⟩) q hk a' hs
  · have key : ∀ m zs, nth (put Γ k (.w ys)) m = .w zs → ∃ zs', nth Γ m = .w zs' := fun m zs q => by
      rw [nth_put] at q
      split at q
      · rename_i z
        exact ⟨xs, by rw [z.1]; exact hk⟩
      · exact ⟨zs, q⟩
    obtain ⟨z1, k1⟩ := key _ _ q1
    obtain ⟨z2, k2⟩ := key _ _ q2
    exact r.inj m m' z1 z2 p' ne k1 k2 s1 s2
theorem Rep.chg (r : Rep K B F0 H0 F H σ Γ) {k : Nat} {p : Addr} {ws : List V} {xs ys : List D} (hk : nth Γ k = .ol xs) (hs : σ[k]? = some (some (.ref p))) (h : RA K F ws ys) : Rep K B F0 H0 F (upd H p (.lst ws)) σ (put Γ k (.ol ys)) := r.chgW hk hs ⟨ws, rfl, h⟩
theorem Rep.frz (r : Rep K B F0 H0 F H σ Γ) {k : Nat} {xs : List D} (hk : nth Γ k = .ol xs) : ∃ F', Rep K B F0 H0 F' H σ (put Γ k (.d (.l xs))) := by
  obtain ⟨p, vs, a, b, c, d, f⟩ := r.ol k xs hk
  have kl : k < Γ.length := Nat.lt_of_not_le fun l => by
    rw [nth_out l] at hk
    cases hk
  have e : Ex F (upd F p (.lst vs)) := Ex.new b
  refine ⟨upd F p (.lst vs), r.bs, r.f0.trans e, r.h0, ex_told r.fh d, ⟨r.tb.1.upd (fun ps z => by cases z), r.tb.2⟩, fun a' o q n => ?_, by rw [put_length, r.len], fun m y q => ?_, fun m zs q => ?_, fun m m' zs zs' p' ne q1 q2 s1 s2 => ?_⟩
  · by_cases z : a' = p
    · rw [z]
      exact c
    · rw [upd_ne z] at q
      exact r.nw a' o q n
  · rw [nth_put] at q
    split at q
    · rename_i z
      obtain ⟨rfl, z⟩ := z
      cases q
      exact ⟨_, a, .l upd_same (f.mono e)⟩
    · obtain ⟨v, h1, h2⟩ := r.sl m y q
      exact ⟨v, h1, h2.mono e⟩
  · rw [nth_put] at q
    split at q
    · cases q
    · rename_i z
      obtain ⟨p', vs', a', b', c', d', f'⟩ := r.ow m zs q
      refine ⟨p', vs', a', ?_, c', d', f'.mono e⟩
      rw [upd_ne fun y => ?_]
      · exact b'
      · subst y
        exact r.inj m k zs _ p' (fun e => z ⟨e, kl⟩) q hk a' a
  · have key : ∀ m zs, nth (put Γ k (.d (.l xs))) m = .w zs → nth Γ m = .w zs := fun m zs q => by
      rw [nth_put] at q
      split at q
      · cases q
      · exact q
    exact r.inj m m' zs zs' p' ne (key _ _ q1) (key _ _ q2) s1 s2
theorem Rep.drop (r : Rep K B F0 H0 F H σ Γ) {k : Nat} {o : Option V} : Rep K B F0 H0 F H (σ.set k o) (put Γ k .u) := by
  have key : ∀ m y, nth (put Γ k .u) m = y → y ≠ .u → k ≠ m ∧ nth Γ m = y := fun m y q n => by
    rw [nth_put] at q
    split at q
    · exact absurd q.symm n
    · rename_i z
      refine ⟨fun e => ?_, q⟩
      subst e
      rw [nth_out (Nat.le_of_not_lt fun l => z ⟨rfl, l⟩)] at q
      exact n q.symm
  refine ⟨r.bs, r.f0, r.h0, r.fh, r.tb, r.nw, by rw [List.length_set, put_length, r.len], fun m y q => ?_, fun m xs q => ?_, fun m m' xs ys p ne q1 q2 s1 s2 => ?_⟩
  · obtain ⟨e, q⟩ := key _ _ q (by simp)
    rw [List.getElem?_set_ne e]
    exact r.sl m y q
  · obtain ⟨e, q⟩ := key _ _ q (by simp)
    rw [List.getElem?_set_ne e]
    exact r.ow m xs q
  · obtain ⟨e1, q1⟩ := key _ _ q1 (by simp)
    obtain ⟨e2, q2⟩ := key _ _ q2 (by simp)
    rw [List.getElem?_set_ne e1] at s1
    rw [List.getElem?_set_ne e2] at s2
    exact r.inj m m' xs ys p ne q1 q2 s1 s2
theorem Rep.wipe (r : Rep K B F0 H0 F H σ Γ) : ∀ vs : List Nat, Rep K B F0 H0 F H (wipe σ vs) (wipeG Γ vs)
  | [] => r
  | v :: vs => (Rep.wipe r vs).drop
theorem rep_start {vs : List V} {ds : List D} {N : List Str} (b : B F H) (e : Ex F H) (kn : Kn F H) (r : RA K F vs ds) (hl : ds.length ≤ N.length) : Rep K B F H F H (L2.start N vs) (ds.map Sl.d ++ List.replicate (N.length - ds.length) .u) := by
  have hlen := r.len
  refine ⟨⟨F, b, fun _ _ e => e⟩, Ex.refl F, ExT.refl H, e, kn, fun p o q n => (by rw [n] at q; cases q), ?_, ?_, ?_, ?_⟩
  · unfold L2.start
    simp only [List.length_append, List.length_map, List.length_replicate]
    omega
  · have gen : ∀ (ds : List D) (vs : List V) (n m k : Nat) (x : D), RA K F vs ds → nth (ds.map Sl.d ++ List.replicate n .u) k = .d x → ∃ v, (vs.map some ++ List.replicate m none)[k]? = some (some v) ∧ R K F v x := by
      intro ds
      induction ds with
      | nil =>
        intro vs n m k x r q
        exfalso
        clear r
        induction n generalizing k with
        | zero => cases q
        | succ n ih =>
          cases k with
          | zero => cases q
          | succ k => exact ih k q
      | cons d ds ih =>
        intro vs n m k x r q
        cases r with
        | cons a r =>
          cases k with
          | zero =>
            cases q
            exact ⟨_, rfl, a⟩
          | succ k => exact ih _ n m k x r q
    intro k x q
    exact gen ds vs _ _ k x r q
  all_goals
    have gen : ∀ (ds : List D) (n k : Nat) (xs : Own), nth (ds.map Sl.d ++ List.replicate n .u) k = .w xs → False := by
      intro ds
      induction ds with
      | nil =>
        intro n k xs q
        induction n generalizing k with
        | zero => cases q
        | succ n ih =>
          cases k with
          | zero => cases q
          | succ k => exact ih k q
      | cons d ds ih =>
        intro n k xs q
        cases k with
        | zero => cases q
        | succ k => exact ih n k xs q
  · intro k xs q
    exact (gen ds _ k xs q).elim
  · intro k m xs ys p ne q1 q2 s1 s2
    exact gen ds _ k xs q1
end
section
variable (K : PySem.W.Frag) (B : Hp → Hp → Prop)
def EOk (te : TE) (we : WE) : Prop := ∀ Γ Q, we Γ Q → ∀ F0 H0 F H σ, Rep K B F0 H0 F H σ Γ → ∀ QV : VK, (∀ v d F' H', Q d → Ext F H F' H' → R K F' v d → QV v H') → te σ H QV
def FOk (te : TE) (wf : WA) : Prop := ∀ Γ Q, wf Γ Q → ∀ F0 H0 F H σ, Rep K B F0 H0 F H σ Γ → ∀ QV : VK, (∀ p vs ds F' H', Q ds → Ext F H F' H' → Free H p → F' p = none → H' p = some (.lst vs) → RA K F' vs ds → QV (.ref p) H') → te σ H QV
def AOk (ta : TA) (wa : WA) : Prop := ∀ Γ Q, wa Γ Q → ∀ F0 H0 F H σ, Rep K B F0 H0 F H σ Γ → ∀ QV : List V → Hp → Prop, (∀ vs ds F' H', Q ds → Ext F H F' H' → RA K F' vs ds → QV vs H') → ta σ H QV
def TOk (tt : TT) (wt : WT) : Prop := ∀ Γ Q, wt Γ Q → ∀ F0 H0 F H σ, Rep K B F0 H0 F H σ Γ → ∀ QV : Bool → Hp → Prop, (∀ b F' H', Q b → Ext F H F' H' → QV b H') → tt σ H QV
def GOk (g : TG) (wg : WG) (js : List Nat) : Prop := ∀ d Γ Q, wg d Γ Q → ∀ F0 H0 F H σ v, Rep K B F0 H0 F H σ Γ → R K F v d → ∀ QS : L2.St → Hp → Prop, (∀ Γ' σ' F' H', Q Γ' → Rep K B F0 H0 F' H' σ' Γ' → Ext F H F' H' → (∀ vs : List Nat, (∀ j ∈ js, j ∈ vs) → wipe σ' vs = wipe σ vs) → QS σ' H') → g v σ H QS
def GsOk (g : TGs) (wg : List D → G → (G → Prop) → Prop) (js : List Nat) : Prop := ∀ ds Γ Q, wg ds Γ Q → ∀ F0 H0 F H σ vs, Rep K B F0 H0 F H σ Γ → RA K F vs ds → ∀ QS : L2.St → Hp → Prop, (∀ Γ' σ' F' H', Q Γ' → Rep K B F0 H0 F' H' σ' Γ' → Ext F H F' H' → (∀ vs : List Nat, (∀ j ∈ js, j ∈ vs) → wipe σ' vs = wipe σ vs) → QS σ' H') → g vs σ H QS
structure Want (F0 H0 : Hp) (P : Po) (E : Ends) : Prop where
  nx : ∀ Γ σ F H, P.nx Γ → Rep K B F0 H0 F H σ Γ → E.nx σ H
  rt : ∀ d v F H, P.rt d → Ext F0 H0 F H → R K F v d → E.rt v H
  bk : ∀ Γ σ F H, P.bk Γ → Rep K B F0 H0 F H σ Γ → E.bk σ H
  ct : ∀ Γ σ F H, P.ct Γ → Rep K B F0 H0 F H σ Γ → E.ct σ H
def SOk (ts : TS) (ws : WS) : Prop := ∀ P Γ, ws P Γ → ∀ F0 H0 F H σ, Rep K B F0 H0 F H σ Γ → ∀ E : Ends, Want K B F0 H0 P E → ts E σ H
def IOk (wi : TI) (wit : WA) : Prop := ∀ Γ Q, wit Γ Q → ∀ F0 H0 F H σ, Rep K B F0 H0 F H σ Γ → ∀ QI : It → Hp → Prop, (∀ J xs F' H', Q xs → Ext F H F' H' → IsIt K F' J xs → QI J H') → wi σ H QI
end
section
variable {K : PySem.W.Frag} {B : Hp → Hp → Prop}
theorem e_var {k : Nat} : EOk K B (tVar k) (wVar k) := fun Γ Q h F0 H0 F H σ r QV q => by
  unfold wVar at h
  cases e : nth Γ k with
  | u => rw [e] at h; exact h.elim
  | w o => rw [e] at h; exact h.elim
  | d x =>
    rw [e] at h
    obtain ⟨v, hv, rv⟩ := r.sl k x e
    exact ⟨v, hv, q v x F H h (Ext.refl r.fh) rv⟩
theorem e_int {i : Int} : EOk K B (tC (.int i)) (wC (.i i)) := fun _ _ h _ _ _ _ _ r _ q => q _ _ _ _ h (Ext.refl r.fh) (.i i)
theorem e_bl {b : Bool} : EOk K B (tC (.bl b)) (wC (.b b)) := fun _ _ h _ _ _ _ _ r _ q => q _ _ _ _ h (Ext.refl r.fh) (.b b)
theorem e_str {x : Str} : EOk K B (tC (.str x)) (wC (.s x)) := fun _ _ h _ _ _ _ _ r _ q => q _ _ _ _ h (Ext.refl r.fh) (.s x)
theorem e_non : EOk K B (tC .non) (wC .n) := fun _ _ h _ _ _ _ _ r _ q => q _ _ _ _ h (Ext.refl r.fh) .n
theorem e_op {r : R2} {wr : D → D → (D → Prop) → Prop} {ta tb : TE} {wa wb : WE} (ho : OOk K r wr) (ha : EOk K B ta wa) (hb : EOk K B tb wb) : EOk K B (tOp r ta tb) (wOp wr wa wb) := fun Γ Q h F0 H0 F H σ rp QV q =>
  ha Γ _ h F0 H0 F H σ rp _ fun x dx F1 H1 h1 e1 r1 => hb Γ _ h1 F0 H0 F1 H1 σ (rp.ext e1) _ fun y dy F2 H2 h2 e2 r2 => ho dx dy Q h2 F2 H2 x y e2.fh (r1.mono e2.ff) r2 QV fun v d F3 H3 h3 e3 r3 => q v d F3 H3 h3 ((e1.trans e2).trans e3) r3
theorem e_un {r : V → Hp → VK → Prop} {wr : D → (D → Prop) → Prop} {ta : TE} {wa : WE} (ho : UOk K r wr) (ha : EOk K B ta wa) : EOk K B (tUn r ta) (wUn wr wa) := fun Γ Q h F0 H0 F H σ rp QV q =>
  ha Γ _ h F0 H0 F H σ rp _ fun x dx F1 H1 h1 e1 r1 => ho dx Q h1 F1 H1 x e1.fh r1 QV fun v d F3 H3 h3 e3 r3 => q v d F3 H3 h3 (e1.trans e3) r3
theorem a_nil : AOk K B tNil wNil := fun _ _ h _ _ _ _ _ r _ q => q _ _ _ _ h (Ext.refl r.fh) .nil
theorem a_cons {ta : TE} {tr : TA} {wa : WE} {wr : WA} (ha : EOk K B ta wa) (hr : AOk K B tr wr) : AOk K B (tCons ta tr) (wCons wa wr) := fun Γ Q h F0 H0 F H σ rp QV q =>
  ha Γ _ h F0 H0 F H σ rp _ fun x dx F1 H1 h1 e1 r1 => hr Γ _ h1 F0 H0 F1 H1 σ (rp.ext e1) _ fun vs ds F2 H2 h2 e2 r2 => q _ _ F2 H2 h2 (e1.trans e2) (.cons (r1.mono e2.ff) r2)
theorem e_tup {ta : TA} {wa : WA} (ha : AOk K B ta wa) : EOk K B (tTup ta) (wTup wa) := fun Γ Q h F0 H0 F H σ rp QV q =>
  ha Γ _ h F0 H0 F H σ rp _ fun vs ds F1 H1 h1 e1 r1 => ⟨sz_of (by rw [r1.len]; exact h1.1), fun p hp => q _ _ _ _ h1.2 (e1.trans (Ext.new e1.fh hp)) (.t (st_of upd_same) (r1.mono (Ex.new (fresh_back e1.fh hp))))⟩
theorem f_lst {ta : TA} {wa : WA} (ha : AOk K B ta wa) : FOk K B (tLst ta) (wLst wa) := fun Γ Q h F0 H0 F H σ rp QV q =>
  ha Γ _ h F0 H0 F H σ rp _ fun vs ds F1 H1 h1 e1 r1 => ⟨sz_of (by rw [r1.len]; exact h1.1), fun p hp => q p vs ds F1 _ h1.2 (e1.trans (Ext.heap e1.fh (Ex.new hp))) (ExT.back e1.hh hp) (fresh_back e1.fh hp) upd_same r1⟩
theorem e_f {te : TE} {wf : WA} (h : FOk K B te wf) : EOk K B te (wF wf) := fun Γ Q hq F0 H0 F H σ rp QV q =>
  h Γ _ hq F0 H0 F H σ rp _ fun p vs ds F1 H1 h1 e1 hp hf hp1 r1 => q _ _ (upd F1 p (.lst vs)) H1 h1
    ⟨e1.ff.trans (Ex.new hf), e1.hh, ex_told e1.fh hp1, e1.tb.told, fun a o z n => by
      by_cases y : a = p
      · rw [y]
        exact hp
      · rw [upd_ne y] at z
        exact e1.nw a o z n⟩ (.l upd_same (r1.mono (Ex.new hf)))
theorem e_cb {r : List V → Hp → VK → Prop} {wr : List D → (D → Prop) → Prop} {ta : TA} {wa : WA} (hc : COk K r wr) (ha : AOk K B ta wa) : EOk K B (tCB r ta) (wCB wr wa) := fun Γ Q h F0 H0 F H σ rp QV q =>
  ha Γ _ h F0 H0 F H σ rp _ fun vs ds F1 H1 h1 e1 r1 => hc ds Q h1 F1 H1 vs e1.fh r1 QV fun v d F3 H3 h3 e3 r3 => q v d F3 H3 h3 (e1.trans e3) r3
theorem t_test {te : TE} {we : WE} (h : EOk K B te we) : TOk K B (tTest te) (wTest we) := fun Γ Q hq F0 H0 F H σ rp QV q =>
  h Γ _ hq F0 H0 F H σ rp _ fun v d F1 H1 h1 e1 r1 => by
    cases r1 with
    | b c => exact ⟨c, rfl, q c F1 H1 h1 e1⟩
    | _ => exact h1.elim
theorem t_B {te : TE} {we : WE} (h : EOk K B te we) : TOk K B (tB te) (wTest we) := fun Γ Q hq F0 H0 F H σ rp QV q =>
  h Γ _ hq F0 H0 F H σ rp _ fun v d F1 H1 h1 e1 r1 => by
    cases r1 with
    | b c => exact ⟨c, rfl, q c F1 H1 h1 e1⟩
    | _ => exact h1.elim
theorem t_and {t u : TT} {a b : WT} (h1 : TOk K B t a) (h2 : TOk K B u b) : TOk K B (tAnd t u) (wAnd a b) := fun Γ Q hq F0 H0 F H σ rp QV q =>
  h1 Γ _ hq F0 H0 F H σ rp _ fun c F1 H1 z e1 => by
    cases c with
    | true =>
      show u σ H1 QV
      exact h2 Γ Q (z.1 rfl) F0 H0 F1 H1 σ (rp.ext e1) QV fun b F2 H2 z2 e2 => q b F2 H2 z2 (e1.trans e2)
    | false =>
      show QV false H1
      exact q _ F1 H1 (z.2 rfl) e1
theorem t_or {t u : TT} {a b : WT} (h1 : TOk K B t a) (h2 : TOk K B u b) : TOk K B (tOr t u) (wOr a b) := fun Γ Q hq F0 H0 F H σ rp QV q =>
  h1 Γ _ hq F0 H0 F H σ rp _ fun c F1 H1 z e1 => by
    cases c with
    | false =>
      show u σ H1 QV
      exact h2 Γ Q (z.2 rfl) F0 H0 F1 H1 σ (rp.ext e1) QV fun b F2 H2 z2 e2 => q b F2 H2 z2 (e1.trans e2)
    | true =>
      show QV true H1
      exact q _ F1 H1 (z.1 rfl) e1
theorem t_not {t : TT} {a : WT} (h1 : TOk K B t a) : TOk K B (tNot t) (wNot a) := fun Γ Q hq F0 H0 F H σ rp QV q =>
  h1 Γ _ hq F0 H0 F H σ rp _ fun c F1 H1 z e1 => q _ F1 H1 z e1
theorem t_yes : TOk K B tYes wYes := fun Γ Q hq F0 H0 F H σ rp QV q => q true F H hq (Ext.refl rp.fh)
theorem e_if {t : TT} {ta tb : TE} {c : WT} {a b : WE} (h : TOk K B t c) (h1 : EOk K B ta a) (h2 : EOk K B tb b) : EOk K B (tIf t ta tb) (wIfE c a b) := fun Γ Q hq F0 H0 F H σ rp QV q =>
  h Γ _ hq F0 H0 F H σ rp _ fun c F1 H1 z e1 => by
    cases c with
    | true =>
      show ta σ H1 QV
      exact h1 Γ Q (z.1 rfl) F0 H0 F1 H1 σ (rp.ext e1) QV fun v d F2 H2 z2 e2 r => q v d F2 H2 z2 (e1.trans e2) r
    | false =>
      show tb σ H1 QV
      exact h2 Γ Q (z.2 rfl) F0 H0 F1 H1 σ (rp.ext e1) QV fun v d F2 H2 z2 e2 r => q v d F2 H2 z2 (e1.trans e2) r
theorem e_andV {ta tb : TE} {a b : WE} (h1 : EOk K B ta a) (h2 : EOk K B tb b) : EOk K B (tAndV ta tb) (wAndV a b) := fun Γ Q hq F0 H0 F H σ rp QV q =>
  h1 Γ _ hq F0 H0 F H σ rp _ fun v d F1 H1 z e1 r1 => by
    cases r1 with
    | b c =>
      refine ⟨c, rfl, ?_⟩
      cases c with
      | true =>
        show tb σ H1 QV
        exact h2 Γ Q (z.1 rfl) F0 H0 F1 H1 σ (rp.ext e1) QV fun v d F2 H2 z2 e2 r => q v d F2 H2 z2 (e1.trans e2) r
      | false =>
        show QV (.bl false) H1
        exact q _ _ F1 H1 (z.2 rfl) e1 (.b _)
    | _ => exact z.elim
theorem e_notV {ta : TE} {a : WE} (h1 : EOk K B ta a) : EOk K B (tNotV ta) (wNotV a) := fun Γ Q hq F0 H0 F H σ rp QV q =>
  h1 Γ _ hq F0 H0 F H σ rp _ fun v d F1 H1 z e1 r1 => by
    cases r1 with
    | b c => exact ⟨c, rfl, q _ _ F1 H1 z e1 (.b _)⟩
    | _ => exact z.elim
theorem e_chain {r r' : R2} {wr wr' : D → D → (D → Prop) → Prop} {ta tb tc : TE} {a b c : WE} (ho : OOk K r wr) (ho' : OOk K r' wr') (h1 : EOk K B ta a) (h2 : EOk K B tb b) (h3 : EOk K B tc c) : EOk K B (tChain r r' ta tb tc) (wChain wr wr' a b c) := fun Γ Q hq F0 H0 F H σ rp QV q =>
  h1 Γ _ hq F0 H0 F H σ rp _ fun x dx F1 H1 z1 e1 r1 => h2 Γ _ z1 F0 H0 F1 H1 σ (rp.ext e1) _ fun y dy F2 H2 z2 e2 r2 => ho dx dy _ z2 F2 H2 x y e2.fh (r1.mono e2.ff) r2 _ fun v d F3 H3 z3 e3 r3 => by
    have e13 := (e1.trans e2).trans e3
    cases r3 with
    | b k =>
      refine ⟨k, rfl, ?_⟩
      cases k with
      | true =>
        show tc σ H3 _
        exact h3 Γ _ (z3.1 rfl) F0 H0 F3 H3 σ (rp.ext e13) _ fun w dw F4 H4 z4 e4 r4 => ho' dy dw Q z4 F4 H4 y w e4.fh ((r2.mono e3.ff).mono e4.ff) r4 QV fun v d F5 H5 z5 e5 r5 => q v d F5 H5 z5 ((e13.trans e4).trans e5) r5
      | false =>
        show QV (.bl false) H3
        exact q _ _ F3 H3 (z3.2 rfl) e13 (.b _)
    | _ => exact z3.elim
end
section
variable {K : PySem.W.Frag} {B : Hp → Hp → Prop}
theorem g_name {k : Nat} : GOk K B (gName k) (wgName k) [k] := fun d Γ Q h F0 H0 F H σ v r rv QS q => q _ _ F H h (r.set rv) (Ext.refl r.fh) fun vs hv => wipe_set_mem (hv k (List.mem_cons_self ..))
theorem gs_nil : GsOk K B gNil wgNil [] := fun ds Γ Q h F0 H0 F H σ vs r rv QS q => by
  cases rv with
  | nil => exact ⟨rfl, q _ _ F H h r (Ext.refl r.fh) fun _ _ => rfl⟩
  | cons _ _ => exact h.elim
theorem gs_cons {g : TG} {gs : TGs} {wg : WG} {wgs : List D → G → (G → Prop) → Prop} {js ks : List Nat} (h1 : GOk K B g wg js) (h2 : GsOk K B gs wgs ks) : GsOk K B (gCons g gs) (wgCons wg wgs) (js ++ ks) := fun ds Γ Q h F0 H0 F H σ vs r rv QS q => by
  cases rv with
  | nil => exact h.elim
  | @cons v d vs ds a rr =>
    refine ⟨v, vs, rfl, h1 d Γ _ h F0 H0 F H σ v r a _ fun Γ1 σ1 F1 H1 z1 r1 e1 w1 => h2 ds Γ1 _ z1 F0 H0 F1 H1 σ1 vs r1 (rr.mono e1.ff) _ fun Γ2 σ2 F2 H2 z2 r2 e2 w2 => q Γ2 σ2 F2 H2 z2 r2 (e1.trans e2) fun us hu => ?_⟩
    rw [w2 us fun j hj => hu j (List.mem_append_right _ hj), w1 us fun j hj => hu j (List.mem_append_left _ hj)]
theorem g_tup {n : Nat} {gs : TGs} {wgs : List D → G → (G → Prop) → Prop} {js : List Nat} (h1 : GsOk K B gs wgs js) : GOk K B (gTup K n gs) (wgTup n wgs) js := fun d Γ Q h F0 H0 F H σ v r rv QS q => by
  cases rv with
  | @t p vs xs a rr => exact ⟨p, vs, rfl, ex_t r.fh a, by rw [rr.len]; exact h.1, h1 xs Γ Q h.2 F0 H0 F H σ vs r rr QS q⟩
  | _ => exact h.elim
theorem s_next : SOk K B tNext wNext := fun P Γ h F0 H0 F H σ r E w => w.nx _ _ _ _ h r
theorem s_seq {t u : TS} {a b : WS} (h1 : SOk K B t a) (h2 : SOk K B u b) : SOk K B (tSeq t u) (wSeq a b) := fun P Γ h F0 H0 F H σ r E w =>
  h1 _ Γ h F0 H0 F H σ r { E with nx := u E } ⟨fun Γ' σ' F' H' z r' => h2 P Γ' z F0 H0 F' H' σ' r' E w, w.rt, w.bk, w.ct⟩
theorem s_asg {te : TE} {tg : TG} {we : WE} {wg : WG} {js : List Nat} (h : EOk K B te we) (hg : GOk K B tg wg js) : SOk K B (tAsg te tg) (wAsg we wg) := fun P Γ hq F0 H0 F H σ r E w =>
  h Γ _ hq F0 H0 F H σ r _ fun v d F1 H1 z e1 rv => hg d Γ _ z F0 H0 F1 H1 σ v (r.ext e1) rv _ fun Γ2 σ2 F2 H2 z2 r2 _ _ => w.nx _ _ _ _ z2 r2
theorem s_asgO {te : TE} {wf : WA} {k : Nat} (h : FOk K B te wf) : SOk K B (tAsg te (gName k)) (wAsgO wf k) := fun P Γ hq F0 H0 F H σ r E w =>
  h Γ _ hq F0 H0 F H σ r _ fun p vs ds F1 H1 z e1 hp hf h1 ra => w.nx _ _ _ _ z ((r.ext e1).setO hf (ExT.back r.h0 hp) h1 ra fun m ys _ q s => by
    obtain ⟨p', _, a, _, _, d, nf⟩ := r.ow m ys q
    rw [s] at a
    cases a
    exact Free.not hp d nf.nt.1)
theorem s_ret {te : TE} {we : WE} (h : EOk K B te we) : SOk K B (tRet te) (wRet we) := fun P Γ hq F0 H0 F H σ r E w =>
  h Γ _ hq F0 H0 F H σ r _ fun v d F1 H1 z e1 rv => w.rt _ _ _ _ z (r.ext0.trans e1) rv
theorem s_if {t : TT} {tu tw : TS} {c : WT} {a b : WS} (h : TOk K B t c) (h1 : SOk K B tu a) (h2 : SOk K B tw b) : SOk K B (tIfS t tu tw) (wIf c a b) := fun P Γ hq F0 H0 F H σ r E w =>
  h Γ _ hq F0 H0 F H σ r _ fun x F1 H1 z e1 => by
    cases x with
    | true =>
      show tu E σ H1
      exact h1 P Γ (z.1 rfl) F0 H0 F1 H1 σ (r.ext e1) E w
    | false =>
      show tw E σ H1
      exact h2 P Γ (z.2 rfl) F0 H0 F1 H1 σ (r.ext e1) E w
theorem s_drop {te : TE} {we : WE} (h : EOk K B te we) : SOk K B (tDrop te) (wDrop we) := fun P Γ hq F0 H0 F H σ r E w =>
  h Γ _ hq F0 H0 F H σ r _ fun v d F1 H1 z e1 rv => w.nx _ _ _ _ z (r.ext e1)
theorem s_never : SOk K B tNever wNever := fun P Γ h _ _ _ _ _ _ _ _ => h.elim
theorem s_app {k : Nat} {te : TE} {we : WE} (h : EOk K B te we) : SOk K B (tDrop (tBM K "list" rAppend (tVar k) (tCons te tNil))) (wApp k we) := fun P Γ hq F0 H0 F H σ r E w => by
  unfold wApp at hq
  cases q : nth Γ k with
  | u => rw [q] at hq; exact hq.elim
  | d xs => rw [q] at hq; exact hq.elim
  | w o =>
    rw [q] at hq
    cases o with
    | s _ _ => exact hq.elim
    | la _ _ _ => exact hq.elim
    | l xs =>
      obtain ⟨p, vs, a, b, c, d, f⟩ := r.ol k xs q
      refine ⟨.ref p, a, .inl ⟨rfl, vs, sq_of d⟩, h Γ _ hq.2 F0 H0 F H σ r _ fun u y F1 H1 z e1 ru => ?_⟩
      exact ⟨p, vs, u, rfl, rfl, e1.hh.kp d, sz_lt (by rw [f.len]; exact hq.1), w.nx _ _ _ _ z ((r.ext e1).chg q a ((f.mono e1.ff).snoc ru))⟩
theorem s_frz {k : Nat} {t : TS} {a : WS} (h : SOk K B t a) : SOk K B t (wFrz k a) := fun P Γ hq F0 H0 F H σ r E w => by
  unfold wFrz at hq
  cases q : nth Γ k with
  | u => rw [q] at hq; exact hq.elim
  | d xs => rw [q] at hq; exact hq.elim
  | w o =>
    rw [q] at hq
    cases o with
    | s _ _ => exact hq.elim
    | la _ _ _ => exact hq.elim
    | l xs =>
      obtain ⟨F', r'⟩ := r.frz q
      exact h P _ hq F0 H0 F' H σ r' E w
theorem i_list {te : TE} {we : WE} (h : EOk K B te we) : IOk K B (iList K te) (wItL we) := fun Γ Q hq F0 H0 F H σ r QI w =>
  h Γ _ hq F0 H0 F H σ r _ fun v d F1 H1 z e1 rv => by
    cases rv with
    | @l p vs xs hp ra =>
      exact ⟨p, rfl, ⟨vs, sq_of (e1.fh _ _ hp)⟩, w _ xs F1 H1 z e1 ⟨_, _, ra.len ▸ walk_list (xs := vs), fun F2 H2 a b => sq_of (b _ _ (a _ _ hp)), fun k F2 H2 v H3 lt a b y => by
        obtain ⟨rfl, y⟩ := y
        obtain ⟨x, q1, q2⟩ := ra.walk a y
        exact ⟨F2, x, q1, Ext.refl b, q2⟩⟩⟩
    | _ => exact z.elim
theorem i_tup {te : TE} {we : WE} (h : EOk K B te we) : IOk K B (iTup K te) (wItT we) := fun Γ Q hq F0 H0 F H σ r QI w =>
  h Γ _ hq F0 H0 F H σ r _ fun v d F1 H1 z e1 rv => by
    cases rv with
    | @t p vs xs hp ra =>
      exact ⟨p, rfl, ⟨vs, ex_t e1.fh hp⟩, w _ xs F1 H1 z e1 ⟨_, _, ra.len ▸ walk_tup (xs := vs), fun F2 H2 a b => ex_t b (ex_t a hp), fun k F2 H2 v H3 lt a b y => by
        obtain ⟨rfl, y⟩ := y
        obtain ⟨x, q1, q2⟩ := ra.walk a y
        exact ⟨F2, x, q1, Ext.refl b, q2⟩⟩⟩
    | _ => exact z.elim
theorem i_rng1 {ta : TA} {wa : WA} (h : AOk K B ta wa) : IOk K B (iRng1 ta) (wRng1 wa) := fun Γ Q hq F0 H0 F H σ r QI w =>
  h Γ _ hq F0 H0 F H σ r _ fun vs ds F1 H1 z e1 ra => by
    cases ra with
    | nil => exact z.elim
    | cons a ra =>
      cases ra with
      | cons _ _ => cases a <;> exact z.elim
      | nil =>
        cases a with
        | i n => exact ⟨n, rfl, by omega, by omega, w _ _ F1 H1 z.2 e1 isIt_rng⟩
        | _ => exact z.elim
theorem i_rng2 {ta : TA} {wa : WA} (h : AOk K B ta wa) : IOk K B (iRng2 ta) (wRng2 wa) := fun Γ Q hq F0 H0 F H σ r QI w =>
  h Γ _ hq F0 H0 F H σ r _ fun vs ds F1 H1 z e1 ra => by
    cases ra with
    | nil => exact z.elim
    | cons a ra =>
      cases ra with
      | nil => cases a <;> exact z.elim
      | cons b ra =>
        cases ra with
        | cons _ _ => cases a <;> cases b <;> exact z.elim
        | nil =>
          cases a with
          | i m =>
            cases b with
            | i n => exact ⟨m, n, rfl, ⟨by omega, by omega, by omega, by omega⟩, w _ _ F1 H1 z.2 e1 isIt_rng⟩
            | _ => exact z.elim
          | _ => cases b <;> exact z.elim
section
variable {F0 H0 F1 H1 F H F' H' : Hp} {σ : L2.St} {Γ : G}
theorem Rep.rebase (r : Rep K B F0 H0 F H σ Γ) (x : Ext F0 H0 F1 H1) (e0 : Ex F0 F1) (e : Ex F1 F) : Rep K B F1 H0 F H σ Γ := ⟨let ⟨F00, b, k⟩ := r.bs; ⟨F00, b, fun F H e => k F H (x.back e)⟩, e, r.h0, r.fh, r.tb, fun p o h n => r.nw p o h (fresh_back e0 n), r.len, r.sl, r.ow, r.inj⟩
theorem Rep.back (bs : ∃ F00, B F00 H0 ∧ ∀ F H, Ext F0 H0 F H → Ext F00 H0 F H) (x : Ext F0 H0 F1 H1) (r : Rep K B F1 H0 F H σ Γ) : Rep K B F0 H0 F H σ Γ :=
  let y := x.back r.ext0
  ⟨bs, y.ff, y.hh, y.fh, r.tb, y.nw, r.len, r.sl, r.ow, r.inj⟩
theorem SOk.at {t : TS} {a : WS} (h : SOk K B t a) {P : Po} (hq : a P Γ) (r : Rep K B F0 H0 F H σ Γ) {E : Ends} (e1 : Ex F0 F1) (e2 : Ex F1 F) (x : Ext F0 H0 F1 H1)
    (nx : ∀ Γ σ F H, P.nx Γ → Rep K B F0 H0 F H σ Γ → Ex F1 F → E.nx σ H) (rt : ∀ d v F H, P.rt d → Ext F0 H0 F H → R K F v d → E.rt v H) (bk : ∀ Γ σ F H, P.bk Γ → Rep K B F0 H0 F H σ Γ → Ex F1 F → E.bk σ H) (ct : ∀ Γ σ F H, P.ct Γ → Rep K B F0 H0 F H σ Γ → Ex F1 F → E.ct σ H) : t E σ H :=
  h P Γ hq F1 H0 F H σ (r.rebase x e1 e2) E ⟨fun Γ' σ' F' H' z r' => nx Γ' σ' F' H' z (Rep.back r.bs x r') r'.f0, fun d v F' H' z x' rv => rt d v F' H' z (x.back x') rv, fun Γ' σ' F' H' z r' => bk Γ' σ' F' H' z (Rep.back r.bs x r') r'.f0, fun Γ' σ' F' H' z r' => ct Γ' σ' F' H' z (Rep.back r.bs x r') r'.f0⟩
end
theorem s_for {wi : TI} {g : TG} {tb : TS} {wit : WA} {wg : WG} {wb : WS} {js : List Nat} (hi : IOk K B wi wit) (hg : GOk K B g wg js) (hb : SOk K B tb wb) : SOk K B (tFor wi g tb) (wFor wit wg wb) := fun P Γ hq F0 H0 F H σ r E w =>
  hi Γ _ hq F0 H0 F H σ r _ fun J xs F1 H1 z e1 hit => by
    obtain ⟨I, i0, turn, fin⟩ := z
    obtain ⟨Gd, Y, wk, good, yld⟩ := hit
    have x1 : Ext F0 H0 F1 H1 := r.ext0.trans e1
    refine for_it wk (fun k σ' H' => ∃ Γ' F', I k Γ' ∧ Rep K B F0 H0 F' H' σ' Γ' ∧ Ex F1 F') ⟨Γ, F1, i0, r.ext e1, Ex.refl F1⟩ (fun k σ' H' _ ⟨Γ', F', _, r', x⟩ => good F' H' x r'.fh) (fun k v σ' H' H2 lt ⟨Γ', F', i, r', x⟩ y => ?_) fun σ' H' ⟨Γ', F', i, r', x⟩ => w.nx _ _ _ _ (fin Γ' i) r'
    obtain ⟨F2, d, hd, e2, rv⟩ := yld k F' H' v H2 lt x r'.fh y
    refine hg d Γ' _ (turn k d Γ' hd i) F0 H0 F2 H2 σ' v (r'.ext e2) rv _ fun Γ2 σ2 F3 H3 z2 r2 e3 _ => ?_
    exact hb.at z2 r2 x1.ff ((x.trans e2.ff).trans e3.ff) x1 (fun Γ4 σ4 F4 H4 z4 r4 x4 => ⟨Γ4, F4, z4, r4, x4⟩) w.rt (fun Γ4 σ4 F4 H4 z4 r4 _ => w.nx _ _ _ _ z4 r4) (fun Γ4 σ4 F4 H4 z4 r4 x4 => ⟨Γ4, F4, z4, r4, x4⟩)
theorem f_lc {wi : TI} {g : TG} {tt : TT} {te : TE} {vs js : List Nat} {wit : WA} {wg : WG} {wt : WT} {we : WE} (hi : IOk K B wi wit) (hg : GOk K B g wg js) (ht : TOk K B tt wt) (he : EOk K B te we) (hj : ∀ j ∈ js, j ∈ vs := by decide) : FOk K B (tLc wi g tt te vs) (wLc wit wg wt we vs) := fun Γ Q hq F0 H0 F H σ r QV w =>
  hi Γ _ hq F0 H0 F H σ r _ fun J xs F1 H1 z e1 hit => by
    obtain ⟨lx, c, P, turn, fin⟩ := z
    obtain ⟨Gd, Y, wk, good, yld⟩ := hit
    intro Dl hD
    have r1 := (r.ext e1).wipe vs
    refine lc_it wk (fun k H' => ∃ F' ys ws, Ext F1 H1 F' H' ∧ F' Dl = none ∧ H' Dl = some (.lst ws) ∧ RA K F' ws ys ∧ Sel c P k ys) ⟨F1, [], [], Ext.heap e1.fh (Ex.new hD), fresh_back e1.fh hD, upd_same, .nil, rfl⟩ (fun k H' _ ⟨F', ys, ws, x, _⟩ => good F' H' x.ff x.fh)
      (fun k v H' H2 lt ⟨F', ys, ws, x, hf, hd, ra, hs⟩ y => ?_) fun H' ⟨F', ys, ws, x, hf, hd, ra, hs⟩ => w Dl ws ys F' H' (fin ys hs) (e1.trans x) (ExT.back e1.hh hD) hf hd ra
    obtain ⟨F2, d, hx, e2, rv⟩ := yld k F' H' v H2 lt x.ff x.fh y
    have nof : ∀ {F3 H3 : Hp}, Ext F' H' F3 H3 → F3 Dl = none := fun {F3 H3} e3 => by
      cases q : F3 Dl with
      | none => rfl
      | some o =>
        exact ((e3.nw Dl o q hf).not hd (fun ps z => by cases z)).elim
    refine hg d _ _ (turn k d hx) F0 H0 F2 H2 _ v (r1.ext (x.trans e2)) rv _ fun Γ3 σ3 F3 H3 z3 r3 e3 w3 => ⟨by rw [w3 vs hj]; exact wipe_twice σ vs, ?_⟩
    refine ht Γ3 _ z3 F0 H0 F3 H3 σ3 r3 _ fun b F4 H4 z4 e4 => ?_
    obtain ⟨hb, z4⟩ := z4
    have e34 := (e2.trans e3).trans e4
    cases b with
    | true =>
      show te σ3 H4 _
      refine he Γ3 _ (z4 rfl) F0 H0 F4 H4 σ3 (r3.ext e4) _ fun u dy F5 H5 z5 e5 ru => ?_
      have e25 := e34.trans e5
      refine ⟨ws, e25.hh.kp hd, sz_lt (by have := hs.len; rw [ra.len]; omega), F5, ys ++ [dy], ws ++ [u], ?_, nof e25, upd_same, (ra.mono e25.ff).snoc ru, ?_⟩
      · have x5 := x.trans e25
        refine ⟨x5.ff, x5.hh.mut hD, fun a o q => ?_, x5.tb.mut (e25.hh.kp hd) noTab_lst, x5.nw⟩
        rw [upd_ne (ne_of_none q (nof e25))]
        exact x5.fh a o q
      · unfold Sel
        rw [← hb, if_pos rfl]
        exact ⟨ys, dy, rfl, hs, z5⟩
    | false =>
      show ∃ F' ys ws, _
      refine ⟨F4, ys, ws, x.trans e34, nof e34, e34.hh.kp hd, ra.mono e34.ff, ?_⟩
      unfold Sel
      rw [← hb, if_neg (by decide)]
      exact hs
theorem e_call {S : List D → (D → Prop) → Prop} {ta : TA} {wa : WA} (ha : AOk K B ta wa) : EOk K B (tCallD (spD K S) ta) (wCall S wa) := fun Γ Q hq F0 H0 F H σ r QV w =>
  ha Γ _ hq F0 H0 F H σ r _ fun vs ds F1 H1 z e1 ra => ⟨F1, ds, Q, (r.ext e1).ek, ra, z, fun v d F2 H2 h2 e2 r2 => w v d F2 H2 h2 (e1.trans e2) r2⟩
end
section
variable {K : PySem.W.Frag} {B : Hp → Hp → Prop}
theorem e_isi {te : TE} {we : WE} {T : String} {tab : String → Option Bool} (ht : ∀ n b, tab n = some b → PySem.W.kitOne K (.type n) (.type T) = some b) (h : EOk K B te we) : EOk K B (tCB (rIsi K) (tCons te (tCons (tC (.ty T)) tNil))) (wIsi tab we) := fun Γ Q hq F0 H0 F H σ r QV w =>
  h Γ _ hq F0 H0 F H σ r _ fun v d F1 H1 z e1 rv => by
    cases q : tyS d with
    | none => rw [q] at z; exact z.elim
    | some n =>
      rw [q] at z
      cases q2 : tab n with
      | none =>
        have z : (match tab n with | some b => Q (.b b) | none => False) := z
        rw [q2] at z
        exact z.elim
      | some b =>
        have z : (match tab n with | some b => Q (.b b) | none => False) := z
        rw [q2] at z
        exact ⟨v, .ty T, .type n, .type T, b, rfl, .ty T, tyX e1.fh rv q, ht n b q2, w _ _ F1 H1 z e1 (.b b)⟩
end
section
variable {K : PySem.W.Frag} {B : Hp → Hp → Prop}
theorem i_enumT {ta : TA} {wa : WA} (h : AOk K B ta wa) : IOk K B (iEt K ta) (wItEt wa) := fun Γ Q hq F0 H0 F H σ r QI w =>
  h Γ _ hq F0 H0 F H σ r _ fun vs ds F1 H1 z e1 ra => by
    cases ra with
    | nil => exact z.elim
    | cons a ra =>
      cases ra with
      | cons _ _ => cases a <;> exact z.elim
      | nil =>
        cases a with
        | @t p vs xs hp ra =>
          refine ⟨p, vs, rfl, ex_t e1.fh hp, w _ _ F1 H1 z e1 ⟨fun H => SqT K H p vs, YPair (fun i => some (.int (i : Nat))) (fun i => vs[i]?), ?_, fun F2 H2 a b => ex_t b (ex_t a hp), fun k F2 H2 v H3 lt a b y => ?_⟩⟩
          · rw [enumD_len, ← ra.len]
            exact walk_et (xs := vs)
          · obtain ⟨T, x, y, rfl, hT, rfl, q1, q2⟩ := y
            cases q1
            obtain ⟨d, q3, q4⟩ := ra.walk a q2
            obtain ⟨F3, x3, r3⟩ := pair_ok b hT (.i (k : Nat)) q4
            refine ⟨F3, _, enumD_get (k := 0) q3, x3, ?_⟩
            rw [Nat.zero_add]
            exact r3
        | _ => exact z.elim
end
section
variable {K : PySem.W.Frag} {B : Hp → Hp → Prop} {P : Program} {w : World}
theorem s_newS {k : Nat} : SOk K B (tAsg (tCB (TSet.rNew P w) tNil) (gName k)) (wNewS P w k) := fun Po Γ hq F0 H0 F H σ r E want => ⟨rfl, fun p hp => by
  have e := Ext.heap r.fh (Ex.new (o := SetTO P w p []) hp)
  exact want.nx _ _ _ _ hq ((r.ext e).setW (fresh_back r.fh hp) (ExT.back r.h0 hp) upd_same ⟨[], rfl, List.Perm.nil, fun q hq => by cases hq⟩ fun m ys _ q s => by
    obtain ⟨p', _, a, _, _, d, nf⟩ := r.ow m ys q
    rw [s] at a
    cases a
    exact Free.not hp d nf.nt.1)⟩
theorem e_inS {k : Nat} {ta : TE} {wa : WE} (ha : EOk K B ta wa) : EOk K B (tOp (TSet.rIn K P w) ta (tVar k)) (wInS P w k wa) := fun Γ Q hq F0 H0 F H σ r QV want =>
  ha Γ _ hq F0 H0 F H σ r _ fun v d F1 H1 z e1 rv => by
    cases rv with
    | @t p vs xs h ra =>
      have z : (match nth Γ k with | .w (.s f ks _) => f = SetTO P w ∧ ∃ ns : List Int, xs = ns.map D.i ∧ Q (.b (decide (ns ∈ ks))) | _ => False) := z
      cases q : nth Γ k with
      | u => rw [q] at z; exact z.elim
      | d x => rw [q] at z; exact z.elim
      | w o =>
        rw [q] at z
        cases o with
        | l xs => exact z.elim
        | la _ _ _ => exact z.elim
        | s f ks nt =>
          obtain ⟨rfl, ns, rfl, hQ⟩ := z
          obtain ⟨m, ho, a, b, c, hd, L, rfl, pm, ht⟩ := (r.ext e1).ow k _ q
          refine ⟨.ref m, a, p, m, ns, L, rfl, rfl, RA.intsT e1.fh (.t h ra), hd, fun q hq => ex_t e1.fh (ht q hq), ?_⟩
          have e : decide (ns ∈ L.map (·.2)) = decide (ns ∈ ks) := by
            rw [Bool.eq_iff_iff, decide_eq_true_iff, decide_eq_true_iff]
            exact pm.mem_iff
          rw [e]
          exact want _ _ F1 H1 hQ e1 (.b _)
    | _ => exact z.elim
theorem s_addS {k : Nat} {te : TE} {we : WE} (h : EOk K B te we) : SOk K B (tDrop (TSet.tAdd K P w (tVar k) (tCons te tNil))) (wAddS P w k we) := fun Po Γ hq F0 H0 F H σ r E want => by
  unfold wAddS at hq
  cases q : nth Γ k with
  | u => rw [q] at hq; exact hq.elim
  | d x => rw [q] at hq; exact hq.elim
  | w o =>
    rw [q] at hq
    cases o with
    | l xs => exact hq.elim
    | la _ _ _ => exact hq.elim
    | s f ks nt =>
      obtain ⟨rfl, few, hq⟩ := hq
      obtain ⟨m, ho, a, b, c, hd, L, eL, pm, ht⟩ := r.ow k _ q
      subst eL
      refine ⟨.ref m, a, ⟨m, L, rfl, hd⟩, h Γ _ hq F0 H0 F H σ r _ fun v d F1 H1 z e1 rv => ?_⟩
      cases rv with
      | @t p vs xs hp ra =>
        obtain ⟨ns, rfl, z1, z2⟩ := z
        have r1 := r.ext e1
        have tt : ∀ q ∈ L, SqT K F1 q.1 (q.2.map V.int) := fun q hq => ex_t e1.ff (ht q hq)
        have tf : SqT K F1 p (ns.map V.int) := by
          have := ra.toInts
          subst this
          exact hp
        have len : L.length = ks.length := by
          have := pm.length_eq
          rw [List.length_map] at this
          exact this
        refine ⟨m, p, ns, L, rfl, rfl, e1.hh.kp hd, fun q hq => ex_t e1.fh (tt q hq), ex_t e1.fh tf, by omega, fun L' y1 y2 => ?_⟩
        by_cases hin : ns ∈ ks
        · rw [y1 (pm.mem_iff.mpr hin)]
          have same : upd H1 m (SetTO P w m L) = H1 := by
            funext b
            unfold upd
            split
            · rename_i e
              rw [e]
              exact (e1.hh.kp hd).symm
            · rfl
          rw [same]
          exact want.nx _ _ _ _ (z1 hin) r1
        · have pm' := y2 fun z => hin (pm.mem_iff.mp z)
          refine want.nx _ _ _ _ (z2 hin) (r1.chgW q a ⟨L', rfl, perm2 pm' pm, fun q hq => ?_⟩)
          rcases List.mem_cons.mp (pm'.mem_iff.mp hq) with rfl | hq
          · exact tf
          · exact tt q hq
      | _ => exact z.elim
theorem e_lenSc {wi : TI} {g : TG} {tt : TT} {te : TE} {vs js : List Nat} {wit : WA} {wg : WG} {wt : WT} {we : WE} (hi : IOk K B wi wit) (hg : GOk K B g wg js) (ht : TOk K B tt wt) (he : EOk K B te we) (hj : ∀ j ∈ js, j ∈ vs := by decide) :
    EOk K B (tCB (rLenS P w) (tCons (TSet.tSct K P w wi g tt te vs) tNil)) (wLenSc wit wg wt we vs) := fun Γ Q hq F0 H0 F H σ r QV want =>
  hi Γ _ hq F0 H0 F H σ r _ fun J xs F1 H1 z e1 hit => by
    obtain ⟨lx, c, Pd, turn, fin⟩ := z
    obtain ⟨Gd, Y, wk, good, yld⟩ := hit
    intro M hM
    have r1 := (r.ext e1).wipe vs
    refine ⟨fun i n H' => n = xs.length - i ∧ i ≤ xs.length ∧ ∃ F' L ys, Ext F1 H1 F' H' ∧ F' M = none ∧ H' M = some (SetTO P w M L) ∧ (L.map (·.2)).Perm ys ∧ (∀ q ∈ L, SqT K F' q.1 (q.2.map V.int)) ∧ SelS c Pd i ys,
      ⟨xs.length, by simp, Nat.zero_le _, F1, [], [], Ext.heap e1.fh (Ex.new hM), fresh_back e1.fh hM, upd_same, List.Perm.nil, fun q hq => (by cases hq), rfl⟩, ?_⟩
    rintro i n H' ⟨rfl, hi, F', L, ys, x, hf, hd, pm, ht2, hs⟩
    have gd := good F' H' x.ff x.fh
    by_cases lt : i < xs.length
    · refine .inr ⟨wk.goes i H' lt gd, fun H2 => i + 1 ≤ xs.length ∧ ∃ F' L ys, Ext F1 H1 F' H2 ∧ F' M = none ∧ H2 M = some (SetTO P w M L) ∧ (L.map (·.2)).Perm ys ∧ (∀ q ∈ L, SqT K F' q.1 (q.2.map V.int)) ∧ SelS c Pd (i + 1) ys, fun H2 q => ⟨_, by omega, rfl, q.1, q.2⟩, fun v H2 y => ?_⟩
      obtain ⟨F2, d, hx, e2, rv⟩ := yld i F' H' v H2 lt x.ff x.fh (wk.yields i H' v H2 lt gd y)
      have nof : ∀ {F3 H3 : Hp}, Ext F' H' F3 H3 → F3 M = none := fun {F3 H3} e3 => by
        cases q : F3 M with
        | none => rfl
        | some o =>
          exact ((e3.nw M o q hf).not hd (fun ps z => by cases z)).elim
      refine hg d _ _ (turn i d hx) F0 H0 F2 H2 _ v (r1.ext (x.trans e2)) rv _ fun Γ3 σ3 F3 H3 z3 r3 e3 w3 => ⟨by rw [w3 vs hj]; exact wipe_twice σ vs, ?_⟩
      refine ht Γ3 _ z3 F0 H0 F3 H3 σ3 r3 _ fun b F4 H4 z4 e4 => ?_
      obtain ⟨hb, z4⟩ := z4
      have e34 := (e2.trans e3).trans e4
      cases b with
      | true =>
        show te σ3 H4 _
        refine he Γ3 _ (z4 rfl) F0 H0 F4 H4 σ3 (r3.ext e4) _ fun u dy F5 H5 z5 e5 ru => ?_
        obtain ⟨ns, rfl, pd⟩ := z5
        have e25 := e34.trans e5
        cases ru with
        | @t p us _ hp ra =>
          have := ra.toInts
          subst this
          have tt2 : ∀ q ∈ L, SqT K F5 q.1 (q.2.map V.int) := fun q hq => ex_t e25.ff (ht2 q hq)
          have len : L.length = ys.length := by
            have := pm.length_eq
            rw [List.length_map] at this
            exact this
          have ll := hs.len
          refine ⟨p, ns, L, rfl, ex_t e5.fh hp, e25.hh.kp hd, fun q hq => ex_t e5.fh (tt2 q hq), by omega, fun L' y1 y2 => ?_⟩
          have x5 := x.trans e25
          have up : ∀ (o : HO), Ext F1 H1 F5 (upd H5 M o) := fun o => ⟨x5.ff, x5.hh.mut hM, (fun a o' q => by rw [upd_ne (ne_of_none q (nof e25))]; exact x5.fh a o' q), x5.tb.mut (e25.hh.kp hd) noTab_set, x5.nw⟩
          refine ⟨lt, ?_⟩
          by_cases hin : ns ∈ ys
          · rw [y1 (pm.mem_iff.mpr hin)]
            refine ⟨F5, L, ys, up _, nof e25, upd_same, pm, tt2, ?_⟩
            unfold SelS
            rw [← hb, if_pos rfl]
            exact ⟨ys, ns, hs, pd, .inl ⟨hin, rfl⟩⟩
          · have pm' := y2 fun z => hin (pm.mem_iff.mp z)
            refine ⟨F5, L', ns :: ys, up _, nof e25, upd_same, perm2 pm' pm, fun q hq => ?_, ?_⟩
            · rcases List.mem_cons.mp (pm'.mem_iff.mp hq) with rfl | hq
              · exact hp
              · exact tt2 q hq
            · unfold SelS
              rw [← hb, if_pos rfl]
              exact ⟨ys, ns, hs, pd, .inr ⟨hin, List.Perm.refl _⟩⟩
      | false =>
        show _ ∧ _
        refine ⟨lt, F4, L, ys, x.trans e34, nof e34, e34.hh.kp hd, pm, fun q hq => ex_t e34.ff (ht2 q hq), ?_⟩
        unfold SelS
        rw [← hb, if_neg (by decide)]
        exact hs
    · have e : i = xs.length := by omega
      subst e
      refine .inl ⟨wk.stops H' gd, M, L, rfl, hd, ?_⟩
      have len : L.length = ys.length := by
        have := pm.length_eq
        rw [List.length_map] at this
        exact this
      rw [len]
      exact want _ _ F' H' (fin ys hs) (e1.trans x) (.i _)
end
section
variable {K : PySem.W.Frag} {B : Hp → Hp → Prop}
theorem f_cat {ta tb : TE} {a b : WE} (h1 : EOk K B ta a) (h2 : EOk K B tb b) : FOk K B (tOp rCat ta tb) (wCat a b) := fun Γ Q hq F0 H0 F H σ r QV w =>
  h1 Γ _ hq F0 H0 F H σ r _ fun v x F1 H1 z1 e1 rx => h2 Γ _ z1 F0 H0 F1 H1 σ (r.ext e1) _ fun u y F2 H2 z2 e2 ry => by
    have z2 : (match (generalizing := false) x, y with | .l xs, .l ys => xs.length + ys.length ≤ 100000 ∧ Q (xs ++ ys) | _, _ => False) := z2
    have rx := rx.mono e2.ff
    split at z2
    · cases rx with
      | @l p vs xs hp ra =>
        cases ry with
        | @l p' ws ys hp' rb =>
          refine ⟨p, p', vs, ws, rfl, rfl, e2.fh _ _ hp, e2.fh _ _ hp', sz_of (by rw [ra.len, rb.len]; exact z2.1), fun a ha => ?_⟩
          exact w a (vs ++ ws) _ F2 _ z2.2 ((e1.trans e2).trans (Ext.heap e2.fh (Ex.new ha))) (ExT.back (e1.trans e2).hh ha) (fresh_back e2.fh ha) upd_same (ra.app rb)
    · exact z2.elim
end
end DE
namespace DE
variable [DL.TabsT]
open PySem PySem.Spec PyProof.Rows L2 Evl Lay ErrX DL TE
/-- which errors may come out, with what in their field, at which state -/
abbrev ER := Addr → Option (Str × D) → G → Prop
abbrev ER0 := Addr → Option (Str × D) → Prop
/-- what is wanted of errors, seen from the entry -/
def Bad (K : PySem.W.Frag) (Er : ER) (W : WX) (F0 H0 : Hp) : Prop :=
  (∀ C fld x v d F H σ Γ, Er C (some (fld, x)) Γ → DL.Rep K F0 H0 F H σ Γ → F d = none → Free H0 d → H d = some (.xd [(fld, v)]) → R K F v x → W (.ref C) (some d) σ H) ∧
  (∀ C F H σ Γ, Er C none Γ → DL.Rep K F0 H0 F H σ Γ → W (.ref C) none σ H)
/-- a promise of a def over data that may raise -/
def spDE (K : PySem.W.Frag) (S : List D → (D → Prop) → ER0 → Prop) : Sp := fun vs H Q E => ∃ F ds P Er, ExK F H ∧ RA K F vs ds ∧ S ds P Er ∧ (∀ v d F' H', P d → Ext F H F' H' → R K F' v d → Q v H') ∧
  (∀ C fld x v d F' H', Er C (some (fld, x)) → Ext F H F' H' → F' d = none → Free H d → H' d = some (.xd [(fld, v)]) → R K F' v x → E (.ref C) (some d) H') ∧ (∀ C F' H', Er C none → Ext F H F' H' → E (.ref C) none H')
section
variable {K : PySem.W.Frag} {Er : ER} {W : WX} {F0 H0 F H F' H' : Hp} {σ : L2.St} {Γ : G}
theorem Rep.plain (r : Rep K B F0 H0 F H σ Γ) : ∃ F00, B F00 H0 ∧ ∀ F1 H1 σ1 Γ1, DL.Rep K F0 H0 F1 H1 σ1 Γ1 → DL.Rep K F00 H0 F1 H1 σ1 Γ1 :=
  let ⟨F00, b, k⟩ := r.bs
  ⟨F00, b, fun F1 H1 σ1 Γ1 q => let y := k F1 H1 q.ext0; ⟨y.ff, y.hh, y.fh, q.tb, y.nw, q.len, q.sl, q.ow, q.inj⟩⟩
theorem Rep.dl (r : Rep K B F0 H0 F H σ Γ) : DL.Rep K F0 H0 F H σ Γ := ⟨r.f0, r.h0, r.fh, r.tb, r.nw, r.len, r.sl, r.ow, r.inj⟩
/-- raise C(e) -/
abbrev wRaise (C : Addr) (fld : Str) (Er : ER) (a : WA) : WS := fun _ Γ => a Γ fun ds => match ds with
  | [x] => Er C (some (fld, x)) Γ
  | _ => False
theorem s_raise {C : Addr} {fld : Str} {ta : TA} {wa : WA} (ha : AOk K (Bad K Er W) ta wa) : SOk K (Bad K Er W) (fun _ σ H => tErrM C fld ta σ H fun cls d H' => W cls d σ H') (wRaise C fld Er wa) := fun P Γ hq F0 H0 F H σ r E w =>
  ha Γ _ hq F0 H0 F H σ r _ fun vs ds F1 H1 z e1 ra => by
    have r1 := r.ext e1
    obtain ⟨F00, ⟨b1, b2⟩, k⟩ := r1.plain
    cases ra with
    | nil => exact z.elim
    | @cons v x _ _ rv ra =>
      cases ra with
      | cons _ _ => exact z.elim
      | nil =>
        refine ⟨v, rfl, fun d hd => ?_⟩
        have e2 : Ext F1 H1 F1 (upd H1 d (.xd [(fld, v)])) := Ext.heap e1.fh (Ex.new hd)
        exact b1 C fld x v d F1 _ σ Γ z (k _ _ _ _ (r1.ext e2).dl) (fresh_back e1.fh hd) (ExT.back r1.h0 hd) upd_same rv
end
section
variable {P : Program} {w : World} {K : PySem.W.Frag} {mg : Str → Option Value} {base : Heap}
theorem spDE_len {S : List D → (D → Prop) → ER0 → Prop} {n : Nat} (h : ∀ ds P Er, S ds P Er → ds.length = n) : ∀ vs H Q E, spDE K S vs H Q E → vs.length = n := fun vs H Q E ⟨F, ds, P, Er, _, ra, s, _⟩ => by rw [ra.len]; exact h ds P Er s
abbrev erOf (Er : ER0) : ER := fun C x _ => Er C x
end
end DE
namespace DE
open PySem PySem.Spec PyProof.Rows L2 Evl Lay ErrX DL TE
end DE
namespace DE
variable [DL.TabsT]
open PySem PySem.Spec PyProof.Rows L2 Evl Lay ErrX DL TE
structure PkG (P : Program) (w : World) (K : PySem.W.Frag) (mg : Str → Option Value) (base : Heap) (x : Str) (st : Stmt) (k : Nat) (ps : List Str) (sp : Sp) : Prop where
  ex : ∃ f fd, FnG P w K mg base (L2.CX P w) k f fd ps sp ∧ mg x = some (.ref f) ∧ Fun K x x st f fd ∧ Binds K fd ps []
section
variable {P : Program} {w : World} {K : PySem.W.Frag} {mg : Str → Option Value} {base : Heap}
theorem pkokG {x : Str} {st : Stmt} {N ps : List Str} {k : Nat} {S : List D → (D → Prop) → ER0 → Prop} (Df : DefIn K mg x st ps) (sc : FnScope N ps (defScope st)) (len : ∀ ds P Er, S ds P Er → ds.length = ps.length) (hN : ps.length ≤ N.length := by decide)
    (body : ∀ (f : Addr) (cdv : Value) (A : Around) (outer : List Env) (s : Shared) (H : Hp) (E : XK) (Er : ER0), Room k (cxOf (L2.CX P w) P w K mg base N x (defScope st) f cdv A outer s H E).A → (cxOf (L2.CX P w) P w K mg base N x (defScope st) f cdv A outer s H E).A.guards = some [] →
      Takes (cxOf (L2.CX P w) P w K mg base N x (defScope st) f cdv A outer s H E) (fun cls d _ H' => E cls d H') →
      ∃ t a, PSs (cxOf (L2.CX P w) P w K mg base N x (defScope st) f cdv A outer s H E) (defBody st) t ∧ SOk K (Bad K (erOf Er) fun cls d _ H' => E cls d H') t a ∧ ∀ ds Q, S ds Q Er → a { nx := fun _ => Q .n, rt := Q } (startG N.length ds)) : PkG P w K mg base x st (k + 1) ps (spDE K S) := by
  obtain ⟨fa, fd, F, hm, hb⟩ := Df.ex
  refine ⟨fa, fd, fng F sc (spDE_len len) fun cdv A outer s H vs Q E hr hg h => ?_, hm, F, hb⟩
  obtain ⟨F', ds, P', Er, e, ra, z, q, b1, b2⟩ := h
  obtain ⟨t, a, ht, hs, hq⟩ := body fa cdv A outer s H E Er hr hg (takes_of rfl rfl rfl rfl)
  refine ⟨t, ht, hs _ _ (hq ds P' z) F' H F' H _ (rep_start ⟨fun C fld x v d F1 H1 σ Γ er r f0 h0 hd rv => b1 C fld x v d F1 H1 er r.ext0 f0 h0 hd rv, fun C F1 H1 σ Γ er r => b2 C F1 H1 er r.ext0⟩ e.1 e.2 ra (by rw [len ds P' Er z]; exact hN)) _ ⟨fun Γ' σ' F' H' z r' => q _ _ _ _ z r'.ext0 .n, fun d v F' H' z x rv => q _ _ _ _ z x rv, fun _ _ _ _ z _ => z.elim, fun _ _ _ _ z _ => z.elim⟩⟩
end
section
variable {X : Cx} {x : Str} {st : Stmt} {p pos : Pos} {e : Expr} {es : List Expr} {t : TA} {k : Nat} {ps ks : List Str} {sp : Sp} {W : WX} {kws : List Keyword} {tk : TA}
theorem run_gX {f : Addr} {fd : FuncData} {pins : List (Addr × Obj)} {σ : L2.St} {H : Hp} {s : Shared} {Q : VK} {us ws : List Value} {vs : List V} {kw : List (Str × Value)} {E : L2.St → XK} (F : FnG X.prog X.w X.K X.mg X.base (L2.CX X.prog X.w) k f fd ps sp) (hr : Room k X.A) (hg : X.A.guards = some [])
    (b : BindsTo s fd ⟨us, kw⟩ (ps.zip ws)) (hx : PassesAt (L2.CX X.prog X.w) X σ (E σ)) (I : Inv X pins σ H s) (r : Vals vs ws) (h : sp vs H Q (E σ)) : wpAny (model X.prog X.w) X.A (call (.ref f) us kw) (EP X pins σ Q) X.xe s := by
  refine wpAny_call (codeAny_mono (F.run X.A X.stack s H ⟨us, kw⟩ ws vs Q (E σ) hr hg I.env0 b r h) fun res s' z => ?_)
  cases res with
  | error er => exact hx pins H s er s' I z
  | ok fl =>
    cases fl with
    | ret u => exact I.after z
    | next => exact False.elim z
    | brk => exact False.elim z
    | cont => exact False.elim z
theorem PkG.binds {fd : FuncData} {pins : List (Addr × Obj)} {σ : L2.St} {H : Hp} {s : Shared} {us : List Value} {vs : List V} (hb : Binds X.K fd ps []) (I : Inv X pins σ H s) (r : Vals vs us) (hl : vs.length = ps.length) : BindsTo s fd ⟨us, []⟩ (ps.zip us) := by
  have b := hb s us I.kIn (by rw [List.append_nil, ← r.length]; exact hl)
  rw [List.append_nil] at b
  exact b
/-- f(e, ..), what it raises is let out -/
theorem pe_callG (D : PkG X.prog X.w X.K X.mg X.base x st k ps sp) (hr : Room k X.A) (hgd : X.A.guards = some []) (tkk : Takes X W) (ha : PA X (e :: es) t) (gl : Gl X x := by rfl) (hdb : (x == ("__debug__" : Str)) = false := by decide)
    (he : starEach (e :: es) X.env = (false, eval e X.env) :: starEach es X.env := by rfl) (hpl : (backTo pos (starEach es X.env)).any (·.1) = false := by rfl) : PE X (.Call (.Name x p) (e :: es) [] pos) (tCallS sp (WE W) t) := by
  obtain ⟨f, fd, F, hm, hk, hb⟩ := D.ex
  refine ⟨fun pins s σ H Q I h => ?_⟩
  refine wpAny_Call_Name_kw (ld_glob I gl hm ?_ hdb)
  refine PySem.W.callWith_K (h₀ := X.base) I.ok.mod.kin hk.kp (thn (ha.run pos pins s σ H _ I h) fun us s1 ⟨vs, H1, I1, r, q⟩ => ⟨I1.kIn, ?_⟩) he hpl
  exact run_gX (E := WE W) F hr hgd (PkG.binds hb I1 r (F.len _ _ _ _ q)) (passAt tkk σ) I1 r q
/-- .. where it raises nothing -/
theorem pe_callG0 (D : PkG X.prog X.w X.K X.mg X.base x st k ps sp) (hr : Room k X.A) (hgd : X.A.guards = some []) (ha : PA X (e :: es) t) (gl : Gl X x := by rfl) (hdb : (x == ("__debug__" : Str)) = false := by decide)
    (he : starEach (e :: es) X.env = (false, eval e X.env) :: starEach es X.env := by rfl) (hpl : (backTo pos (starEach es X.env)).any (·.1) = false := by rfl) : PE X (.Call (.Name x p) (e :: es) [] pos) (tCallS sp (fun _ => E0) t) := by
  obtain ⟨f, fd, F, hm, hk, hb⟩ := D.ex
  refine ⟨fun pins s σ H Q I h => ?_⟩
  refine wpAny_Call_Name_kw (ld_glob I gl hm ?_ hdb)
  refine PySem.W.callWith_K (h₀ := X.base) I.ok.mod.kin hk.kp (thn (ha.run pos pins s σ H _ I h) fun us s1 ⟨vs, H1, I1, r, q⟩ => ⟨I1.kIn, ?_⟩) he hpl
  exact run_gX (E := fun _ => E0) F hr hgd (PkG.binds hb I1 r (F.len _ _ _ _ q)) (fun pins H s e s' I h => passL pins _ H s e s' I h) I1 r q
theorem pe_callKG0 {g : {α : Type} → List α → List α} (D : PkG X.prog X.w X.K X.mg X.base x st k ps sp) (hr : Room k X.A) (hgd : X.A.guards = some []) (kb : KwB X.K x st ks ps g) (hg : ∀ {zs : List V} {ws : List Value}, Vals zs ws → Vals (g zs) (g ws)) (hkw : L2.PK X kws tk) (gl : Gl X x := by rfl) (hdb : (x == ("__debug__" : Str)) = false := by decide)
    (hall : (backToKw pos (keywordEach kws X.env)).all (·.1.isSome) = true := by rfl) (hks : (backToKw pos (keywordEach kws X.env)).filterMap (·.1) = ks := by rfl)
    (hpl : ((backTo pos (starEach [] X.env)).any (·.1) || (backToKw pos (keywordEach kws X.env)).any (·.1.isNone)) = false := by rfl) : PE X (.Call (.Name x p) [] kws pos) (tCallK ks.length sp g (fun _ => E0) tk) := by
  obtain ⟨f, fd, F, hm, hk, hb⟩ := D.ex
  refine ⟨fun pins s σ H Q I h => ?_⟩
  refine wpAny_Call_Name_kw (ld_glob I gl hm ?_ hdb)
  refine PySem.W.callWith_KW0 (h₀ := X.base) I.ok.mod.kin hk.kp hall (thn (hkw.run pos pins s σ H _ I h) fun ws s1 ⟨zs, H1, I1, r, hl, q⟩ => ⟨I1.kIn, ?_⟩) hpl
  rw [hks]
  exact run_gX (E := fun _ => E0) F hr hgd (kb f fd hk s1 ws (r.length.symm.trans hl)) (fun pins H s e s' I h => passL pins _ H s e s' I h) I1 (hg r) q
end
section
variable {K : PySem.W.Frag}
/-- a call that raises nothing, of a def that may raise: in a plain def -/
abbrev wCall0 (S : List D → (D → Prop) → ER0 → Prop) (a : WA) : WE := fun Γ Q => a Γ fun ds => S ds Q fun _ _ => False
theorem e_call0 {S : List D → (D → Prop) → ER0 → Prop} {ta : TA} {wa : WA} (ha : DL.AOk K ta wa) : DL.EOk K (tCallS (spDE K S) (fun _ => E0) ta) (wCall0 S wa) := fun Γ Q hq F0 H0 F H σ r QV w =>
  ha Γ _ hq F0 H0 F H σ r _ fun vs ds F1 H1 z e1 ra => ⟨F1, ds, Q, _, (r.ext e1).ek, ra, z, fun v d F2 H2 h2 e2 r2 => w v d F2 H2 h2 (e1.trans e2) r2, fun C fld x v d F2 H2 er _ _ _ _ _ => er.elim, fun C F2 H2 er _ => er.elim⟩
theorem e_callK0 {n : Nat} {S : List D → (D → Prop) → ER0 → Prop} {g : {α : Type} → List α → List α} {ta : TA} {wa : WA} (hg : ∀ {F : Hp} {vs : List V} {ds : List D}, RA K F vs ds → RA K F (g vs) (g ds)) (ha : DL.AOk K ta wa) :
    DL.EOk K (tCallK n (spDE K S) g (fun _ => E0) ta) (fun Γ Q => wa Γ fun ds => ds.length = n ∧ S (g ds) Q fun _ _ => False) := fun Γ Q hq F0 H0 F H σ r QV w =>
  ha Γ _ hq F0 H0 F H σ r _ fun vs ds F1 H1 z e1 ra => ⟨ra.len.trans z.1, F1, g ds, Q, _, (r.ext e1).ek, hg ra, z.2, fun v d F2 H2 h2 e2 r2 => w v d F2 H2 h2 (e1.trans e2) r2, fun C fld x v d F2 H2 er _ _ _ _ _ => er.elim, fun C F2 H2 er _ => er.elim⟩
end
end DE
namespace DE
variable [DL.TabsT]
open PySem PySem.Spec PyProof.Rows L2 Evl Lay ErrX DL TE
/-- told with nothing asked of errors: as in a plain def -/
theorem SOk.plain {K : PySem.W.Frag} {t : TS} {a : WS} (h : SOk K (fun _ _ => True) t a) : DL.SOk K t a := fun P Γ hq F0 H0 F H σ r E w =>
  h P Γ hq F0 H0 F H σ ⟨⟨F0, trivial, fun _ _ e => e⟩, r.f0, r.h0, r.fh, r.tb, r.nw, r.len, r.sl, r.ow, r.inj⟩ E ⟨fun Γ' σ' F' H' z r' => w.nx _ _ _ _ z r'.dl, fun d v F' H' z x rv => w.rt _ _ _ _ z x rv, fun Γ' σ' F' H' z r' => w.bk _ _ _ _ z r'.dl, fun Γ' σ' F' H' z r' => w.ct _ _ _ _ z r'.dl⟩
end DE
namespace E24
open PySem PySem.Spec PyProof.Rows L2 Evl Lay ErrX
open PySem.W (Frag nsIn findIn keepIn isFn clsIn subIn mroIn typeIn specialIn takesIn takerIn fnIn hasDictIn excInitIn excOver kitOne ks_superIn codeIn exmOne)
def errN : Nat → Str
  | 0 => "InvalidText" | 1 => "InvalidName" | 2 => "InvalidNumber" | 3 => "InvalidWish" | 4 => "InvalidIndex" | 5 => "InvalidLine" | 6 => "InvalidCell" | 7 => "InvalidLattice" | 8 => "InvalidCut" | 9 => "NotAShape"
  | 10 => "InvalidCells" | 11 => "InvalidShoves" | 12 => "InvalidShapes" | 13 => "InvalidDeeds" | 14 => "UnknownName" | 15 => "TooGreat" | 16 => "Broken" | 17 => "InUse" | 18 => "NotWhole" | 19 => "NotFilled" | 20 => "NothingToUndo"
  | 21 => "WrongValue" | 22 => "WrongName" | _ => "NoAnswer"
def fldN (i : Nat) : Str := if (10 ≤ i ∧ i ≤ 13) ∨ i = 16 ∨ i = 17 then "index" else "given"
/-- its base: 0, 1, 2 -/
def baseN (i : Nat) : Nat := if i ≤ 13 then 0 else if i = 14 then 1 else if i ≤ 20 then 2 else i - 21
/-- whether an error of the class i is of the class j (24 and more: the built-in ones) -/
def tab (i j : Nat) : Bool := if j < 21 then i == j else if j < 24 then baseN i == j - 21 else baseN i == j - 24
def cv (C : Nat → Addr) (j : Nat) : Value := if j < 24 then .ref (C j) else if j = 24 then .type "ValueError" else if j = 25 then .type "LookupError" else .type "ArithmeticError"
/-- what is known of the classes that are on -/
structure Errs (prog : Program) (K : Frag) (mg : Str → Option Value) (C f : Nat → Addr) (on : Nat → Bool) : Prop where
  t : ∀ i, i < 24 → on i = true → ErrT K mg (errN i) (C i) (f i)
  a : ∀ i, i < 24 → on i = true → ErrA K (C i)
  kit : ∀ i j, i < 24 → on i = true → j < 27 → (j < 24 → on j = true) → kitOne K (.ref (C i)) (cv C j) = some (tab i j)
  exm : ∀ i j, i < 24 → on i = true → j < 27 → (j < 24 → on j = true) → exmOne K (.ref (C i)) (cv C j) = some (tab i j)
  ok : ∀ i, i < 18 → on i = true → InitOk prog K mg (C i) (f i) (fldN i)
  ok0 : ∀ i, 18 ≤ i → i < 24 → on i = true → InitOk0 prog K mg (C i) (f i)
  hd : ∀ i, i < 24 → on i = true → hasDictIn K (C i) = true
  noF : ∀ i, i < 18 → on i = true → findIn K (.ref (C i)) (fldN i) = some none
  ty : ∀ i, i < 24 → on i = true → typeIn K (.ref (C i)) = some (.type "type")
  sub : ∀ i, i < 24 → on i = true → subIn K (.ref (C i)) (.type "BaseException") = some true
def bT : Nat → String
  | 0 => "ValueError" | 1 => "LookupError" | _ => "ArithmeticError"
def bM (b : String) : List Value := [.type b, .type "Exception", .type "BaseException", .type "object"]
def chk1 (K : Frag) (C f D g : Addr) (i : Nat) (C' : Nat → Addr) (on : Nat → Bool) : Bool :=
  nsIn K mainGlobals (errN i) == some (some (.ref C)) && keepIn K (.ref C) && findIn K (.ref C) "__init__" == some (some (.ref f)) && isFn K (.ref f) &&
  (clsIn K C).isSome && findIn K (.ref C) "__getattribute__" == some (some (.builtin "BaseException.__getattribute__")) && findIn K (.ref C) "__getattr__" == some none && subIn K (.ref C) (.type "BaseException") == some true &&
  findIn K (.ref C) "__class__" == some (some (.builtin "object.__class__")) && specialIn K (.builtin "object.__class__") "__get__" == some (some (.builtin "getset_descriptor.__get__")) && takesIn K (.builtin "object.__class__") == some true && mroIn K C (.type "object") == some true &&
  excInitIn K C (bM (bT (baseN i))) (bT (baseN i) ++ ".__new__") && subIn K (.ref C) (.type (bT (baseN i))) == some true && nsIn K cStatics "thirdparty.any" == some none && findIn K (.ref C) "__setattr__" == some (some (.builtin "object.__setattr__")) &&
  excOver K C (bM (bT (baseN i))) && hasDictIn K C && mroIn K C (.ref C) == some true && mroIn K C (.ref D) == some true && ks_superIn K C D "__init__" == some (some (.builtin (bT (baseN i) ++ ".__init__"))) &&
  (if i < 21 then ks_superIn K C C "__init__" == some (some (.ref g)) && typeIn K (.ref g) == some (.type "function") && fnIn K g else true) &&
  (if i < 18 then takerIn K C (fldN i) == some none && findIn K (.ref C) (fldN i) == some none else true) &&
  typeIn K (.ref C) == some (.type "type") &&
  (List.range 27).all fun j => (decide (j < 24) && !on j) || (kitOne K (.ref C) (cv C' j) == some (tab i j) && exmOne K (.ref C) (cv C' j) == some (tab i j))
def chk (K : Frag) (C f : Nat → Addr) (on : Nat → Bool) : Bool := (List.range 24).all fun i => !on i || (on (21 + baseN i) && chk1 K (C i) (f i) (C (21 + baseN i)) (f (21 + baseN i)) i C on)
structure Chk (K : Frag) (C f D g : Addr) (i : Nat) (C' : Nat → Addr) (on : Nat → Bool) : Prop where
  glob : nsIn K mainGlobals (errN i) = some (some (.ref C))
  kp : keepIn K (.ref C) = true
  init : findIn K (.ref C) "__init__" = some (some (.ref f))
  isf : isFn K (.ref f) = true
  hcl : (clsIn K C).isSome = true
  hga : findIn K (.ref C) "__getattribute__" = some (some (.builtin "BaseException.__getattribute__"))
  hgt : findIn K (.ref C) "__getattr__" = some none
  hsub : subIn K (.ref C) (.type "BaseException") = some true
  ha : findIn K (.ref C) "__class__" = some (some (.builtin "object.__class__"))
  hn : specialIn K (.builtin "object.__class__") "__get__" = some (some (.builtin "getset_descriptor.__get__"))
  htk : takesIn K (.builtin "object.__class__") = some true
  hm : mroIn K C (.type "object") = some true
  q : excInitIn K C (bM (bT (baseN i))) (bT (baseN i) ++ ".__new__") = true
  hB : subIn K (.ref C) (.type (bT (baseN i))) = some true
  op : nsIn K cStatics "thirdparty.any" = some none
  sa : findIn K (.ref C) "__setattr__" = some (some (.builtin "object.__setattr__"))
  over : excOver K C (bM (bT (baseN i))) = true
  hd : hasDictIn K C = true
  mC : mroIn K C (.ref C) = some true
  mD : mroIn K C (.ref D) = some true
  sD : ks_superIn K C D "__init__" = some (some (.builtin (bT (baseN i) ++ ".__init__")))
  leaf : i < 21 → ks_superIn K C C "__init__" = some (some (.ref g)) ∧ typeIn K (.ref g) = some (.type "function") ∧ fnIn K g = true
  fld : i < 18 → takerIn K C (fldN i) = some none ∧ findIn K (.ref C) (fldN i) = some none
  ty : typeIn K (.ref C) = some (.type "type")
  kit : ∀ j, j < 27 → (j < 24 → on j = true) → kitOne K (.ref C) (cv C' j) = some (tab i j) ∧ exmOne K (.ref C) (cv C' j) = some (tab i j)
theorem chk_of {K : Frag} {C f D g : Addr} {i : Nat} {C' : Nat → Addr} {on : Nat → Bool} (h : chk1 K C f D g i C' on = true) : Chk K C f D g i C' on := by
  unfold chk1 at h
  simp only [Bool.and_eq_true, beq_iff_eq] at h
  obtain ⟨⟨⟨⟨⟨⟨⟨⟨⟨⟨⟨⟨⟨⟨⟨⟨⟨⟨⟨⟨⟨⟨⟨⟨h1, h2⟩, h3⟩, h4⟩, h5⟩, h6⟩, h7⟩, h8⟩, h9⟩, h10⟩, h11⟩, h12⟩, h13⟩, h14⟩, h15⟩, h16⟩, h17⟩, h18⟩, h19⟩, h20⟩, h21⟩, h22⟩, h23⟩, h25⟩, h24⟩ := h
  refine ⟨h1, h2, h3, h4, h5, h6, h7, h8, h9, h10, h11, h12, h13, h14, h15, h16, h17, h18, h19, h20, h21, fun hi => ?_, fun hi => ?_, h25, fun j hj ho => ?_⟩
  · rw [if_pos hi] at h22
    simp only [Bool.and_eq_true, beq_iff_eq] at h22
    exact ⟨h22.1.1, h22.1.2, h22.2⟩
  · rw [if_pos hi] at h23
    simp only [Bool.and_eq_true, beq_iff_eq] at h23
    exact h23
  · have q := List.all_eq_true.mp h24 j (List.mem_range.mpr hj)
    have z : (decide (j < 24) && !on j) = false := by
      by_cases h : j < 24
      · rw [ho h, Bool.not_true, Bool.and_false]
      · rw [decide_eq_false h, Bool.false_and]
    rw [z, Bool.false_or, Bool.and_eq_true] at q
    exact ⟨beq_iff_eq.mp q.1, beq_iff_eq.mp q.2⟩
theorem exb : ∀ b : Nat, ExcBaseFacts (bT b) (bT b ++ ".__new__") (bT b ++ ".__init__") (bM (bT b))
  | 0 => PySem.F.excBase_ValueError
  | 1 => PySem.F.excBase_LookupError
  | _ + 2 => PySem.F.excBase_ArithmeticError
theorem kxb : ∀ b : Nat, PySem.W.KxsFacts (bT b) (bT b ++ ".__init__")
  | 0 => PySem.W.kxs_ValueError
  | 1 => PySem.W.kxs_LookupError
  | _ + 2 => PySem.W.kxs_ArithmeticError
theorem stb : ∀ b : Nat, StoreFacts (bT b) (bM (bT b)) "object.__setattr__" "object"
  | 0 => PySem.F.store_ValueError
  | 1 => PySem.F.store_LookupError
  | _ + 2 => PySem.F.store_ArithmeticError
theorem Chk.errC {K : Frag} {C f D g : Addr} {i : Nat} {C' : Nat → Addr} {on : Nat → Bool} (Z : Chk K C f D g i C' on) : ErrC K C (bT (baseN i)) (bT (baseN i) ++ ".__new__") (bT (baseN i) ++ ".__init__") (bM (bT (baseN i))) :=
  ⟨exb _, kxb _, Z.q, Option.isSome_iff_exists.mp Z.hcl, Z.hB, Z.op, stb _, Z.sa, Z.over, Z.hd⟩
/-- the __init__ of a class with a field, of one without, of a base -/
def LeafS (prog : Program) (K : Frag) (C f : Addr) (fld : Str) : Prop := ∃ (qual : Str) (q1 q2 p0 p1 p2 p3 p4 a0 a1 a2 a3 : Pos), SupCall [] p0 p1 p2 p3 ∧ (∀ env : Env, swapsWith (.Name fld a2) (some (.Attribute (.Name "self" a0) fld a1)) a3.line env = pure false) ∧
  SupFn prog K f C qual (aField q1 q2 fld) [stSup [] p0 p1 p2 p3 p4, .Assign [.Attribute (.Name "self" a0) fld a1] (.Name fld a2) a3] (sField fld)
def Leaf0S (prog : Program) (K : Frag) (C f : Addr) : Prop := ∃ (qual : Str) (q1 p0 p1 p2 p3 p4 : Pos), SupCall [] p0 p1 p2 p3 ∧ SupFn prog K f C qual (aSelf q1) [stSup [] p0 p1 p2 p3 p4] sSelf
def BaseS (prog : Program) (K : Frag) (D g : Addr) : Prop := ∃ (qual txt : Str) (j : Nat) (q1 p0 p1 p2 p3 p4 p5 : Pos), SupCall [.Constant (.str txt) j p5] p0 p1 p2 p3 ∧ SupFn prog K g D qual (aSelf q1) [stSup [.Constant (.str txt) j p5] p0 p1 p2 p3 p4] sSelf
theorem fldN_or (i : Nat) : fldN i = "given" ∨ fldN i = "index" := by
  unfold fldN
  split
  · exact .inr rfl
  · exact .inl rfl
theorem baseN_lt {i : Nat} (h : i < 24) : baseN i < 3 := (by decide : ∀ i, i < 24 → baseN i < 3) i h
theorem errs_mk {prog : Program} {K : Frag} {h : Heap} {mg : Str → Option Value} {C f : Nat → Addr} {on : Nat → Bool} (X : K.In h) (G : h.Ns mainGlobals mg) (hc : chk K C f on = true) (hs : mg "super" = none)
    (hb : ∀ i, i < 3 → on (21 + i) = true → BaseS prog K (C (21 + i)) (f (21 + i))) (hl : ∀ i, i < 18 → on i = true → LeafS prog K (C i) (f i) (fldN i)) (h0 : ∀ i, 18 ≤ i → i < 21 → on i = true → Leaf0S prog K (C i) (f i)) : Errs prog K mg C f on := by
  have Z2 : ∀ i, i < 24 → on i = true → on (21 + baseN i) = true ∧ Chk K (C i) (f i) (C (21 + baseN i)) (f (21 + baseN i)) i C on := fun i hi ho => by
    have q := List.all_eq_true.mp hc i (List.mem_range.mpr hi)
    rw [ho, Bool.not_true, Bool.false_or, Bool.and_eq_true] at q
    exact ⟨q.1, chk_of q.2⟩
  have Z := fun i hi ho => (Z2 i hi ho).2
  refine ⟨fun i hi ho => ?_, fun i hi ho => ?_, fun i j hi ho hj hoj => ((Z i hi ho).kit j hj hoj).1, fun i j hi ho hj hoj => ((Z i hi ho).kit j hj hoj).2, fun i hi ho => ?_, fun i h18 hi ho => ?_, fun i hi ho => (Z i hi ho).hd, fun i hi ho => ((Z i (by omega) ho).fld hi).2, fun i hi ho => (Z i hi ho).ty, fun i hi ho => (Z i hi ho).hsub⟩
  · have z := Z i hi ho
    exact ⟨PySem.W.mg_of X G z.glob, z.kp, ⟨_, _, _, _, z.errC⟩, z.init, z.isf⟩
  · have z := Z i hi ho
    exact ⟨z.hcl, z.hga, z.hgt, z.hsub, z.ha, z.hn, z.htk, z.hm⟩
  · have z := Z i (by omega) ho
    obtain ⟨qual, q1, q2, p0, p1, p2, p3, p4, a0, a1, a2, a3, hsc, hsw, S⟩ := hl i hi ho
    obtain ⟨qualD, txt, j, r1, c0, c1, c2, c3, c4, c5, hscD, SD⟩ := hb (baseN i) (baseN_lt (by omega)) (Z2 i (by omega) ho).1
    obtain ⟨l1, l2, l3⟩ := z.leaf (by omega)
    exact fun {w A R s x t0 v args} => init_leaf (fldN_or i) hsc hscD hsw S SD z.sD z.mC z.mD l1 l2 l3 (z.fld hi).1 z.errC hs
  · have z := Z i hi ho
    rcases Nat.lt_or_ge i 21 with hi2 | hi2
    · obtain ⟨qual, q1, p0, p1, p2, p3, p4, hsc, S⟩ := h0 i h18 hi2 ho
      obtain ⟨qualD, txt, j, r1, c0, c1, c2, c3, c4, c5, hscD, SD⟩ := hb (baseN i) (baseN_lt (by omega)) (Z2 i (by omega) ho).1
      obtain ⟨l1, l2, l3⟩ := z.leaf hi2
      exact fun {w A R s x t0} => init_leaf0 hsc hscD S SD z.sD z.mC z.mD l1 l2 l3 z.errC hs
    · obtain ⟨qualD, txt, j, r1, c0, c1, c2, c3, c4, c5, hscD, SD⟩ := hb (baseN i) (baseN_lt (by omega)) (Z2 i (by omega) ho).1
      have e : 21 + baseN i = i := (by decide : ∀ i, i < 24 → 21 ≤ i → 21 + baseN i = i) i hi (by omega)
      rw [e] at SD
      have sD := z.sD
      rw [e] at sD
      exact fun {w A R s x t0} => init_base hscD SD z.errC hs z.mC sD
def chkM (K : Frag) (n : Str) (v : Int) : Bool := match nsIn K mainGlobals n with
  | some (some (.int i _)) => i == v
  | _ => false
theorem m_of {K : Frag} {h : Heap} {mg : Str → Option Value} (X : K.In h) (G : h.Ns mainGlobals mg) {n : Str} {v : Int} (hm : chkM K n v = true) : ∃ t, mg n = some (.int v t) := by
  unfold chkM at hm
  split at hm
  · rename_i i t e
    have := beq_iff_eq.mp hm
    subst this
    exact ⟨t, PySem.W.mg_of X G e⟩
  · cases hm
theorem sup_mk2 {prog : Program} {K : PySem.W.Frag} {f D : Addr} {qual : Str} {params : Arguments} {body : List Stmt} {scope : Scope} {oc kV doc pm ct ccl cl : Value} {od an cdd cld : Option Addr} {osl ccs csl : Array (Option Value)} {cda cc : Addr} {vs : Array Value} {file : Str} {tf : Tok}
    (hf : K.lookup f = some ⟨oc, od, .func (PySem.W.ksFn "__init__" qual params body scope .none kV doc pm an (.ref cda) ct cc), osl⟩) (hcd : PySem.W.codeIn K (.ref cda) qual = true) (hcode : K.lookup cda = some ⟨ccl, cdd, .fields vs, ccs⟩) (hvs : vs[2]? = some (.str file tf)) (hfile : ((prog.main.file : Str) == file) = true)
    (hcell : K.lookup cc = some ⟨cl, cld, .cell (some (.ref D)), csl⟩) (hD : PySem.W.isClsIn K D = true) (htop : (prog.main.scope.names.lookup ("super" : Str)).isSome = false) : SupFn prog K f D qual params body scope := sup_mk hf hcd hcode hvs hfile hcell hD htop
theorem leafS_mk {prog : Program} {K : PySem.W.Frag} {C f : Addr} {fld qual : Str} {q1 q2 p0 p1 p2 p3 p4 a0 a1 a2 a3 : Pos} (S : SupFn prog K f C qual (aField q1 q2 fld) [stSup [] p0 p1 p2 p3 p4, .Assign [.Attribute (.Name "self" a0) fld a1] (.Name fld a2) a3] (sField fld)) (hsc : SupCall [] p0 p1 p2 p3) (hsw : ∀ env : Env, swapsWith (.Name fld a2) (some (.Attribute (.Name "self" a0) fld a1)) a3.line env = pure false) : LeafS prog K C f fld :=
  ⟨qual, q1, q2, p0, p1, p2, p3, p4, a0, a1, a2, a3, hsc, hsw, S⟩
theorem leaf0S_mk {prog : Program} {K : PySem.W.Frag} {C f : Addr} {qual : Str} {q1 p0 p1 p2 p3 p4 : Pos} (S : SupFn prog K f C qual (aSelf q1) [stSup [] p0 p1 p2 p3 p4] sSelf) (hsc : SupCall [] p0 p1 p2 p3) : Leaf0S prog K C f := ⟨qual, q1, p0, p1, p2, p3, p4, hsc, S⟩
theorem baseS_mk {prog : Program} {K : PySem.W.Frag} {D g : Addr} {qual txt : Str} {j : Nat} {q1 p0 p1 p2 p3 p4 p5 : Pos} (S : SupFn prog K g D qual (aSelf q1) [stSup [.Constant (.str txt) j p5] p0 p1 p2 p3 p4] sSelf) (hsc : SupCall [.Constant (.str txt) j p5] p0 p1 p2 p3) : BaseS prog K D g := ⟨qual, txt, j, q1, p0, p1, p2, p3, p4, p5, hsc, S⟩
end E24
namespace E24
variable [DL.TabsT]
open PySem PySem.Spec PyProof.Rows L2 Evl Lay ErrX
theorem Errs.xf {P : Program} {K : PySem.W.Frag} {mg : Str → Option Value} {C f : Nat → Addr} {on : Nat → Bool} (U : Errs P K mg C f on) (i : Nat) (h : i < 24) (o : on i = true) : XfC K (C i) := ⟨(U.a i h o).hga, (U.a i h o).hgt, (U.a i h o).hsub, U.hd i h o⟩
end E24
namespace Lay
open PySem PySem.Spec PyProof.Rows L2 L2H Evl ErrX
structure FnQ (P : Program) (w : World) (K : PySem.W.Frag) (mg : Str → Option Value) (base : Heap) (k : Nat) (f : Addr) (fd : FuncData) (ps : List Str) (sp : Addr × Obj → Sp) : Prop where
  len : ∀ p vs H Q E, sp p vs H Q E → vs.length = ps.length
  run : ∀ (A : Around) (outer : List Env) (s : Shared) (H : Hp) (args : Args) (us : List Value) (vs : List V) (Q : VK) (E : XK) (p : Addr × Obj), RoomH k A → PinOk outer H s p → Env0 P w K mg base A outer s H → BindsTo s fd args (ps.zip us) → Vals vs us → sp p vs H Q E →
    codeAny (model P w) A (.call (.ref f) args) (CR CX0 outer P w H s Q E) s
structure DefQ (P : Program) (w : World) (K : PySem.W.Frag) (mg : Str → Option Value) (base : Heap) (x : Str) (k : Nat) (ps : List Str) (sp : Addr × Obj → Sp) : Prop where
  ex : ∃ f fd, FnQ P w K mg base k f fd ps sp ∧ mg x = some (.ref f) ∧ PySem.W.keepIn K (.ref f) = true ∧ Binds K fd ps []
section
variable {P : Program} {w : World} {K : PySem.W.Frag} {mg : Str → Option Value} {base : Heap}
theorem defq {x : Str} {st : Stmt} {N ps : List Str} {k : Nat} {sp : Addr × Obj → Sp} (D : DefIn K mg x st ps) (S : FnScope N ps (defScope st)) (len : ∀ p vs H Q E, sp p vs H Q E → vs.length = ps.length)
    (body : ∀ (f : Addr) (cdv : Value) (A : Around) (outer : List Env) (s : Shared) (H : Hp) (vs : List V) (Q : VK) (E : XK) (p : Addr × Obj), RoomH k (cxH CX0 P w K mg base N x (defScope st) f cdv A outer s H E p).A → sp p vs H Q E →
      ∃ t, PSs (cxH CX0 P w K mg base N x (defScope st) f cdv A outer s H E p).nox (defBody st) t ∧ t { nx := fun _ H' => Q .non H', rt := Q } (start N vs) H) : DefQ P w K mg base x (k + 1) ps sp := by
  obtain ⟨f, fd, F, hm, hbd⟩ := D.ex
  refine ⟨f, fd, ?_, hm, F.kp, hbd⟩
  obtain ⟨oc, od, kV, doc, pm, an, cdv, ct, osl, rfl, lk, code⟩ := F.ex
  refine ⟨len, fun A outer s H args us vs Q E p hr hpin e0 hb r hsp => ?_⟩
  have many := len _ _ _ _ _ hsp
  have up : ∀ b o, base.get? b = some o → s.heap.get? b = some o := fun b o e => (e0.bs b o e).1
  have KX : K.In s.heap := e0.mod.kin.keeps up
  refine codeAny_call_function hr.depth (KX _ _ lk) rfl S.co S.gen rfl (PySem.W.codeRec_of KX code) (hb _ _ _ _ ?_)
  refine wpAny_newFunctionEnv_cells S.kind (fun y hy => ?_) fun env he s1 x => ?_
  · obtain ⟨n, v⟩ := y
    rcases S.par n (List.of_mem_zip hy).1 with q | q
    · exact .inl q
    · exact .inr ⟨q, PySem.W.cellsFrom_some _ _ _ (.inl q)⟩
  · subst he
    refine ⟨(e0.mod.nolimit.keeps up).keeps x.toInCall.keep, codeAny_func ?_⟩
    obtain ⟨t, ht, hq⟩ := body f cdv A outer s H vs Q E p (hr.deeper _) hsp
    have I := inv_startH (CX := CX0) (E := E) S hpin e0 many r x
    refine wpAny_mono (ht.nox.run [] s1 (start N vs) H _ I hq) (fun fl s' hs => ?_) fun e s' z => z
    cases fl with
    | ret u =>
      obtain ⟨v, σ', H', J, rv, q⟩ := hs
      exact ⟨v, H', J.os, J.bare, J.base, J.hok, rv, q⟩
    | next =>
      obtain ⟨σ', H', J, q⟩ := hs
      exact ⟨V.non, H', J.os, J.bare, J.base, J.hok, rfl, q⟩
    | brk =>
      obtain ⟨_, _, _, q⟩ := hs
      exact q.elim
    | cont =>
      obtain ⟨_, _, _, q⟩ := hs
      exact q.elim
end
section
variable {X : Cx} {x : Str} {p q pos : Pos} {e : Expr} {es : List Expr} {t : TA} {k : Nat} {ps : List Str} {sp : Addr × Obj → Sp} {pq : Addr × Obj}
/-- such a def called, the error pq standing pinned -/
theorem pe_callQ (D : DefQ X.prog X.w X.K X.mg X.base x k ps sp) (hr : RoomH k X.A) (hp : pq ∈ X.pn) (ha : PA X (e :: es) t) (gl : Gl X x := by rfl) (hdb : (x == ("__debug__" : Str)) = false := by decide)
    (he : starEach (e :: es) X.env = (false, eval e X.env) :: starEach es X.env := by rfl) (hpl : (backTo pos (starEach es X.env)).any (·.1) = false := by rfl) : PE X (.Call (.Name x p) (e :: es) [] pos) (tCallD (sp pq) t) := by
  obtain ⟨f, fd, F, hm, hk, hb⟩ := D.ex
  refine ⟨fun pins s σ H Q I h => ?_⟩
  refine wpAny_Call_Name_kw (ld_glob I gl hm ?_ hdb)
  refine PySem.W.callWith_K (h₀ := X.base) I.ok.mod.kin hk (thn (ha.run pos pins s σ H _ I h) fun us s1 ⟨vs, H1, I1, r, z⟩ => ⟨I1.kIn, ?_⟩) he hpl
  have hl : us.length = ps.length := by
    rw [← r.length]
    exact F.len _ _ _ _ _ z
  have b := hb s1 us I1.kIn (by rw [List.append_nil]; exact hl)
  rw [List.append_nil] at b
  have P1 := I1.pin pq (List.mem_append_left _ hp)
  have hpin : PinOk X.stack H1 s1 pq := ⟨P1.1, P1.2.1, fun hm => (List.mem_cons.mp (I1.stkSub pq.1 hm)).elim P1.2.2.1 P1.2.2.2.1, P1.2.2.2.2⟩
  refine wpAny_call (codeAny_mono (F.run X.A X.stack s1 H1 ⟨us, []⟩ us vs Q E0 pq hr hpin I1.env0 b r z) fun res s' y => ?_)
  cases res with
  | error er => exact False.elim y
  | ok fl =>
    cases fl with
    | ret u => exact I1.after y
    | next => exact False.elim y
    | brk => exact False.elim y
    | cont => exact False.elim y
/-- isinstance(e, c), e the pinned error -/
def rIsQ (K : PySem.W.Frag) (pq : Addr × Obj) : List V → Hp → VK → Prop := fun xs H Q => ∃ (D : Addr) (d : Option Addr) (c : V) (cv : Value) (b : Bool), xs = [.ref pq.1, c] ∧ Zc (.ref D) d pq.2 ∧ (∃ vs, pq.2.data = .fields vs) ∧ (∀ dx, d = some dx → ∃ fs, H dx = some (.xd fs)) ∧ ErrA K D ∧ ClsV c cv ∧ PySem.W.kitOne K (.ref D) cv = some b ∧ Q (.bl b) H
theorem call_isQ (hp : pq ∈ X.pn) : CallR X (.builtin "isinstance") (rIsQ X.K pq) := by
  intro pins s σ H xs us Q I r h
  obtain ⟨D, d, c, cv, b, rfl, ⟨z1, z2⟩, ⟨vs, z3⟩, hd, A, hc, k, q⟩ := h
  obtain ⟨u1, u2, rfl, r1, r2⟩ := vals2 r
  cases (show u1 = Value.ref pq.1 from r1)
  have e2 := hc.eq r2
  subst e2
  obtain ⟨hget, _⟩ := I.pin pq (List.mem_append_left _ hp)
  obtain ⟨a, ⟨oc, od, oda, osl⟩⟩ := pq
  dsimp only at z1 z2 z3 hget
  subst z1 z2 z3
  have J : ∃ ox, PySem.W.InstAt s.heap a { cls := .ref D, dict := od, data := .fields vs, slots := osl } D ox := by
    cases od with
    | none =>
      exact ⟨none, hget, rfl, rfl, trivial⟩
    | some dx =>
      obtain ⟨fs, hx⟩ := hd dx rfl
      obtain ⟨mA, ⟨oD, es, ep, hoD, _⟩, _⟩ := (show ObjOk X.prog X.w H s.heap dx (.xd fs) from I.hok dx _ hx)
      exact ⟨some oD, hget, rfl, rfl, hoD⟩
  obtain ⟨ox, J⟩ := J
  exact PySem.W.kia_one (PySem.W.kitx_exc A.hcl A.hga A.hgt A.hsub A.ha A.hn A.htk A.hm) I.kIn J k (fun z => nomatch z) fun tk => ⟨.bl b, H, I.tok tk, rfl, q⟩
end
end Lay
namespace Try3
open PySem PySem.Spec PyProof.Rows L2
/-- a heap with one object more -/
theorem fly_push {G h : Heap} {fr : List Env} {p : Addr} {Z : Obj → Prop} (F : HandSPX.FlyingZ G fr p Z h) (t : Obj) : HandSPX.FlyingZ G fr p Z (h.push t) := by
  have up : ∀ b o, h.get? b = some o → (h.push t).get? b = some o := fun b o q => Heap.get?_push_of_some _ q
  obtain ⟨st, fr0, ff, ob, flds, T, oT, tf, g1, g2, g3, g4, g5, g6, g7, g8, g9⟩ := F
  exact ⟨fun b o q => up b o (st b o q), fr0, ff.of_keeps fun b o q _ => ⟨o, up b o q, rfl⟩, ob, flds, T, oT, tf, up _ _ g1, g2, g3, g4, g5, g6, up _ _ g7, g8, g9⟩
theorem slots_push {h : Heap} (t : Obj) : h.UpToSlots (h.push t) := fun b o q _ => ⟨o.slots, Heap.get?_push_of_some _ q⟩
/-- what such a clause wishes of an error: it is caught; slot i is the name's -/
def wAs3 (K : PySem.W.Frag) (cs : List Value) (i : Nat) (ts : Addr → Value → Option Addr → TS) (D : Ends) : WX := fun cls d σ H =>
  PySem.W.exmAny K cls cs = some true ∧ ∀ a, H a = none → ts a cls d { nx := fun τ J => D.nx (τ.set i none) J, rt := D.rt, bk := fun τ J => D.bk (τ.set i none) J, ct := fun τ J => D.ct (τ.set i none) J } (σ.set i (some (.ref a))) H
section
variable {X : Cx} {x1 x2 x3 nm : Str} {c1 c2 c3 : Value} {i kk : Nat} {body rest : List Stmt} {st : Stmt} {q1 q2 q3 tq pq p0 : Pos} {tb : WX → TS} {ts : Addr → Value → Option Addr → TS}
theorem ld_names {pins : List (Addr × Obj)} {σ : L2.St} {H : Hp} {s : Shared} {x : Str} {c : Value} {q : Pos} {Y : Cx} {E : Value → Shared → Prop} {Q : Value → Shared → Prop} (I : Inv Y pins σ H s) (n : Names Y x c) (k : Q c s) :
    wpAny (model Y.prog Y.w) Y.A (eval (.Name x q) Y.env) Q E s := by
  rcases n with ⟨g, nd, m | ⟨m, bv, nn⟩⟩
  · exact ld_glob I g m k nd
  · exact ld_blt I g m bv k nn nd
/-- an error on its way through the clause -/
def catching (X : Cx) (pins : List (Addr × Obj)) (D : Ends) (cl : ExceptHandler) (e : Value) (t : Shared) : Prop :=
  wpAny (model X.prog X.w) X.A (noteFrame e X.env) (fun _ t1 => wpAny (model X.prog X.w) X.A (setFlight e none) (fun _ t2 =>
    wpAny (model X.prog X.w) X.A (handleBy e X.env [cl]) (SP X pins D) X.xe t2) X.xe t1) X.xe t
theorem ps_try_as3 (stk : X.stack = X.env :: X.outer) (loc : X.env.frame = some X.env.locals) (nd : X.N.Nodup) (hi : X.N[i]? = some nm) (kd : X.env.kindOf nm = some .local) (n1 : Names X x1 c1) (n2 : Names X x2 c2) (n3 : Names X x3 c3)
    (hb : ∀ (W : WX) (pn : List (Addr × Obj)) (xe : Value → Shared → Prop), Takes (X.tr pn xe) W → PSs (X.tr pn xe) body (tb W))
    (hsu : ∀ (a : Addr) (oe : Obj) (cls : Value) (d : Option Addr) (pn : List (Addr × Obj)), Zc cls d oe → (∃ vs, oe.data = .fields vs) → PSs (X.suite a ((a, oe) :: pn)) (st :: rest) (ts a cls d)) :
    PS X (.Try body [.ExceptHandler (some (.Tuple [.Name x1 q1, .Name x2 q2, .Name x3 q3] kk tq)) (some nm) (st :: rest) pq] [] [] p0) (fun D σ H => tb (wAs3 X.K [c1, c2, c3] i ts D) D σ H) := by
  refine ⟨fun pins s σ H D I h => ?_⟩
  have ok := I.ok
  have fra : X.A.frames = some (X.env :: X.outer) := ok.frames.trans (by rw [stk])
  apply wpAny_Try_except
  have run := (hb (wAs3 X.K [c1, c2, c3] i ts D) (X.pn ++ pins) (catching X pins D (.ExceptHandler (some (.Tuple [.Name x1 q1, .Name x2 q2, .Name x3 q3] kk tq)) (some nm) (st :: rest) pq)) (fun u s' xx => ?_)).run [] s σ H D (I.toTry _) h
  · refine wpAny_mono run (fun f t z => ?_) fun _ _ z => z
    cases f with
    | next =>
      obtain ⟨τ, J, T, z⟩ := z
      exact wpAny_execs_nil ⟨τ, J, T.ofTry ok, z⟩
    | brk => exact let ⟨τ, J, T, z⟩ := z; ⟨τ, J, T.ofTry ok, z⟩
    | cont => exact let ⟨τ, J, T, z⟩ := z; ⟨τ, J, T.ofTry ok, z⟩
    | ret _ => exact let ⟨y, τ, J, T, r, z⟩ := z; ⟨y, τ, J, T.ofTry ok, r, z⟩
  · obtain ⟨a, B, t0, pins', σ1, H1, cls, d, rfl, J0, nb, up, sky, na, os, ag, hx, go⟩ := xx
    have J : Inv X pins σ1 H1 t0 := J0.ofTry ok
    rw [show (X.tr (X.pn ++ pins) _).stack = X.env :: X.outer from stk] at sky
    show wpAny (model X.prog X.w) X.A (noteFrame (.ref a) X.env) _ _ _
    refine Sky.land Zc.steady fra loc sky fun g1 f1 u1 => ?_
    obtain ⟨o1, v1, e1, z1, d1⟩ := f1.there
    have far : a ∉ frs (X.env :: X.outer) := fun m => by
      obtain ⟨_, o2, e2, k2⟩ := f1.2.2.1.mem m
      cases e1.symm.trans e2
      exact k2 _ d1
    have aL : a ≠ X.env.locals := fun z => far (List.mem_filterMap.mpr ⟨_, List.mem_cons_self, loc.trans (by rw [z])⟩)
    have aF : a ∉ X.fs := fun m => let ⟨en, i1, i2⟩ := List.mem_filterMap.mp m; far (List.mem_filterMap.mpr ⟨en, List.mem_cons_of_mem _ i1, i2⟩)
    have J1 : Inv X pins σ1 H1 { s' with heap := g1 } := J.landed nb f1.1 (up.trans u1) os ag
    have S1 := J1.suite e1 d1 na aL aF
    -- the tuple of the classes is made
    have hob : ∃ ob : Obj, ob = { cls := .type "tuple", data := .seq [c1, c2, c3].toArray } := ⟨_, rfl⟩
    obtain ⟨ob, hob⟩ := hob
    have f2 := fly_push f1 ob
    have u2 := (up.trans u1).trans (slots_push (h := g1) ob)
    have J2 : Inv X pins σ1 H1 { s' with heap := g1.push ob } := J.landed nb f2.1 u2 os ag
    have e2 : (g1.push ob).get? a = some o1 := Heap.get?_push_of_some _ e1
    have ty : PySem.W.Looks (model X.prog X.w) (g1.push ob) (typeOf (.ref a)) cls := fun A' Q' E' t kp q => wpAny_typeOf_ref (kp _ _ e2) (z1.1.symm ▸ q)
    have tp : (g1.push ob).get? g1.objs.size = some { cls := .type "tuple", data := .seq [c1, c2, c3].toArray } := by
      subst hob
      exact Heap.get?_push_size _ rfl
    apply wpAny_handleBy_cons
    · apply codeAny_handlers_test
      apply Tuple_
      refine spliced_more (ld_names (Y := X.suite a ((a, o1) :: (X.pn ++ pins))) S1 n1 ?_)
      refine spliced_more (ld_names (Y := X.suite a ((a, o1) :: (X.pn ++ pins))) S1 n2 ?_)
      refine spliced_more (ld_names (Y := X.suite a ((a, o1) :: (X.pn ++ pins))) S1 n3 (spliced_none ?_))
      refine wpAny_newObj_type ?_ (by show 3 ≤ sizeLine; decide)
      rw [← hob]
      refine (PySem.W.exm_tup3 (M := model X.prog X.w) J2.kIn ty tp hx).here ?_
      apply codeAny_handlers_suite_as
      refine HandSPX.lands_againZ f2 fun g3 f3 u3 => ?_
      have J3 : Inv X pins σ1 H1 { s' with heap := g3 } := J.landed nb f3.1 (u2.trans u3) os ag
      obtain ⟨o3, v3, e3, z3, d3⟩ := f3.there
      refine store_ok (X := X.suite a ((a, o3) :: (X.pn ++ pins))) (v := .ref a) (J3.suite e3 d3 na aL aF) nd hi (.inl kd) rfl (fun t4 S4 => ?_) (.inr kd)
      have gone : ∀ {τ : L2.St} {L : Hp} {t5 : Shared} {R : Shared → Prop}, Inv (X.suite a ((a, o3) :: (X.pn ++ pins))) [] τ L t5 → (∀ t6, Inv X pins (τ.set i none) L t6 → R t6) →
          wpAny (model X.prog X.w) X.A (do bindName X.env nm .none; unbindBehindTheSuite X.env nm pq) (fun _ t6 => R t6) X.xe t5 := fun S5 kk => gone_ok (S5.unsuite ok) nd hi kd kk
      refine wpAny_mono ((hsu a o3 cls d (X.pn ++ pins) z3 ⟨v3, d3⟩).run [] t4 _ H1 _ S4 (go a na)) (fun f t5 z => ?_) fun _ _ z => z.elim
      cases f with
      | next => exact let ⟨τ, L, S5, z⟩ := z; gone S5 fun t6 T => ⟨_, L, T, z⟩
      | brk => exact let ⟨τ, L, S5, z⟩ := z; gone S5 fun t6 T => ⟨_, L, T, z⟩
      | cont => exact let ⟨τ, L, S5, z⟩ := z; gone S5 fun t6 T => ⟨_, L, T, z⟩
      | ret _ => exact let ⟨y, τ, L, S5, r, z⟩ := z; gone S5 fun t6 T => ⟨y, _, L, T, r, z⟩
    · intro q
      cases q
end
end Try3
namespace LamG
open PySem PySem.Spec PyProof.Rows L2 LamX Evl Lay
section
variable {X : Cx} {pins : List (Addr × Obj)} {σ : L2.St} {H : Hp} {s : Shared}
/-- the context of the def that calls the lambda -/
abbrev inG (X : Cx) (CXg : CXT) (Eg : XK) (Ng : List Str) (qg : Str) (sg : Scope) (g : Addr) (cdg : Value) (s : Shared) (H : Hp) : Cx := cxOf CXg X.prog X.w X.K X.mg X.base Ng qg sg g cdg X.A X.stack s H Eg
/-- a(), in the def that was handed the lambda -/
theorem pe_run {CXg : CXT} {Eg E : XK} {Ng : List Str} {qg a : Str} {sg scope : Scope} {g f cl : Addr} {cdg md tv : Value} {ags : Arguments} {body : Expr} {k i : Nat} {pn : List (Addr × Obj)} {xe : Value → Shared → Prop} {W : WX} {tb : TE} {p1 p2 : Pos}
    (I : Inv X pins σ H s) (L : LamS X.env.scope scope) (of_ : s.heap.get? f = some (PySem.W.kla_obj "<lambda>" (X.env.qual ++ "<lambda>") ags body scope (cloFrom X.env.cells scope.names []) md cl tv)) (nf : H f = none) (ff : f ∉ frs X.stack)
    (bind : bindArgs (PySem.W.kla_fn "<lambda>" (X.env.qual ++ "<lambda>") ags body scope (cloFrom X.env.cells scope.names []) md (.ref cl) tv) ⟨[], []⟩ = pure [])
    (tk : Takes ((inG X CXg Eg Ng qg sg g cdg s H).tr pn xe) W) (room : Room (k + 1) (inG X CXg Eg Ng qg sg g cdg s H).A)
    (hb : ∀ (t : Shared) (J : Hp), Room k ((inG X CXg Eg Ng qg sg g cdg s H).A.deeper (lamEnv X scope t.heap.objs.size f cl)) → PE (lamCx X (inG X CXg Eg Ng qg sg g cdg s H).A (inG X CXg Eg Ng qg sg g cdg s H).stack t J E scope f cl) body tb)
    (hN : Ng[i]? = some a) (hv : Vis sg a) (n1 : (a == ("__debug__" : Str)) = false) (n2 : (a == ("__classdict__" : Str)) = false) :
    PE ((inG X CXg Eg Ng qg sg g cdg s H).tr pn xe) (.Call (.Name a p1) [] [] p2) fun τ J Q => τ[i]? = some (some (.ref f)) ∧ J cl = some (CodeO cl (X.env.qual ++ "<lambda>")) ∧ (∀ cls d J1, E cls d J1 → W cls d τ J1) ∧ tb σ J Q := by
  refine ⟨fun ps t τ J Q IZ z => ?_⟩
  have nm := (pe_var (pos := p1) (i := i) hN hv n1 n2).run ps t τ J (fun v J1 => v = .ref f ∧ J1 = J) IZ ⟨.ref f, z.1, rfl, rfl⟩
  refine wpAny_Call_Name_kw (thn nm ?_)
  rintro u t1 ⟨v, J1, I1, r1, rfl, rfl⟩
  cases (show u = Value.ref f from r1)
  have at1 := I1.base.keep f _ of_ nf ff (fun y => nomatch (show f ∈ ([] : List Addr) from y))
  refine PySem.W.callWith_F0 ⟨_, _, _, _, at1⟩ ?_
  have un : Un (frs X.stack) [] H J1 s.heap t1.heap := I1.base
  have code := (I1.hok cl _ z.2.1).1
  obtain ⟨oc, vs, tc, k1, k2, k3⟩ := code
  have main : codeAny (model X.prog X.w) (inG X CXg Eg Ng qg sg g cdg s H).A (.call (.ref f) ⟨[], []⟩) (CR (L2.CX X.prog X.w) (inG X CXg Eg Ng qg sg g cdg s H).stack X.prog X.w J1 t1 Q E) t1 := by
    apply PySem.W.kla_callFunE room.depth at1 rfl L.co L.gen rfl ⟨cl, oc, vs, tc, rfl, k1, k2, k3⟩
    rw [bind]
    apply wpAny_pure
    refine wpAny_newFunctionEnv (fun y hy => (L.own y hy).2) (fun y hy => nomatch hy) (fun h1 ns sb => ⟨I1.nolimit.fresh _ sb, ?_⟩) L.kind
    have kept : ∀ b o, t1.heap.get? b = some o → h1.get? b = some o := fun b o y => sb.extBut b o (Nat.ne_of_lt (Heap.lt_size y)) (Heap.get?_push_of_some _ y)
    have start := lam_start2 (A := (inG X CXg Eg Ng qg sg g cdg s H).A) (outer := (inG X CXg Eg Ng qg sg g cdg s H).stack) (E := E) (f := f) (c' := cl) (tk := t1.toks + ([] : List (Str × Value)).length) I L I1.env0 room.hd un ns kept
    refine PySem.W.kla_codeExpr (wpAny_mono ((hb t1 J1 (room.deeper _)).run [] _ _ J1 Q start z.2.2.2) (fun v t2 y => ?_) fun _ _ y => y)
    obtain ⟨w', J2, T, rv, q⟩ := y
    exact ⟨w', J2, T.os, T.bare, T.base, T.hok, rv, q⟩
  refine wpAny_call (codeAny_mono main fun r t2 y => ?_)
  rcases r with er | fl
  · exact tk er t2 (XE.of_call I1 (fun cls d J2 q => z.2.2.1 cls d J2 q) y)
  · cases fl with
    | ret _ => exact I1.after y
    | next => exact y.elim
    | brk => exact y.elim
    | cont => exact y.elim
/-- the def that calls what it got: TT is what it makes of the lambda's reading -/
def Gives (X : Cx) (Ng : List Str) (x : Str) (sg : Scope) (bg : List Stmt) (a q : Str) (TT : (XK → Hp → VK → Prop) → Hp → VK → Prop) : Prop :=
  ∀ (g : Addr) (cdg : Value) (f cl : Addr) (s : Shared) (H : Hp) (Q : VK) (tl : XK → Hp → VK → Prop), Room 20 (inG X C8.CX0 C8.E0 Ng x sg g cdg s H).A →
    (∀ (W : WX) (pn : List (Addr × Obj)) (xe : Value → Shared → Prop) (E : XK) (p1 p2 : Pos), Takes ((inG X C8.CX0 C8.E0 Ng x sg g cdg s H).tr pn xe) W →
      PE ((inG X C8.CX0 C8.E0 Ng x sg g cdg s H).tr pn xe) (.Call (.Name a p1) [] [] p2) (fun τ J Q => τ[0]? = some (some (.ref f)) ∧ J cl = some (CodeO cl q) ∧ (∀ cls d J1, E cls d J1 → W cls d τ J1) ∧ tl E J Q)) →
    H cl = some (CodeO cl q) → TT tl H Q → ∃ t, PSs (inG X C8.CX0 C8.E0 Ng x sg g cdg s H).nox bg t ∧ t { nx := fun _ J => Q .non J, rt := Q } (L2.start Ng [.ref f]) H
/-- what the maker's code is: its table is one of T -/
structure LamAt (T : List (Addr × Str)) (mg : Str → Option Value) (base : Heap) (cdv : Value) (q : Str) : Prop where
  ex : ∃ c P, cdv = .ref c ∧ TabB base mg c P ∧ (P, q) ∈ T ∧ ∀ p ∈ T, p.1 = P → p.2 = q
/-- x(lambda: body) -/
theorem pe_lam {T : List (Addr × Str)} {TT : (XK → Hp → VK → Prop) → Hp → VK → Prop} {x a : Str} {st : Stmt} {Ng : List Str} {k : Nat} {ags : Arguments} {body : Expr} {scope : Scope} {tE : XK → TE} {p lp pos : Pos} (D : DefIn X.K X.mg x st [a]) (gl : Gl X x) (Sg : FnScope Ng [a] (defScope st)) (hN : Ng[0]? = some a) (hv : Vis (defScope st) a)
    (gv : Gives X Ng x (defScope st) (defBody st) a (X.env.qual ++ "<lambda>") TT) (at_ : LamAt T X.mg X.base X.env.code (X.env.qual ++ "<lambda>")) (hr : Room (k + 22) X.A) (L : LamS X.env.scope scope) (dfl : defaultsOf ags X.env = ([], []))
    (bind : ∀ (q : Str) (cl : List (Str × Addr)) (pm cv ctv : Value), bindArgs (PySem.W.kla_fn "<lambda>" q ags body scope cl pm cv ctv) ⟨[], []⟩ = pure [])
    (hb : ∀ (g : Addr) (cdg : Value) (s : Shared) (H : Hp) (E : XK) (f cl : Addr) (t : Shared) (J : Hp), Room (k + 20) ((inG X C8.CX0 C8.E0 Ng x (defScope st) g cdg s H).A.deeper (lamEnv X scope t.heap.objs.size f cl)) →
      PE (lamCx X (inG X C8.CX0 C8.E0 Ng x (defScope st) g cdg s H).A (inG X C8.CX0 C8.E0 Ng x (defScope st) g cdg s H).stack t J E scope f cl) body (tE E))
    (n0 : (x == ("__debug__" : Str)) = false) (n1 : (a == ("__debug__" : Str)) = false) (n2 : (a == ("__classdict__" : Str)) = false) :
    PE X (.Call (.Name x p) [.Lambda ags body scope lp] [] pos) (tLam T TT tE) := by
  refine ⟨fun ps s σ H Q I z => ?_⟩
  obtain ⟨g, fd, F, hm, hbd⟩ := D.ex
  have kp := F.kp
  obtain ⟨oc, od, kV, doc, pm, an, cdv, ct, osl, rfl, lk, code⟩ := F.ex
  obtain ⟨c, P, ec, tb, mT, uT⟩ := at_.ex
  refine wpAny_Call_Name_kw (ld_glob I gl hm ?_ n0)
  refine PySem.W.callWith_K (h₀ := X.base) I.ok.mod.kin kp ?_ (by rfl) (by rfl)
  show wpAny _ _ (spliced ((false, eval (.Lambda ags body scope lp) X.env) :: backTo pos (starEach [] X.env))) _ _ s
  apply Calls.spliced_cons
  refine lam_make2 I tb ec mT uT z.1 dfl (L.has I.ok) fun f cl md tv H1 t1 I1 eN T1 of_ nf ff hco => ?_
  apply Calls.spliced_nil
  refine ⟨I1.kIn, ?_⟩
  have main : codeAny (model X.prog X.w) X.A (.call (.ref g) ⟨[.ref f], []⟩) (CR C8.CX0 X.stack X.prog X.w H1 t1 Q C8.E0) t1 := by
    refine run_ofS (N := Ng) (ps := [a]) (us := [.ref f]) (vs := [.ref f]) lk code Sg (hr.mono (Nat.le_refl _)) I1.env0 (by
      have b := hbd t1 [.ref f] I1.kIn rfl
      rw [List.append_nil] at b
      exact b) (.cons rfl .nil) rfl fun hr' => ?_
    obtain ⟨t, ht, hq⟩ := gv g cdv f cl t1 H1 Q (fun E J R => tE E σ J R) (hr'.mono (by omega)) (fun W pn xe E p1 p2 tk => pe_run (k := k + 20) (i := 0) I1 L of_ nf ff (bind _ _ _ _ _) tk hr' (fun t J r => hb g cdv t1 H1 E f cl t J r) hN hv n1 n2) hco (z.2 H1 eN T1)
    exact ⟨t, ht.nox, hq⟩
  refine wpAny_call (codeAny_mono main fun r t2 y => ?_)
  rcases r with er | fl
  · exact (show False from y).elim
  · cases fl with
    | ret _ => exact I1.after y
    | next => exact (show False from y).elim
    | brk => exact (show False from y).elim
    | cont => exact (show False from y).elim
end
end LamG
namespace OutL
variable [DL.TabsT]
open PySem PySem.Spec PyProof.Rows L2 Evl Lay ErrX DL LamG DE
section
variable {P : Program} {w : World} {K : PySem.W.Frag} {mg : Str → Option Value} {base : Heap} {CX : CXT}
/-- as fng, with where the code stands -/
theorem fngL {x qual : Str} {st : Stmt} {f : Addr} {fd : FuncData} {N ps : List Str} {k : Nat} {sp : Sp} (F : Fun K x qual st f fd) (S : FnScope N ps (defScope st)) (len : ∀ vs H Q E, sp vs H Q E → vs.length = ps.length)
    (body : ∀ (cdv : Value) (A : Around) (outer : List Env) (s : Shared) (H : Hp) (vs : List V) (Q : VK) (E : XK), fd.code = cdv → Room k (A.deeper (envOfC qual (defScope st) s.heap.objs.size f cdv)) → (cxOf CX P w K mg base N qual (defScope st) f cdv A outer s H E).A.guards = some [] → sp vs H Q E →
      ∃ t, PSs (cxOf CX P w K mg base N qual (defScope st) f cdv A outer s H E) (defBody st) t ∧ t { nx := fun _ H' => Q .non H', rt := Q } (start N vs) H) : FnG P w K mg base CX (k + 1) f fd ps sp := by
  obtain ⟨oc, od, kV, doc, pm, an, cdv, ct, osl, rfl, lk, code⟩ := F.ex
  refine ⟨len, fun A outer s H args us vs Q E hr hg e0 hb r hsp => ?_⟩
  have many := len _ _ _ _ hsp
  have up : ∀ b o, base.get? b = some o → s.heap.get? b = some o := fun b o e => (e0.bs b o e).1
  have KX : K.In s.heap := e0.mod.kin.keeps up
  refine codeAny_call_function hr.depth (KX _ _ lk) rfl S.co S.gen rfl (PySem.W.codeRec_of KX code) (hb _ _ _ _ ?_)
  refine wpAny_newFunctionEnv_cells S.kind (fun y hy => ?_) fun env he s1 x => ?_
  · obtain ⟨n, v⟩ := y
    rcases S.par n (List.of_mem_zip hy).1 with q | q
    · exact .inl q
    · exact .inr ⟨q, PySem.W.cellsFrom_some _ _ _ (.inl q)⟩
  · subst he
    refine ⟨(e0.mod.nolimit.keeps up).keeps x.toInCall.keep, codeAny_func ?_⟩
    obtain ⟨t, ht, hq⟩ := body cdv A outer s H vs Q E rfl (hr.deeper _) (by show A.guards = _; exact hg) hsp
    have I := inv_start (CX := CX) (E := E) S hr.hd e0 many r x
    refine wpAny_mono (ht.run [] s1 (start N vs) H _ I hq) (fun fl s' hs => ?_) fun e s' z => z
    cases fl with
    | ret u =>
      obtain ⟨v, σ', H', J, rv, q⟩ := hs
      exact ⟨v, H', J.os, J.bare, J.base, J.hok, rv, q⟩
    | next =>
      obtain ⟨σ', H', J, q⟩ := hs
      exact ⟨V.non, H', J.os, J.bare, J.base, J.hok, rfl, q⟩
    | brk =>
      obtain ⟨_, _, _, q⟩ := hs
      exact q.elim
    | cont =>
      obtain ⟨_, _, _, q⟩ := hs
      exact q.elim
/-- where the code of x is, its table is one of T -/
def LamIn (mg : Str → Option Value) (base : Heap) (K : PySem.W.Frag) (x : Str) (st : Stmt) : Prop := ∀ f fd, mg x = some (.ref f) → Fun K x x st f fd → LamAt TabsT.T mg base fd.code (x ++ ".<locals>." ++ "<lambda>")
/-- a def that makes lambdas -/
theorem dokL {x : Str} {st : Stmt} {N ps : List Str} {k : Nat} {S : List D → (D → Prop) → Prop} (Df : DefIn K mg x st ps) (LI : LamIn mg base K x st) (sc : FnScope N ps (defScope st)) (len : ∀ ds P, S ds P → ds.length = ps.length) (hN : ps.length ≤ N.length := by decide)
    (body : ∀ (f : Addr) (cdv : Value) (A : Around) (outer : List Env) (s : Shared) (H : Hp) (E : XK), LamAt TabsT.T mg base cdv (x ++ ".<locals>." ++ "<lambda>") → Room k (cxOf CX0 P w K mg base N x (defScope st) f cdv A outer s H E).A → (cxOf CX0 P w K mg base N x (defScope st) f cdv A outer s H E).A.guards = some [] →
      ∃ t a, PSs (cxOf CX0 P w K mg base N x (defScope st) f cdv A outer s H E).nox (defBody st) t ∧ DL.SOk K t a ∧ ∀ ds Q, S ds Q → a { nx := fun _ => Q .n, rt := Q } (startG N.length ds)) : DOk P w K mg base x st (k + 1) ps S := by
  obtain ⟨f, fd, F, hm, hb⟩ := Df.ex
  refine ⟨f, fd, fngL F sc (spD_len len) fun cdv A outer s H vs Q E hc hr hg h => ?_, hm, F, hb⟩
  obtain ⟨t, a, ht, hs, q⟩ := body f cdv A outer s H E (hc ▸ LI f fd hm F) hr hg
  exact ⟨t, ht.nox, body_run hs h (fun ds P z => by rw [len ds P z]; exact hN) q⟩
end
section
variable {K : PySem.W.Frag} {F F' H H' : Hp}
/-- what a call within the lambda may end with -/
def EO (K : PySem.W.Frag) (Se : Addr → Option (Str × D) → (D → Prop) → Prop) (R0 : D → Prop) (F H : Hp) : XK := fun cls dd H' =>
  (∃ C fld x v d F', cls = .ref C ∧ dd = some d ∧ Se C (some (fld, x)) R0 ∧ Ext F H F' H' ∧ F' d = none ∧ Free H d ∧ H' d = some (.xd [(fld, v)]) ∧ R K F' v x) ∨ ∃ C F', cls = .ref C ∧ dd = none ∧ Se C none R0 ∧ Ext F H F' H'
/-- what the def that calls the lambda makes of it: Sb what is told of what comes back, Se of errors -/
def TTo (K : PySem.W.Frag) (Sb : D → (D → Prop) → Prop) (Se : Addr → Option (Str × D) → (D → Prop) → Prop) : (XK → Hp → VK → Prop) → Hp → VK → Prop := fun tl H Q =>
  ∃ F R0, ExK F H ∧ tl (EO K Se R0 F H) H (fun v H' => ∃ d F', Sb d R0 ∧ Ext F H F' H' ∧ R K F' v d) ∧ ∀ v d F' H', R0 d → Ext F H F' H' → R K F' v d → Q v H'
theorem Ext.tab {H1 : Hp} (e : Ex F H) (kn : Kn F H) (eN : LamX.ExtN H H1) (T1 : LamX.Tabs TabsT.T H1) : Ext F H F H1 :=
  ⟨Ex.refl F, eN, fun a o h => eN a o (e a o h) fun ps z => kn.1 a ps (by rw [h, z]), fun _ => ⟨kn.1, T1⟩, fun p o h n => by rw [n] at h; cases h⟩
abbrev wLam (S : List D → (D → Prop) → ER0 → Prop) (Sb : D → (D → Prop) → Prop) (Se : Addr → Option (Str × D) → (D → Prop) → Prop) (wa : DL.WA) : DL.WE := fun Γ Q => wa Γ fun ds => ∃ Pd Er, S ds Pd Er ∧ (∀ d, Pd d → Sb d Q) ∧ ∀ C x, Er C x → Se C x Q
/-- x(lambda: f(..)), f may raise -/
theorem e_lam {S : List D → (D → Prop) → ER0 → Prop} {Sb : D → (D → Prop) → Prop} {Se : Addr → Option (Str × D) → (D → Prop) → Prop} {ta : TA} {wa : DL.WA} (ha : DL.AOk K ta wa) :
    DL.EOk K (LamX.tLam TabsT.T (TTo K Sb Se) fun E => tCallS (spDE K S) (WE fun cls d _ J => E cls d J) ta) (wLam S Sb Se wa) := fun Γ Q hq F0 H0 F H σ r QV w => by
  refine ⟨r.tb.2, fun H1 eN T1 => ?_⟩
  have e0 := Ext.tab r.fh r.tb eN T1
  have r0 := r.ext e0
  refine ⟨F, Q, r0.ek, ?_, fun v d F' H' q e1 rv => w v d F' H' q (e0.trans e1) rv⟩
  refine ha Γ _ hq F0 H0 F H1 σ r0 _ fun vs ds F2 H2 z e2 ra => ?_
  obtain ⟨Pd, Er, s, b1, b2⟩ := z
  refine ⟨F2, ds, Pd, Er, (r0.ext e2).ek, ra, s, fun v d F3 H3 p e3 rv => ⟨d, F3, b1 d p, e2.trans e3, rv⟩, fun C fld x v d F3 H3 er e3 f0 h0 hd rv => ?_, fun C F3 H3 er e3 => .inr ⟨C, F3, rfl, rfl, b2 C none er, e2.trans e3⟩⟩
  exact .inl ⟨C, fld, x, v, d, F3, rfl, rfl, b2 C _ er, e2.trans e3, f0, ExT.back e2.hh h0, hd, rv⟩
end
end OutL
namespace DL
variable [DL.TabsT]
open PySem PySem.Spec PyProof.Rows L2 Evl Lay ErrX LCN
section
variable {K : PySem.W.Frag}
/-- at p a list of the lists at rs -/
structure LoL (K : PySem.W.Frag) (H0 F H : Hp) (p : Addr) (rs : List Addr) (xss : List (List D)) : Prop where
  hp : H p = some (.lst (rs.map V.ref))
  fp : F p = none
  h0 : Free H0 p
  len : rs.length = xss.length
  nd : (p :: rs).Nodup
  each : ∀ (j : Nat) (r : Addr), rs[j]? = some r → F r = none ∧ Free H0 r ∧ ∃ vs xs, H r = some (.lst vs) ∧ xss[j]? = some xs ∧ RA K F vs xs
variable {H0 F H F1 H1 : Hp} {p : Addr} {rs : List Addr} {xss : List (List D)}
theorem LoL.ext (l : LoL K H0 F H p rs xss) (e : Ext F H F1 H1) : LoL K H0 F1 H1 p rs xss := by
  refine ⟨e.hh.kp l.hp, nof_ext l.fp l.hp e, l.h0, l.len, l.nd, fun j r hr => ?_⟩
  obtain ⟨a, b, vs, xs, c, d, f⟩ := l.each j r hr
  exact ⟨nof_ext a c e, b, vs, xs, e.hh.kp c, d, f.mono e.ff⟩
theorem LoL.put {q : Nat} {r : Addr} {vs : List V} {v : V} {xs : List D} {x : D} (l : LoL K H0 F H p rs xss) (hr : rs[q]? = some r) (hv : H r = some (.lst vs)) (hx : xss[q]? = some xs) (ra : RA K F vs xs) (rv : R K F v x) : LoL K H0 F (upd H r (.lst (vs ++ [v]))) p rs (xss.set q (xs ++ [x])) := by
  have nd := l.nd
  rw [List.nodup_cons] at nd
  have ql := (List.getElem?_eq_some_iff.mp hr).1
  have np : p ≠ r := fun e => nd.1 (e ▸ List.mem_of_getElem? hr)
  refine ⟨by rw [upd_ne np]; exact l.hp, l.fp, l.h0, by rw [List.length_set]; exact l.len, l.nd, fun j r' hj => ?_⟩
  obtain ⟨a, b, ws, ys, c, d, f⟩ := l.each j r' hj
  by_cases e : q = j
  · subst e
    rw [hr] at hj
    cases hj
    rw [hx] at d
    cases d
    exact ⟨a, b, _, _, upd_same, by rw [List.getElem?_set_self (by rw [← l.len]; exact ql)], ra.snoc rv⟩
  · have jl := (List.getElem?_eq_some_iff.mp hj).1
    have ne : r' ≠ r := fun e2 => by
      subst e2
      have := (List.getElem_inj (h₀ := ql) (h₁ := jl) nd.2).mp (by rw [(List.getElem?_eq_some_iff.mp hr).2, (List.getElem?_eq_some_iff.mp hj).2])
      exact e this
    exact ⟨a, b, ws, ys, by rw [upd_ne ne]; exact c, by rw [List.getElem?_set_ne e]; exact d, f⟩
/-- what is told when it is handed back -/
def told (F H : Hp) (p : Addr) (rs : List Addr) : Hp := fun a => open Classical in if a = p ∨ a ∈ rs then H a else F a
end
end DL
namespace DL
open PySem PySem.Spec PyProof.Rows L2 Evl Lay ErrX LCN
end DL
namespace SrtD
open PySem PySem.Spec PyProof.Rows L2 Evl Lay ErrX DL SeqAt SrtO
end SrtD
namespace DL
open PySem PySem.Spec PyProof.Rows L2 Evl Lay ErrX LCN
end DL
namespace DL
open PySem PySem.Spec PyProof.Rows L2 Evl Lay ErrX LCN
end DL
namespace DL
open PySem PySem.Spec PyProof.Rows L2 Evl Lay ErrX LCN
end DL
namespace SrtD
open PySem PySem.Spec PyProof.Rows L2 Evl Lay ErrX DL SeqAt SrtO
end SrtD
namespace DL
open PySem PySem.Spec PyProof.Rows L2 Evl Lay ErrX LCN
end DL
namespace OutL
variable [DL.TabsT]
open PySem PySem.Spec PyProof.Rows L2 L2H Evl Lay ErrX DL LamG
section
variable {K : PySem.W.Frag}
theorem unitsH {k : Nat} {A : Around} (r : RoomH k A) : A.units + 64 < cLine := by have := r.un; omega
def rCntB (K : PySem.W.Frag) : V → List V → Hp → VK → Prop := fun x xs H Q => ∃ (p : Addr) (bs : List Bool) (b : Bool), x = .ref p ∧ xs = [.bl b] ∧ SqL K H p (bs.map V.bl) ∧ Q (.int (bs.count b : Nat)) H
theorem vals_bools : ∀ {bs : List Bool} {us : List Value}, Vals (bs.map V.bl) us → us = bs.map Value.bool
  | [], _, .nil => rfl
  | b :: bs, _, .cons h r => by
    have h : _ = Value.bool b := h
    rw [h, vals_bools r]
    rfl
theorem mt_cntB (K : PySem.W.Frag) {X : Cx} (hK : X.K = K := by rfl) : MtR X "list.count" (rCntB K) := by
  subst hK
  intro pins sa σ H x xs v us Q I rx rxs h
  obtain ⟨p, bs, b, rfl, rfl, hs, q⟩ := h
  cases rx
  obtain ⟨u, rfl, ru⟩ := rxs.one
  cases (show u = Value.bool b from ru)
  obtain ⟨its, rv, ⟨⟨cls, dd, data, sl⟩, n, ho, hc, hdn, hdt⟩, hlen⟩ := I.list hs
  simp only at hc hdt
  subst hc hdt
  cases vals_bools rv
  refine call_meets PySem.F.slot_list_count ⟨_, ho, rfl⟩ PySem.F.entry_list_count (PySem.F.args_list_count_2 _ _)
    (SeqAt.list_countAt p (bs.map Value.bool).toArray n dd sl (.bool b) (fun z => match z with | .bool c => c == b | _ => false)) ⟨ho, fun z hz => ?_, ?_⟩
  · obtain ⟨c, _, rfl⟩ := List.mem_map.mp (show z ∈ bs.map Value.bool by simpa using hz)
    exact SeqAt.EqAt.bool_bool c b
  · refine ⟨.int (bs.count b : Nat), H, I.tok _, ⟨sa.toks, ?_⟩, q⟩
    show Value.int (((bs.map Value.bool).countP _ : Nat) : Int) sa.toks = Value.int ((bs.count b : Nat) : Int) sa.toks
    rw [List.countP_map]
    rfl
abbrev wCntB (wa wb : WE) : WE := fun Γ Q => wa Γ fun x => ∃ bs : List Bool, x = .l (bs.map D.b) ∧ wb Γ fun y => ∃ b : Bool, y = .b b ∧ Q (.i (bs.count b : Nat))
theorem e_cntB {ta tb : TE} {wa wb : WE} (ha : EOk K ta wa) (hb : EOk K tb wb) : EOk K (tBM K "list" (rCntB K) ta (tCons tb tNil)) (wCntB wa wb) := fun Γ Q hq F0 H0 F H σ r QV w =>
  ha Γ _ hq F0 H0 F H σ r _ fun v x F1 H1 z1 e1 rv => by
    obtain ⟨bs, rfl, z1⟩ := z1
    cases rv with
    | @l p vs _ hp ra =>
      cases ra.bools
      refine ⟨.inl ⟨rfl, _, sq_of (e1.fh _ _ hp)⟩, hb Γ _ z1 F0 H0 F1 H1 σ (r.ext e1) _ fun u y F2 H2 z2 e2 ru => ?_⟩
      obtain ⟨b, rfl, z2⟩ := z2
      cases ru
      exact ⟨p, bs, b, rfl, rfl, sq_of (e2.hh.kp (e1.fh _ _ hp)), w _ _ F2 H2 z2 (e1.trans e2) (.i _)⟩
/-- xs.index(True): where the first one stands -/
abbrev wIdxB (wa wb : WE) : WE := fun Γ Q => wa Γ fun x => ∃ (n m : Nat), x = .l ((List.replicate n false ++ true :: List.replicate m false).map D.b) ∧ wb Γ fun y => y = .b true ∧ Q (.i (n : Nat))
theorem e_idxB {ta tb : TE} {wa wb : WE} (ha : EOk K ta wa) (hb : EOk K tb wb) : EOk K (tBM K "list" (rIndex K) ta (tCons tb tNil)) (wIdxB wa wb) := fun Γ Q hq F0 H0 F H σ r QV w =>
  ha Γ _ hq F0 H0 F H σ r _ fun v x F1 H1 z1 e1 rv => by
    obtain ⟨n, m, rfl, z1⟩ := z1
    cases rv with
    | @l p vs _ hp ra =>
      cases ra.bools
      refine ⟨.inl ⟨rfl, _, sq_of (e1.fh _ _ hp)⟩, hb Γ _ z1 F0 H0 F1 H1 σ (r.ext e1) _ fun u y F2 H2 z2 e2 ru => ?_⟩
      obtain ⟨rfl, z2⟩ := z2
      cases ru
      refine ⟨p, _, .bl true, n, .bl true, rfl, rfl, sq_of (e2.hh.kp (e1.fh _ _ hp)), rfl, ?_, ?_, rfl, fun j z' hj hz => ?_, w _ _ F2 H2 z2 (e1.trans e2) (.i _)⟩
      · rw [List.all_eq_true]
        intro z hz
        obtain ⟨b, _, rfl⟩ := List.mem_map.mp hz
        rfl
      · simp
      · rw [List.map_append, List.getElem?_append_left (by simpa using hj)] at hz
        obtain ⟨b, hb, rfl⟩ := List.mem_map.mp (List.mem_of_getElem? hz)
        rw [List.eq_of_mem_replicate hb]
        rfl
/-- isinstance(e, c) -/
abbrev wIsQ (a : Addr) (d : Option Addr) (b : Bool) (we : WE) : WE := fun Γ Q => we Γ fun x => (∃ ns xs, x = .r a d ns xs) ∧ Q (.b b)
theorem e_isQ {pq : Addr × Obj} {te : TE} {we : WE} {C : Addr} {d : Option Addr} {c : V} {cv : Value} {b : Bool} (hz : Zc (.ref C) d pq.2) (hf : ∃ vs, pq.2.data = .fields vs) (A : ErrA K C) (hc : ClsV c cv) (hk : PySem.W.kitOne K (.ref C) cv = some b) (h : EOk K te we) :
    EOk K (tCB (rIsQ K pq) (tCons te (tCons (tC c) tNil))) (wIsQ pq.1 d b we) := fun Γ Q hq F0 H0 F H σ r QV w =>
  h Γ _ hq F0 H0 F H σ r _ fun v x F1 H1 z e1 rv => by
    obtain ⟨⟨ns, xs, rfl⟩, z⟩ := z
    have fin := w _ _ F1 H1 z e1 (.b b)
    cases rv with
    | r0 => exact ⟨C, none, c, cv, b, rfl, hz, hf, (fun dx hd => nomatch hd), A, hc, hk, fin⟩
    | @r _ dx _ vs _ h1 h2 ra => exact ⟨C, some dx, c, cv, b, rfl, hz, hf, (fun dy hd => by cases hd; exact ⟨_, e1.fh _ _ h1⟩), A, hc, hk, fin⟩
/-- e.f, e the error that is caught -/
abbrev wXf (a : Addr) (d : Option Addr) (f : Str) (we : WE) : WE := fun Γ Q => we Γ fun x => ∃ dx y, d = some dx ∧ x = .r a d [f] [y] ∧ Q y
theorem e_xf {a C : Addr} {d : Option Addr} {f : Str} {te : TE} {we : WE} (h : EOk K te we) : EOk K (tXf a (.ref C) d C f te) (wXf a d f we) := fun Γ Q hq F0 H0 F H σ r QV w =>
  h Γ _ hq F0 H0 F H σ r _ fun v x F1 H1 z e1 rv => by
    obtain ⟨dx, y, rfl, rfl, z⟩ := z
    cases rv with
    | @r _ _ _ vs _ h1 h2 ra =>
      cases ra with
      | @cons u _ us _ ru rt =>
        cases rt
        refine ⟨rfl, rfl, dx, _, u, rfl, e1.fh _ _ h1, ?_, w _ _ F1 H1 z e1 ru⟩
        show List.lookup f [(f, u)] = some u
        simp [List.lookup]
end
section
variable {P : Program} {w : World} {K : PySem.W.Frag} {mg : Str → Option Value} {base : Heap}
/-- what a def does that is handed an error: i tells of it -/
def spQ (K : PySem.W.Frag) (C : Nat → Addr) (on : Nat → Bool) (S : Nat → D → Prop) (pq : Addr × Obj) : Sp := fun vs H Q _ => ∃ (i : Nat) (d : Option Addr) (F : Hp) (ns : List Str) (xs : List D), vs = [.ref pq.1] ∧ i < 24 ∧ on i = true ∧ Zc (.ref (C i)) d pq.2 ∧ (∃ us, pq.2.data = .fields us) ∧ ExK F H ∧ R K F (.ref pq.1) (.r pq.1 d ns xs) ∧
  ∀ v y F' H', S i y → Ext F H F' H' → R K F' v y → Q v H'
theorem defqD {x : Str} {st : Stmt} {N ps : List Str} {k : Nat} {C : Nat → Addr} {on : Nat → Bool} {S : Nat → D → Prop} (D0 : DefIn K mg x st ps) (sc : FnScope N ps (defScope st)) (l1 : ps.length = 1) (hN : ps.length ≤ N.length)
    (body : ∀ (f : Addr) (cdv : Value) (A : Around) (outer : List Env) (s : Shared) (H : Hp) (p : Addr × Obj) (i : Nat) (d : Option Addr), RoomH k (cxH CX0 P w K mg base N x (defScope st) f cdv A outer s H C8.E0 p).A → i < 24 → on i = true → Zc (.ref (C i)) d p.2 → (∃ us, p.2.data = .fields us) →
      ∃ t a, (∀ E, PSs (cxH CX0 P w K mg base N x (defScope st) f cdv A outer s H E p).nox (defBody st) t) ∧ SOk K t a ∧ ∀ ns xs, a { nx := fun _ => S i .n, rt := S i } (startG N.length [.r p.1 d ns xs])) : DefQ P w K mg base x (k + 1) ps (spQ K C on S) :=
  defq D0 sc (fun p vs H Q E ⟨i, d, F, ns, xs, e, _⟩ => by rw [e, l1]; rfl) fun f cdv A outer s H vs Q E p hr h => by
    obtain ⟨i, d, F, ns, xs, rfl, i24, oi, hz, hf, ek, rv, q⟩ := h
    obtain ⟨t, a, ht, hs, hq⟩ := body f cdv A outer s H p i d hr i24 oi hz hf
    refine ⟨t, ht E, hs _ _ (hq ns xs) F H F H _ (rep_start (N := N) ek.1 ek.2 (.cons rv .nil) (by rw [l1] at hN; exact hN)) _ ⟨fun Γ' σ' F' H' z r' => q _ _ _ _ z r'.ext0 .n, fun y v F' H' z x rv => q _ _ _ _ z x rv, fun _ _ _ _ z _ => z.elim, fun _ _ _ _ z _ => z.elim⟩⟩
end
end OutL
namespace OutL
variable [DL.TabsT]
open PySem PySem.Spec PyProof.Rows L2 L2H Evl Lay ErrX DL LamG
section
variable {X : Cx}
theorem pe_weak {ι : Type} {e : Expr} {te : ι → TE} (h : ∀ i, PE X e (te i)) : PE X e (fun σ H Q => ∃ i Qs, te i σ H Qs ∧ ∀ v H1, Qs v H1 → Q v H1) :=
  ⟨fun pins s σ H Q I ⟨i, Qs, h1, h2⟩ => wpAny_mono ((h i).run pins s σ H Qs I h1) (fun _ _ ⟨v, H1, I1, r1, q⟩ => ⟨v, H1, I1, r1, h2 v H1 q⟩) fun _ _ z => z⟩
theorem pe_imp {e : Expr} {te te' : TE} (h : PE X e te) (k : ∀ σ H Q, te' σ H Q → te σ H Q) : PE X e te' := ⟨fun pins s σ H Q I z => h.run pins s σ H Q I (k _ _ _ z)⟩
theorem pe_false {e : Expr} : PE X e (fun _ _ _ => False) := ⟨fun _ _ _ _ _ _ z => z.elim⟩
theorem ps_false {st : Stmt} : PS X st (fun _ _ _ => False) := ⟨fun _ _ _ _ _ _ z => z.elim⟩
theorem pss_ex {ι : Type} {l : List Stmt} {p : ι → Prop} {ts : ι → TS} (h : ∀ i, p i → PSs X l (ts i)) : PSs X l (fun D σ H => ∃ i, p i ∧ ts i D σ H) := ⟨fun pins s σ H D I ⟨i, hp, z⟩ => (h i hp).run pins s σ H D I z⟩
end
section
variable {K : PySem.W.Frag}
abbrev wFalse : WE := fun _ _ => False
theorem e_false : EOk K (fun _ _ _ => False) wFalse := fun _ _ hq => hq.elim
theorem exm3 {cls c1 c2 c3 : Value} {b1 b2 b3 : Bool} (h1 : PySem.W.exmOne K cls c1 = some b1) (h2 : PySem.W.exmOne K cls c2 = some b2) (h3 : PySem.W.exmOne K cls c3 = some b3) (h : (b1 || b2 || b3) = true) : PySem.W.exmAny K cls [c1, c2, c3] = some true := by
  simp only [PySem.W.exmAny, h1, h2, h3]
  revert h
  cases b1 <;> cases b2 <;> cases b3 <;> simp
end
end OutL
namespace OutL
variable [DL.TabsT]
open PySem PySem.Spec PyProof.Rows L2
/-- where nothing is raised -/
theorem lift {K : PySem.W.Frag} {B : Hp → Hp → Prop} {te : TE} {we : DL.WE} (h : DL.EOk K te we) : DE.EOk K B te we := fun Γ Q hq F0 H0 F H σ r QV w => h Γ Q hq F0 H0 F H σ r.dl QV w
end OutL
namespace OutL
variable [DL.TabsT]
open PySem PySem.Spec PyProof.Rows L2 DL
/-- what can be written out, as a text that may stand in lists that are compared -/
def chkR (v : D) : Bool := match pyQ v with
  | some d => d.showable && decide (d.depth ≤ 32) && decide (d.shown.length ≤ sizeLine) && PyData.strOk d.shown
  | none => false
theorem repr_chk {v : D} (h : chkR v = true) : ∃ z, PyData.strOk z = true ∧ ∀ Q : D → Prop, Q (.s z) → wRepr [v] Q := by
  unfold chkR at h
  split at h
  · rename_i d e
    simp only [Bool.and_eq_true, decide_eq_true_eq] at h
    exact ⟨d.shown, h.2, fun Q q => ⟨d, e, h.1.1.1, h.1.1.2, h.1.2, q⟩⟩
  · cases h
end OutL
namespace K40
variable [DL.TabsT]
open PySem PySem.Spec PyProof.Rows L2 L2H Evl Lay ErrX DL TE DO ShM FlC E24
abbrev s_word : Stmt := top 61
abbrev N_word : List Str := ["_law_e", "_law_sorts", "_law_words", "_law_own", "_law_base", "_law_at"]
abbrev P_word : List Str := ["_law_e"]
theorem sc_word : FnScope N_word P_word (defScope s_word) := ⟨rfl, rfl, rfl, by decide +kernel, rfl, by decide +kernel, by decide +kernel⟩
def lfs : List Nat := [9, 7, 6, 10, 2, 8, 0, 12, 18, 19, 15]
def lf (i : Nat) : Bool := lfs.contains i
def wordN (i : Nat) : Str := (["shape", "lattice", "cell", "cells", "number", "cut", "text", "shapes", "whole", "filled", "great"] : List Str).getD (lfs.idxOf i) ""
section
variable {P : Program} {w : World} {K : PySem.W.Frag} {mg : Str → Option Value} {base : Heap} {C fI : Nat → Addr} {on : Nat → Bool}
theorem q_word (Df : DefIn K mg "_law_word" s_word P_word) (T : Txt mg) (U : Errs P K mg C fI on) (lo : ∀ i, lf i = true → i < 24 ∧ on i = true) (o0 : on 0 = true) (o2 : on 2 = true) (o6 : on 6 = true) (o7 : on 7 = true) (o8 : on 8 = true) (o9 : on 9 = true) (o10 : on 10 = true) (o12 : on 12 = true) (o15 : on 15 = true) (o18 : on 18 = true) (o19 : on 19 = true) (o21 : on 21 = true) (o22 : on 22 = true) (o23 : on 23 = true) : DefQ P w K mg base "_law_word" 2 P_word (OutL.spQ K C lf fun i y => y = .s (wordN i)) := by
  have SC := sc_word
  refine OutL.defqD Df sc_word rfl (by decide) fun f cdv A outer s H p i d hr i24 li hz hf => ?_
  have oi := (lo i li).2
  refine ⟨_, _, fun E => (pss_cons (ps_set (i := 1) SC.nd rfl (Or.inl rfl) (pe_lst (pa_cons (pe_callB (call_isQ (pq := p) (List.mem_singleton.mpr rfl)) (by rfl) T.z_isinstance (by decide +kernel) (pa_cons (pv 0) (pa_cons (pe_gref (U.t 9 (by decide) o9).glob) pa_nil))) (pa_cons (pe_callB (call_isQ (pq := p) (List.mem_singleton.mpr rfl)) (by rfl) T.z_isinstance (by decide +kernel) (pa_cons (pv 0) (pa_cons (pe_gref (U.t 7 (by decide) o7).glob) pa_nil))) (pa_cons (pe_callB (call_isQ (pq := p) (List.mem_singleton.mpr rfl)) (by rfl) T.z_isinstance (by decide +kernel) (pa_cons (pv 0) (pa_cons (pe_gref (U.t 6 (by decide) o6).glob) pa_nil))) pa_nil))))) (pss_cons (ps_set (i := 1) SC.nd rfl (Or.inl rfl) (pe_op op_cat (pv 1) (pe_lst (pa_cons (pe_callB (call_isQ (pq := p) (List.mem_singleton.mpr rfl)) (by rfl) T.z_isinstance (by decide +kernel) (pa_cons (pv 0) (pa_cons (pe_gref (U.t 10 (by decide) o10).glob) pa_nil))) (pa_cons (pe_callB (call_isQ (pq := p) (List.mem_singleton.mpr rfl)) (by rfl) T.z_isinstance (by decide +kernel) (pa_cons (pv 0) (pa_cons (pe_gref (U.t 2 (by decide) o2).glob) pa_nil))) (pa_cons (pe_callB (call_isQ (pq := p) (List.mem_singleton.mpr rfl)) (by rfl) T.z_isinstance (by decide +kernel) (pa_cons (pv 0) (pa_cons (pe_gref (U.t 8 (by decide) o8).glob) pa_nil))) pa_nil)))))) (pss_cons (ps_set (i := 1) SC.nd rfl (Or.inl rfl) (pe_op op_cat (pv 1) (pe_lst (pa_cons (pe_callB (call_isQ (pq := p) (List.mem_singleton.mpr rfl)) (by rfl) T.z_isinstance (by decide +kernel) (pa_cons (pv 0) (pa_cons (pe_gref (U.t 0 (by decide) o0).glob) pa_nil))) (pa_cons (pe_callB (call_isQ (pq := p) (List.mem_singleton.mpr rfl)) (by rfl) T.z_isinstance (by decide +kernel) (pa_cons (pv 0) (pa_cons (pe_gref (U.t 12 (by decide) o12).glob) pa_nil))) (pa_cons (pe_callB (call_isQ (pq := p) (List.mem_singleton.mpr rfl)) (by rfl) T.z_isinstance (by decide +kernel) (pa_cons (pv 0) (pa_cons (pe_gref (U.t 18 (by decide) o18).glob) pa_nil))) pa_nil)))))) (pss_cons (ps_set (i := 1) SC.nd rfl (Or.inl rfl) (pe_op op_cat (pv 1) (pe_lst (pa_cons (pe_callB (call_isQ (pq := p) (List.mem_singleton.mpr rfl)) (by rfl) T.z_isinstance (by decide +kernel) (pa_cons (pv 0) (pa_cons (pe_gref (U.t 19 (by decide) o19).glob) pa_nil))) (pa_cons (pe_callB (call_isQ (pq := p) (List.mem_singleton.mpr rfl)) (by rfl) T.z_isinstance (by decide +kernel) (pa_cons (pv 0) (pa_cons (pe_gref (U.t 15 (by decide) o15).glob) pa_nil))) pa_nil))))) (pss_cons (ps_set (i := 2) SC.nd rfl (Or.inl rfl) (pe_lst (pa_cons pe_str (pa_cons pe_str (pa_cons pe_str (pa_cons pe_str (pa_cons pe_str (pa_cons pe_str (pa_cons pe_str (pa_cons pe_str (pa_cons pe_str (pa_cons pe_str (pa_cons pe_str pa_nil))))))))))))) (pss_cons (ps_set (i := 3) SC.nd rfl (Or.inl rfl) (pe_lst (pa_cons (pe_callB (call_isQ (pq := p) (List.mem_singleton.mpr rfl)) (by rfl) T.z_isinstance (by decide +kernel) (pa_cons (pv 0) (pa_cons (pe_gref (U.t 21 (by decide) o21).glob) pa_nil))) (pa_cons (pe_callB (call_isQ (pq := p) (List.mem_singleton.mpr rfl)) (by rfl) T.z_isinstance (by decide +kernel) (pa_cons (pv 0) (pa_cons (pe_gref (U.t 22 (by decide) o22).glob) pa_nil))) (pa_cons (pe_callB (call_isQ (pq := p) (List.mem_singleton.mpr rfl)) (by rfl) T.z_isinstance (by decide +kernel) (pa_cons (pv 0) (pa_cons (pe_gref (U.t 23 (by decide) o23).glob) pa_nil))) pa_nil))))) (pss_cons (ps_set (i := 4) SC.nd rfl (Or.inl rfl) (pe_lst (pa_cons (pe_callB (call_isQ (pq := p) (List.mem_singleton.mpr rfl)) (by rfl) T.z_isinstance (by decide +kernel) (pa_cons (pv 0) (pa_cons (pe_gty T.z_ValueError rfl) pa_nil))) (pa_cons (pe_callB (call_isQ (pq := p) (List.mem_singleton.mpr rfl)) (by rfl) T.z_isinstance (by decide +kernel) (pa_cons (pv 0) (pa_cons (pe_gty T.z_LookupError rfl) pa_nil))) (pa_cons (pe_callB (call_isQ (pq := p) (List.mem_singleton.mpr rfl)) (by rfl) T.z_isinstance (by decide +kernel) (pa_cons (pv 0) (pa_cons (pe_gty T.z_ArithmeticError rfl) pa_nil))) pa_nil))))) (pss_cons (ps_set (i := 5) SC.nd rfl (Or.inl rfl) (pe_ifExp (pt_cmpR op_eq (pe_bm PySem.F.plainAttrs_list PySem.F.slot_list_count PySem.F.type_list_count (OutL.mt_cntB K) (pv 1) (pa_cons pe_bl pa_nil)) pe_int (nomark _)) (pe_bm PySem.F.plainAttrs_list PySem.F.slot_list_index PySem.F.type_list_index mt_index (pv 1) (pa_cons pe_bl pa_nil)) pe_int)) (pss_one (ps_ret (pe_ifExp (PW.pt (pw_and (pt_cmpR op_lt (pv 5) pe_int (nomark _)) (pw_and (pt_cmpR (kx_eqD K (OutL.unitsH hr)) (pv 3) (pv 4) (nomark _)) (pw_and1 (pt_cmpR (kx_eqD K (OutL.unitsH hr)) (pv 3) (pe_lst (pa_cons (pe_cmpR op_lt (pv 5) pe_int (nomark _)) (pa_cons pe_bl (pa_cons (pe_cmpR op_gt (pv 5) pe_int (nomark _)) pa_nil)))) (nomark _)))))) (pe_ix (kx_ixL K) (pv 2) (pv 5) (fun _ _ => rfl)) pe_str))))))))))), (s_seq (s_asg (e_f (f_lst (a_cons (OutL.e_isQ hz hf (U.a i i24 oi) (.own _) (U.kit i 9 i24 oi (by decide) (fun _ => o9)) e_var) (a_cons (OutL.e_isQ hz hf (U.a i i24 oi) (.own _) (U.kit i 7 i24 oi (by decide) (fun _ => o7)) e_var) (a_cons (OutL.e_isQ hz hf (U.a i i24 oi) (.own _) (U.kit i 6 i24 oi (by decide) (fun _ => o6)) e_var) a_nil))))) g_name) (s_seq (s_asg (e_f (f_cat e_var (e_f (f_lst (a_cons (OutL.e_isQ hz hf (U.a i i24 oi) (.own _) (U.kit i 10 i24 oi (by decide) (fun _ => o10)) e_var) (a_cons (OutL.e_isQ hz hf (U.a i i24 oi) (.own _) (U.kit i 2 i24 oi (by decide) (fun _ => o2)) e_var) (a_cons (OutL.e_isQ hz hf (U.a i i24 oi) (.own _) (U.kit i 8 i24 oi (by decide) (fun _ => o8)) e_var) a_nil))))))) g_name) (s_seq (s_asg (e_f (f_cat e_var (e_f (f_lst (a_cons (OutL.e_isQ hz hf (U.a i i24 oi) (.own _) (U.kit i 0 i24 oi (by decide) (fun _ => o0)) e_var) (a_cons (OutL.e_isQ hz hf (U.a i i24 oi) (.own _) (U.kit i 12 i24 oi (by decide) (fun _ => o12)) e_var) (a_cons (OutL.e_isQ hz hf (U.a i i24 oi) (.own _) (U.kit i 18 i24 oi (by decide) (fun _ => o18)) e_var) a_nil))))))) g_name) (s_seq (s_asg (e_f (f_cat e_var (e_f (f_lst (a_cons (OutL.e_isQ hz hf (U.a i i24 oi) (.own _) (U.kit i 19 i24 oi (by decide) (fun _ => o19)) e_var) (a_cons (OutL.e_isQ hz hf (U.a i i24 oi) (.own _) (U.kit i 15 i24 oi (by decide) (fun _ => o15)) e_var) a_nil)))))) g_name) (s_seq (s_asg (e_f (f_lst (a_cons e_str (a_cons e_str (a_cons e_str (a_cons e_str (a_cons e_str (a_cons e_str (a_cons e_str (a_cons e_str (a_cons e_str (a_cons e_str (a_cons e_str a_nil))))))))))))) g_name) (s_seq (s_asg (e_f (f_lst (a_cons (OutL.e_isQ hz hf (U.a i i24 oi) (.own _) (U.kit i 21 i24 oi (by decide) (fun _ => o21)) e_var) (a_cons (OutL.e_isQ hz hf (U.a i i24 oi) (.own _) (U.kit i 22 i24 oi (by decide) (fun _ => o22)) e_var) (a_cons (OutL.e_isQ hz hf (U.a i i24 oi) (.own _) (U.kit i 23 i24 oi (by decide) (fun _ => o23)) e_var) a_nil))))) g_name) (s_seq (s_asg (e_f (f_lst (a_cons (OutL.e_isQ hz hf (U.a i i24 oi) (.ty _) (U.kit i 24 i24 oi (by decide) (fun z => absurd z (by decide))) e_var) (a_cons (OutL.e_isQ hz hf (U.a i i24 oi) (.ty _) (U.kit i 25 i24 oi (by decide) (fun z => absurd z (by decide))) e_var) (a_cons (OutL.e_isQ hz hf (U.a i i24 oi) (.ty _) (U.kit i 26 i24 oi (by decide) (fun z => absurd z (by decide))) e_var) a_nil))))) g_name) (s_seq (s_asg (e_if (t_test (e_op o_eqS (OutL.e_cntB e_var e_bl) e_int)) (OutL.e_idxB e_var e_bl) e_int) g_name) (s_ret (e_if (t_and (t_test (e_op o_lt e_var e_int)) (t_and (t_test (e_op o_eqD e_var e_var)) (t_test (e_op o_eqD e_var (e_f (f_lst (a_cons (e_op o_lt e_var e_int) (a_cons e_bl (a_cons (e_op o_gt e_var e_int) a_nil))))))))) (e_op o_ixL e_var e_var) e_str)))))))))), fun ns xs => ?_⟩
  have hi : i = 9 ∨ i = 7 ∨ i = 6 ∨ i = 10 ∨ i = 2 ∨ i = 8 ∨ i = 0 ∨ i = 12 ∨ i = 18 ∨ i = 19 ∨ i = 15 := by
    have := List.contains_iff_mem.mp li
    simpa [lfs] using this
  rw [show startG N_word.length [D.r p.1 d ns xs] = [.d (.r p.1 d ns xs), .u, .u, .u, .u, .u] from rfl]
  rcases hi with rfl | rfl | rfl | rfl | rfl | rfl | rfl | rfl | rfl | rfl | rfl
  · refine ⟨⟨_, _, rfl⟩, ⟨_, _, rfl⟩, ⟨_, _, rfl⟩, by show 3 ≤ 100000; decide, ?_⟩
    dsimp only [wgName, put]
    refine ⟨⟨_, _, rfl⟩, ⟨_, _, rfl⟩, ⟨_, _, rfl⟩, by show 3 ≤ 100000; decide, by show 3 + 3 ≤ 100000; decide, ?_⟩
    dsimp only [wgName, put]
    refine ⟨⟨_, _, rfl⟩, ⟨_, _, rfl⟩, ⟨_, _, rfl⟩, by show 3 ≤ 100000; decide, by show 6 + 3 ≤ 100000; decide, ?_⟩
    dsimp only [wgName, put]
    refine ⟨⟨_, _, rfl⟩, ⟨_, _, rfl⟩, by show 2 ≤ 100000; decide, by show 9 + 2 ≤ 100000; decide, ?_⟩
    dsimp only [wgName, put]
    refine ⟨by show 11 ≤ 100000; decide, ?_⟩
    dsimp only [wgName, put]
    refine ⟨⟨_, _, rfl⟩, ⟨_, _, rfl⟩, ⟨_, _, rfl⟩, by show 3 ≤ 100000; decide, ?_⟩
    dsimp only [wgName, put]
    refine ⟨⟨_, _, rfl⟩, ⟨_, _, rfl⟩, ⟨_, _, rfl⟩, by show 3 ≤ 100000; decide, ?_⟩
    dsimp only [wgName, put]
    refine ⟨lfs.map (tab 9), rfl, true, rfl, ⟨fun _ => ⟨lfs.idxOf 9, 10 - lfs.idxOf 9, rfl, rfl, ?_⟩, fun z => absurd z (by decide)⟩⟩
    dsimp only [wgName, put]
    refine ⟨fun _ => ?_, fun z => absurd z (by decide)⟩
    refine ⟨.list ([21, 22, 23].map fun j => .bool (tab 9 j)), .list ([24, 25, 26].map fun j => .bool (tab 9 j)), by simp only [DL.py, DL.pyA]; rfl, by simp only [DL.py, DL.pyA]; rfl, rfl, rfl, ⟨fun _ => ?_, fun z => absurd z (by decide +kernel)⟩⟩
    refine ⟨by show 3 ≤ 100000; decide, ?_⟩
    refine ⟨.list ([21, 22, 23].map fun j => .bool (tab 9 j)), .list [.bool (decide (((lfs.idxOf 9 : Nat) : Int) < 8)), .bool false, .bool (decide ((7 : Int) < ((lfs.idxOf 9 : Nat) : Int)))], by simp only [DL.py, DL.pyA]; rfl, by simp only [DL.py, DL.pyA]; rfl, rfl, rfl, ⟨fun _ => ?_, fun z => absurd z (by decide +kernel)⟩⟩
    exact ⟨_, L2.atI_nat (j := lfs.idxOf 9) rfl, rfl⟩
  · refine ⟨⟨_, _, rfl⟩, ⟨_, _, rfl⟩, ⟨_, _, rfl⟩, by show 3 ≤ 100000; decide, ?_⟩
    dsimp only [wgName, put]
    refine ⟨⟨_, _, rfl⟩, ⟨_, _, rfl⟩, ⟨_, _, rfl⟩, by show 3 ≤ 100000; decide, by show 3 + 3 ≤ 100000; decide, ?_⟩
    dsimp only [wgName, put]
    refine ⟨⟨_, _, rfl⟩, ⟨_, _, rfl⟩, ⟨_, _, rfl⟩, by show 3 ≤ 100000; decide, by show 6 + 3 ≤ 100000; decide, ?_⟩
    dsimp only [wgName, put]
    refine ⟨⟨_, _, rfl⟩, ⟨_, _, rfl⟩, by show 2 ≤ 100000; decide, by show 9 + 2 ≤ 100000; decide, ?_⟩
    dsimp only [wgName, put]
    refine ⟨by show 11 ≤ 100000; decide, ?_⟩
    dsimp only [wgName, put]
    refine ⟨⟨_, _, rfl⟩, ⟨_, _, rfl⟩, ⟨_, _, rfl⟩, by show 3 ≤ 100000; decide, ?_⟩
    dsimp only [wgName, put]
    refine ⟨⟨_, _, rfl⟩, ⟨_, _, rfl⟩, ⟨_, _, rfl⟩, by show 3 ≤ 100000; decide, ?_⟩
    dsimp only [wgName, put]
    refine ⟨lfs.map (tab 7), rfl, true, rfl, ⟨fun _ => ⟨lfs.idxOf 7, 10 - lfs.idxOf 7, rfl, rfl, ?_⟩, fun z => absurd z (by decide)⟩⟩
    dsimp only [wgName, put]
    refine ⟨fun _ => ?_, fun z => absurd z (by decide)⟩
    refine ⟨.list ([21, 22, 23].map fun j => .bool (tab 7 j)), .list ([24, 25, 26].map fun j => .bool (tab 7 j)), by simp only [DL.py, DL.pyA]; rfl, by simp only [DL.py, DL.pyA]; rfl, rfl, rfl, ⟨fun _ => ?_, fun z => absurd z (by decide +kernel)⟩⟩
    refine ⟨by show 3 ≤ 100000; decide, ?_⟩
    refine ⟨.list ([21, 22, 23].map fun j => .bool (tab 7 j)), .list [.bool (decide (((lfs.idxOf 7 : Nat) : Int) < 8)), .bool false, .bool (decide ((7 : Int) < ((lfs.idxOf 7 : Nat) : Int)))], by simp only [DL.py, DL.pyA]; rfl, by simp only [DL.py, DL.pyA]; rfl, rfl, rfl, ⟨fun _ => ?_, fun z => absurd z (by decide +kernel)⟩⟩
    exact ⟨_, L2.atI_nat (j := lfs.idxOf 7) rfl, rfl⟩
  · refine ⟨⟨_, _, rfl⟩, ⟨_, _, rfl⟩, ⟨_, _, rfl⟩, by show 3 ≤ 100000; decide, ?_⟩
    dsimp only [wgName, put]
    refine ⟨⟨_, _, rfl⟩, ⟨_, _, rfl⟩, ⟨_, _, rfl⟩, by show 3 ≤ 100000; decide, by show 3 + 3 ≤ 100000; decide, ?_⟩
    dsimp only [wgName, put]
    refine ⟨⟨_, _, rfl⟩, ⟨_, _, rfl⟩, ⟨_, _, rfl⟩, by show 3 ≤ 100000; decide, by show 6 + 3 ≤ 100000; decide, ?_⟩
    dsimp only [wgName, put]
    refine ⟨⟨_, _, rfl⟩, ⟨_, _, rfl⟩, by show 2 ≤ 100000; decide, by show 9 + 2 ≤ 100000; decide, ?_⟩
    dsimp only [wgName, put]
    refine ⟨by show 11 ≤ 100000; decide, ?_⟩
    dsimp only [wgName, put]
    refine ⟨⟨_, _, rfl⟩, ⟨_, _, rfl⟩, ⟨_, _, rfl⟩, by show 3 ≤ 100000; decide, ?_⟩
    dsimp only [wgName, put]
    refine ⟨⟨_, _, rfl⟩, ⟨_, _, rfl⟩, ⟨_, _, rfl⟩, by show 3 ≤ 100000; decide, ?_⟩
    dsimp only [wgName, put]
    refine ⟨lfs.map (tab 6), rfl, true, rfl, ⟨fun _ => ⟨lfs.idxOf 6, 10 - lfs.idxOf 6, rfl, rfl, ?_⟩, fun z => absurd z (by decide)⟩⟩
    dsimp only [wgName, put]
    refine ⟨fun _ => ?_, fun z => absurd z (by decide)⟩
    refine ⟨.list ([21, 22, 23].map fun j => .bool (tab 6 j)), .list ([24, 25, 26].map fun j => .bool (tab 6 j)), by simp only [DL.py, DL.pyA]; rfl, by simp only [DL.py, DL.pyA]; rfl, rfl, rfl, ⟨fun _ => ?_, fun z => absurd z (by decide +kernel)⟩⟩
    refine ⟨by show 3 ≤ 100000; decide, ?_⟩
    refine ⟨.list ([21, 22, 23].map fun j => .bool (tab 6 j)), .list [.bool (decide (((lfs.idxOf 6 : Nat) : Int) < 8)), .bool false, .bool (decide ((7 : Int) < ((lfs.idxOf 6 : Nat) : Int)))], by simp only [DL.py, DL.pyA]; rfl, by simp only [DL.py, DL.pyA]; rfl, rfl, rfl, ⟨fun _ => ?_, fun z => absurd z (by decide +kernel)⟩⟩
    exact ⟨_, L2.atI_nat (j := lfs.idxOf 6) rfl, rfl⟩
  · refine ⟨⟨_, _, rfl⟩, ⟨_, _, rfl⟩, ⟨_, _, rfl⟩, by show 3 ≤ 100000; decide, ?_⟩
    dsimp only [wgName, put]
    refine ⟨⟨_, _, rfl⟩, ⟨_, _, rfl⟩, ⟨_, _, rfl⟩, by show 3 ≤ 100000; decide, by show 3 + 3 ≤ 100000; decide, ?_⟩
    dsimp only [wgName, put]
    refine ⟨⟨_, _, rfl⟩, ⟨_, _, rfl⟩, ⟨_, _, rfl⟩, by show 3 ≤ 100000; decide, by show 6 + 3 ≤ 100000; decide, ?_⟩
    dsimp only [wgName, put]
    refine ⟨⟨_, _, rfl⟩, ⟨_, _, rfl⟩, by show 2 ≤ 100000; decide, by show 9 + 2 ≤ 100000; decide, ?_⟩
    dsimp only [wgName, put]
    refine ⟨by show 11 ≤ 100000; decide, ?_⟩
    dsimp only [wgName, put]
    refine ⟨⟨_, _, rfl⟩, ⟨_, _, rfl⟩, ⟨_, _, rfl⟩, by show 3 ≤ 100000; decide, ?_⟩
    dsimp only [wgName, put]
    refine ⟨⟨_, _, rfl⟩, ⟨_, _, rfl⟩, ⟨_, _, rfl⟩, by show 3 ≤ 100000; decide, ?_⟩
    dsimp only [wgName, put]
    refine ⟨lfs.map (tab 10), rfl, true, rfl, ⟨fun _ => ⟨lfs.idxOf 10, 10 - lfs.idxOf 10, rfl, rfl, ?_⟩, fun z => absurd z (by decide)⟩⟩
    dsimp only [wgName, put]
    refine ⟨fun _ => ?_, fun z => absurd z (by decide)⟩
    refine ⟨.list ([21, 22, 23].map fun j => .bool (tab 10 j)), .list ([24, 25, 26].map fun j => .bool (tab 10 j)), by simp only [DL.py, DL.pyA]; rfl, by simp only [DL.py, DL.pyA]; rfl, rfl, rfl, ⟨fun _ => ?_, fun z => absurd z (by decide +kernel)⟩⟩
    refine ⟨by show 3 ≤ 100000; decide, ?_⟩
    refine ⟨.list ([21, 22, 23].map fun j => .bool (tab 10 j)), .list [.bool (decide (((lfs.idxOf 10 : Nat) : Int) < 8)), .bool false, .bool (decide ((7 : Int) < ((lfs.idxOf 10 : Nat) : Int)))], by simp only [DL.py, DL.pyA]; rfl, by simp only [DL.py, DL.pyA]; rfl, rfl, rfl, ⟨fun _ => ?_, fun z => absurd z (by decide +kernel)⟩⟩
    exact ⟨_, L2.atI_nat (j := lfs.idxOf 10) rfl, rfl⟩
  · refine ⟨⟨_, _, rfl⟩, ⟨_, _, rfl⟩, ⟨_, _, rfl⟩, by show 3 ≤ 100000; decide, ?_⟩
    dsimp only [wgName, put]
    refine ⟨⟨_, _, rfl⟩, ⟨_, _, rfl⟩, ⟨_, _, rfl⟩, by show 3 ≤ 100000; decide, by show 3 + 3 ≤ 100000; decide, ?_⟩
    dsimp only [wgName, put]
    refine ⟨⟨_, _, rfl⟩, ⟨_, _, rfl⟩, ⟨_, _, rfl⟩, by show 3 ≤ 100000; decide, by show 6 + 3 ≤ 100000; decide, ?_⟩
    dsimp only [wgName, put]
    refine ⟨⟨_, _, rfl⟩, ⟨_, _, rfl⟩, by show 2 ≤ 100000; decide, by show 9 + 2 ≤ 100000; decide, ?_⟩
    dsimp only [wgName, put]
    refine ⟨by show 11 ≤ 100000; decide, ?_⟩
    dsimp only [wgName, put]
    refine ⟨⟨_, _, rfl⟩, ⟨_, _, rfl⟩, ⟨_, _, rfl⟩, by show 3 ≤ 100000; decide, ?_⟩
    dsimp only [wgName, put]
    refine ⟨⟨_, _, rfl⟩, ⟨_, _, rfl⟩, ⟨_, _, rfl⟩, by show 3 ≤ 100000; decide, ?_⟩
    dsimp only [wgName, put]
    refine ⟨lfs.map (tab 2), rfl, true, rfl, ⟨fun _ => ⟨lfs.idxOf 2, 10 - lfs.idxOf 2, rfl, rfl, ?_⟩, fun z => absurd z (by decide)⟩⟩
    dsimp only [wgName, put]
    refine ⟨fun _ => ?_, fun z => absurd z (by decide)⟩
    refine ⟨.list ([21, 22, 23].map fun j => .bool (tab 2 j)), .list ([24, 25, 26].map fun j => .bool (tab 2 j)), by simp only [DL.py, DL.pyA]; rfl, by simp only [DL.py, DL.pyA]; rfl, rfl, rfl, ⟨fun _ => ?_, fun z => absurd z (by decide +kernel)⟩⟩
    refine ⟨by show 3 ≤ 100000; decide, ?_⟩
    refine ⟨.list ([21, 22, 23].map fun j => .bool (tab 2 j)), .list [.bool (decide (((lfs.idxOf 2 : Nat) : Int) < 8)), .bool false, .bool (decide ((7 : Int) < ((lfs.idxOf 2 : Nat) : Int)))], by simp only [DL.py, DL.pyA]; rfl, by simp only [DL.py, DL.pyA]; rfl, rfl, rfl, ⟨fun _ => ?_, fun z => absurd z (by decide +kernel)⟩⟩
    exact ⟨_, L2.atI_nat (j := lfs.idxOf 2) rfl, rfl⟩
  · refine ⟨⟨_, _, rfl⟩, ⟨_, _, rfl⟩, ⟨_, _, rfl⟩, by show 3 ≤ 100000; decide, ?_⟩
    dsimp only [wgName, put]
    refine ⟨⟨_, _, rfl⟩, ⟨_, _, rfl⟩, ⟨_, _, rfl⟩, by show 3 ≤ 100000; decide, by show 3 + 3 ≤ 100000; decide, ?_⟩
    dsimp only [wgName, put]
    refine ⟨⟨_, _, rfl⟩, ⟨_, _, rfl⟩, ⟨_, _, rfl⟩, by show 3 ≤ 100000; decide, by show 6 + 3 ≤ 100000; decide, ?_⟩
    dsimp only [wgName, put]
    refine ⟨⟨_, _, rfl⟩, ⟨_, _, rfl⟩, by show 2 ≤ 100000; decide, by show 9 + 2 ≤ 100000; decide, ?_⟩
    dsimp only [wgName, put]
    refine ⟨by show 11 ≤ 100000; decide, ?_⟩
    dsimp only [wgName, put]
    refine ⟨⟨_, _, rfl⟩, ⟨_, _, rfl⟩, ⟨_, _, rfl⟩, by show 3 ≤ 100000; decide, ?_⟩
    dsimp only [wgName, put]
    refine ⟨⟨_, _, rfl⟩, ⟨_, _, rfl⟩, ⟨_, _, rfl⟩, by show 3 ≤ 100000; decide, ?_⟩
    dsimp only [wgName, put]
    refine ⟨lfs.map (tab 8), rfl, true, rfl, ⟨fun _ => ⟨lfs.idxOf 8, 10 - lfs.idxOf 8, rfl, rfl, ?_⟩, fun z => absurd z (by decide)⟩⟩
    dsimp only [wgName, put]
    refine ⟨fun _ => ?_, fun z => absurd z (by decide)⟩
    refine ⟨.list ([21, 22, 23].map fun j => .bool (tab 8 j)), .list ([24, 25, 26].map fun j => .bool (tab 8 j)), by simp only [DL.py, DL.pyA]; rfl, by simp only [DL.py, DL.pyA]; rfl, rfl, rfl, ⟨fun _ => ?_, fun z => absurd z (by decide +kernel)⟩⟩
    refine ⟨by show 3 ≤ 100000; decide, ?_⟩
    refine ⟨.list ([21, 22, 23].map fun j => .bool (tab 8 j)), .list [.bool (decide (((lfs.idxOf 8 : Nat) : Int) < 8)), .bool false, .bool (decide ((7 : Int) < ((lfs.idxOf 8 : Nat) : Int)))], by simp only [DL.py, DL.pyA]; rfl, by simp only [DL.py, DL.pyA]; rfl, rfl, rfl, ⟨fun _ => ?_, fun z => absurd z (by decide +kernel)⟩⟩
    exact ⟨_, L2.atI_nat (j := lfs.idxOf 8) rfl, rfl⟩
  · refine ⟨⟨_, _, rfl⟩, ⟨_, _, rfl⟩, ⟨_, _, rfl⟩, by show 3 ≤ 100000; decide, ?_⟩
    dsimp only [wgName, put]
    refine ⟨⟨_, _, rfl⟩, ⟨_, _, rfl⟩, ⟨_, _, rfl⟩, by show 3 ≤ 100000; decide, by show 3 + 3 ≤ 100000; decide, ?_⟩
    dsimp only [wgName, put]
    refine ⟨⟨_, _, rfl⟩, ⟨_, _, rfl⟩, ⟨_, _, rfl⟩, by show 3 ≤ 100000; decide, by show 6 + 3 ≤ 100000; decide, ?_⟩
    dsimp only [wgName, put]
    refine ⟨⟨_, _, rfl⟩, ⟨_, _, rfl⟩, by show 2 ≤ 100000; decide, by show 9 + 2 ≤ 100000; decide, ?_⟩
    dsimp only [wgName, put]
    refine ⟨by show 11 ≤ 100000; decide, ?_⟩
    dsimp only [wgName, put]
    refine ⟨⟨_, _, rfl⟩, ⟨_, _, rfl⟩, ⟨_, _, rfl⟩, by show 3 ≤ 100000; decide, ?_⟩
    dsimp only [wgName, put]
    refine ⟨⟨_, _, rfl⟩, ⟨_, _, rfl⟩, ⟨_, _, rfl⟩, by show 3 ≤ 100000; decide, ?_⟩
    dsimp only [wgName, put]
    refine ⟨lfs.map (tab 0), rfl, true, rfl, ⟨fun _ => ⟨lfs.idxOf 0, 10 - lfs.idxOf 0, rfl, rfl, ?_⟩, fun z => absurd z (by decide)⟩⟩
    dsimp only [wgName, put]
    refine ⟨fun _ => ?_, fun z => absurd z (by decide)⟩
    refine ⟨.list ([21, 22, 23].map fun j => .bool (tab 0 j)), .list ([24, 25, 26].map fun j => .bool (tab 0 j)), by simp only [DL.py, DL.pyA]; rfl, by simp only [DL.py, DL.pyA]; rfl, rfl, rfl, ⟨fun _ => ?_, fun z => absurd z (by decide +kernel)⟩⟩
    refine ⟨by show 3 ≤ 100000; decide, ?_⟩
    refine ⟨.list ([21, 22, 23].map fun j => .bool (tab 0 j)), .list [.bool (decide (((lfs.idxOf 0 : Nat) : Int) < 8)), .bool false, .bool (decide ((7 : Int) < ((lfs.idxOf 0 : Nat) : Int)))], by simp only [DL.py, DL.pyA]; rfl, by simp only [DL.py, DL.pyA]; rfl, rfl, rfl, ⟨fun _ => ?_, fun z => absurd z (by decide +kernel)⟩⟩
    exact ⟨_, L2.atI_nat (j := lfs.idxOf 0) rfl, rfl⟩
  · refine ⟨⟨_, _, rfl⟩, ⟨_, _, rfl⟩, ⟨_, _, rfl⟩, by show 3 ≤ 100000; decide, ?_⟩
    dsimp only [wgName, put]
    refine ⟨⟨_, _, rfl⟩, ⟨_, _, rfl⟩, ⟨_, _, rfl⟩, by show 3 ≤ 100000; decide, by show 3 + 3 ≤ 100000; decide, ?_⟩
    dsimp only [wgName, put]
    refine ⟨⟨_, _, rfl⟩, ⟨_, _, rfl⟩, ⟨_, _, rfl⟩, by show 3 ≤ 100000; decide, by show 6 + 3 ≤ 100000; decide, ?_⟩
    dsimp only [wgName, put]
    refine ⟨⟨_, _, rfl⟩, ⟨_, _, rfl⟩, by show 2 ≤ 100000; decide, by show 9 + 2 ≤ 100000; decide, ?_⟩
    dsimp only [wgName, put]
    refine ⟨by show 11 ≤ 100000; decide, ?_⟩
    dsimp only [wgName, put]
    refine ⟨⟨_, _, rfl⟩, ⟨_, _, rfl⟩, ⟨_, _, rfl⟩, by show 3 ≤ 100000; decide, ?_⟩
    dsimp only [wgName, put]
    refine ⟨⟨_, _, rfl⟩, ⟨_, _, rfl⟩, ⟨_, _, rfl⟩, by show 3 ≤ 100000; decide, ?_⟩
    dsimp only [wgName, put]
    refine ⟨lfs.map (tab 12), rfl, true, rfl, ⟨fun _ => ⟨lfs.idxOf 12, 10 - lfs.idxOf 12, rfl, rfl, ?_⟩, fun z => absurd z (by decide)⟩⟩
    dsimp only [wgName, put]
    refine ⟨fun _ => ?_, fun z => absurd z (by decide)⟩
    refine ⟨.list ([21, 22, 23].map fun j => .bool (tab 12 j)), .list ([24, 25, 26].map fun j => .bool (tab 12 j)), by simp only [DL.py, DL.pyA]; rfl, by simp only [DL.py, DL.pyA]; rfl, rfl, rfl, ⟨fun _ => ?_, fun z => absurd z (by decide +kernel)⟩⟩
    refine ⟨by show 3 ≤ 100000; decide, ?_⟩
    refine ⟨.list ([21, 22, 23].map fun j => .bool (tab 12 j)), .list [.bool (decide (((lfs.idxOf 12 : Nat) : Int) < 8)), .bool false, .bool (decide ((7 : Int) < ((lfs.idxOf 12 : Nat) : Int)))], by simp only [DL.py, DL.pyA]; rfl, by simp only [DL.py, DL.pyA]; rfl, rfl, rfl, ⟨fun _ => ?_, fun z => absurd z (by decide +kernel)⟩⟩
    exact ⟨_, L2.atI_nat (j := lfs.idxOf 12) rfl, rfl⟩
  · refine ⟨⟨_, _, rfl⟩, ⟨_, _, rfl⟩, ⟨_, _, rfl⟩, by show 3 ≤ 100000; decide, ?_⟩
    dsimp only [wgName, put]
    refine ⟨⟨_, _, rfl⟩, ⟨_, _, rfl⟩, ⟨_, _, rfl⟩, by show 3 ≤ 100000; decide, by show 3 + 3 ≤ 100000; decide, ?_⟩
    dsimp only [wgName, put]
    refine ⟨⟨_, _, rfl⟩, ⟨_, _, rfl⟩, ⟨_, _, rfl⟩, by show 3 ≤ 100000; decide, by show 6 + 3 ≤ 100000; decide, ?_⟩
    dsimp only [wgName, put]
    refine ⟨⟨_, _, rfl⟩, ⟨_, _, rfl⟩, by show 2 ≤ 100000; decide, by show 9 + 2 ≤ 100000; decide, ?_⟩
    dsimp only [wgName, put]
    refine ⟨by show 11 ≤ 100000; decide, ?_⟩
    dsimp only [wgName, put]
    refine ⟨⟨_, _, rfl⟩, ⟨_, _, rfl⟩, ⟨_, _, rfl⟩, by show 3 ≤ 100000; decide, ?_⟩
    dsimp only [wgName, put]
    refine ⟨⟨_, _, rfl⟩, ⟨_, _, rfl⟩, ⟨_, _, rfl⟩, by show 3 ≤ 100000; decide, ?_⟩
    dsimp only [wgName, put]
    refine ⟨lfs.map (tab 18), rfl, true, rfl, ⟨fun _ => ⟨lfs.idxOf 18, 10 - lfs.idxOf 18, rfl, rfl, ?_⟩, fun z => absurd z (by decide)⟩⟩
    dsimp only [wgName, put]
    refine ⟨fun _ => ?_, fun z => absurd z (by decide)⟩
    refine ⟨.list ([21, 22, 23].map fun j => .bool (tab 18 j)), .list ([24, 25, 26].map fun j => .bool (tab 18 j)), by simp only [DL.py, DL.pyA]; rfl, by simp only [DL.py, DL.pyA]; rfl, rfl, rfl, ⟨fun _ => ?_, fun z => absurd z (by decide +kernel)⟩⟩
    refine ⟨by show 3 ≤ 100000; decide, ?_⟩
    refine ⟨.list ([21, 22, 23].map fun j => .bool (tab 18 j)), .list [.bool (decide (((lfs.idxOf 18 : Nat) : Int) < 8)), .bool false, .bool (decide ((7 : Int) < ((lfs.idxOf 18 : Nat) : Int)))], by simp only [DL.py, DL.pyA]; rfl, by simp only [DL.py, DL.pyA]; rfl, rfl, rfl, ⟨fun _ => ?_, fun z => absurd z (by decide +kernel)⟩⟩
    exact ⟨_, L2.atI_nat (j := lfs.idxOf 18) rfl, rfl⟩
  · refine ⟨⟨_, _, rfl⟩, ⟨_, _, rfl⟩, ⟨_, _, rfl⟩, by show 3 ≤ 100000; decide, ?_⟩
    dsimp only [wgName, put]
    refine ⟨⟨_, _, rfl⟩, ⟨_, _, rfl⟩, ⟨_, _, rfl⟩, by show 3 ≤ 100000; decide, by show 3 + 3 ≤ 100000; decide, ?_⟩
    dsimp only [wgName, put]
    refine ⟨⟨_, _, rfl⟩, ⟨_, _, rfl⟩, ⟨_, _, rfl⟩, by show 3 ≤ 100000; decide, by show 6 + 3 ≤ 100000; decide, ?_⟩
    dsimp only [wgName, put]
    refine ⟨⟨_, _, rfl⟩, ⟨_, _, rfl⟩, by show 2 ≤ 100000; decide, by show 9 + 2 ≤ 100000; decide, ?_⟩
    dsimp only [wgName, put]
    refine ⟨by show 11 ≤ 100000; decide, ?_⟩
    dsimp only [wgName, put]
    refine ⟨⟨_, _, rfl⟩, ⟨_, _, rfl⟩, ⟨_, _, rfl⟩, by show 3 ≤ 100000; decide, ?_⟩
    dsimp only [wgName, put]
    refine ⟨⟨_, _, rfl⟩, ⟨_, _, rfl⟩, ⟨_, _, rfl⟩, by show 3 ≤ 100000; decide, ?_⟩
    dsimp only [wgName, put]
    refine ⟨lfs.map (tab 19), rfl, true, rfl, ⟨fun _ => ⟨lfs.idxOf 19, 10 - lfs.idxOf 19, rfl, rfl, ?_⟩, fun z => absurd z (by decide)⟩⟩
    dsimp only [wgName, put]
    refine ⟨fun _ => ?_, fun z => absurd z (by decide)⟩
    refine ⟨.list ([21, 22, 23].map fun j => .bool (tab 19 j)), .list ([24, 25, 26].map fun j => .bool (tab 19 j)), by simp only [DL.py, DL.pyA]; rfl, by simp only [DL.py, DL.pyA]; rfl, rfl, rfl, ⟨fun _ => ?_, fun z => absurd z (by decide +kernel)⟩⟩
    refine ⟨by show 3 ≤ 100000; decide, ?_⟩
    refine ⟨.list ([21, 22, 23].map fun j => .bool (tab 19 j)), .list [.bool (decide (((lfs.idxOf 19 : Nat) : Int) < 8)), .bool false, .bool (decide ((7 : Int) < ((lfs.idxOf 19 : Nat) : Int)))], by simp only [DL.py, DL.pyA]; rfl, by simp only [DL.py, DL.pyA]; rfl, rfl, rfl, ⟨fun _ => ?_, fun z => absurd z (by decide +kernel)⟩⟩
    exact ⟨_, L2.atI_nat (j := lfs.idxOf 19) rfl, rfl⟩
  · refine ⟨⟨_, _, rfl⟩, ⟨_, _, rfl⟩, ⟨_, _, rfl⟩, by show 3 ≤ 100000; decide, ?_⟩
    dsimp only [wgName, put]
    refine ⟨⟨_, _, rfl⟩, ⟨_, _, rfl⟩, ⟨_, _, rfl⟩, by show 3 ≤ 100000; decide, by show 3 + 3 ≤ 100000; decide, ?_⟩
    dsimp only [wgName, put]
    refine ⟨⟨_, _, rfl⟩, ⟨_, _, rfl⟩, ⟨_, _, rfl⟩, by show 3 ≤ 100000; decide, by show 6 + 3 ≤ 100000; decide, ?_⟩
    dsimp only [wgName, put]
    refine ⟨⟨_, _, rfl⟩, ⟨_, _, rfl⟩, by show 2 ≤ 100000; decide, by show 9 + 2 ≤ 100000; decide, ?_⟩
    dsimp only [wgName, put]
    refine ⟨by show 11 ≤ 100000; decide, ?_⟩
    dsimp only [wgName, put]
    refine ⟨⟨_, _, rfl⟩, ⟨_, _, rfl⟩, ⟨_, _, rfl⟩, by show 3 ≤ 100000; decide, ?_⟩
    dsimp only [wgName, put]
    refine ⟨⟨_, _, rfl⟩, ⟨_, _, rfl⟩, ⟨_, _, rfl⟩, by show 3 ≤ 100000; decide, ?_⟩
    dsimp only [wgName, put]
    refine ⟨lfs.map (tab 15), rfl, true, rfl, ⟨fun _ => ⟨lfs.idxOf 15, 10 - lfs.idxOf 15, rfl, rfl, ?_⟩, fun z => absurd z (by decide)⟩⟩
    dsimp only [wgName, put]
    refine ⟨fun _ => ?_, fun z => absurd z (by decide)⟩
    refine ⟨.list ([21, 22, 23].map fun j => .bool (tab 15 j)), .list ([24, 25, 26].map fun j => .bool (tab 15 j)), by simp only [DL.py, DL.pyA]; rfl, by simp only [DL.py, DL.pyA]; rfl, rfl, rfl, ⟨fun _ => ?_, fun z => absurd z (by decide +kernel)⟩⟩
    refine ⟨by show 3 ≤ 100000; decide, ?_⟩
    refine ⟨.list ([21, 22, 23].map fun j => .bool (tab 15 j)), .list [.bool (decide (((lfs.idxOf 15 : Nat) : Int) < 8)), .bool false, .bool (decide ((7 : Int) < ((lfs.idxOf 15 : Nat) : Int)))], by simp only [DL.py, DL.pyA]; rfl, by simp only [DL.py, DL.pyA]; rfl, rfl, rfl, ⟨fun _ => ?_, fun z => absurd z (by decide +kernel)⟩⟩
    exact ⟨_, L2.atI_nat (j := lfs.idxOf 15) rfl, rfl⟩
end
end K40
namespace K40
variable [DL.TabsT]
open PySem PySem.Spec PyProof.Rows L2 L2H Evl Lay ErrX DL TE DO ShM FlC E24
abbrev s_outcome : Stmt := top 62
abbrev N_outcome : List Str := ["_law_act", "_law_back", "_law_e", "_law_word_here"]
abbrev P_outcome : List Str := ["_law_act"]
theorem sc_outcome : FnScope N_outcome P_outcome (defScope s_outcome) := ⟨rfl, rfl, rfl, by decide +kernel, rfl, by decide +kernel, by decide +kernel⟩
/-- errors whose field is given -/
def gvs : List Nat := [9, 7, 6, 2, 8, 0, 15]
def gv (i : Nat) : Bool := gvs.contains i
theorem gv_lf {i : Nat} (h : gv i = true) : lf i = true ∧ i < 18 ∧ fldN i = "given" := by
  have : i = 9 ∨ i = 7 ∨ i = 6 ∨ i = 2 ∨ i = 8 ∨ i = 0 ∨ i = 15 := by
    have := List.contains_iff_mem.mp h
    simpa [gvs] using this
  rcases this with rfl | rfl | rfl | rfl | rfl | rfl | rfl <;> exact ⟨rfl, by decide, rfl⟩
/-- no one of these -/
def Out (w : Str) (xs : List Str) : Prop := SeqAt.shaped (.str w) = true ∧ SeqAt.shaped (.list (xs.map PyData.str)) = true ∧ ((xs.map PyData.str).any fun z => PyData.eqv z (.str w)) = false
theorem out_in {w : Str} {xs : List Str} {Q : D → Prop} (n : Out w xs) (q : Q (.b false)) : wInD (.s w) (.l (xs.map D.s)) Q := by
  have h1 : ∀ xs : List Str, DL.pyA (xs.map D.s) = some (xs.map PyData.str) := fun xs => by
    induction xs with
    | nil => simp only [List.map_nil, DL.pyA]
    | cons x xs ih => simp only [List.map_cons, DL.pyA, DL.py, ih]; rfl
  refine ⟨.str w, _, xs.map PyData.str, rfl, rfl, h1 xs, n.1, n.2.1, ?_⟩
  rw [n.2.2]
  exact q
theorem gv_word {i : Nat} (h : gv i = true) : Out (wordN i) ["another error", "whole", "filled"] ∧ Out (wordN i) ["cells", "shapes"] ∧ (tab i 21 || tab i 22 || tab i 23) = true := by
  have : i = 9 ∨ i = 7 ∨ i = 6 ∨ i = 2 ∨ i = 8 ∨ i = 0 ∨ i = 15 := by
    have := List.contains_iff_mem.mp h
    simpa [gvs] using this
  rcases this with rfl | rfl | rfl | rfl | rfl | rfl | rfl <;> exact ⟨⟨by decide +kernel, by decide +kernel, by decide +kernel⟩, ⟨by decide +kernel, by decide +kernel, by decide +kernel⟩, rfl⟩
/-- what is told of an error: its word, what it was given -/
def Se (C : Nat → Addr) : Addr → Option (Str × D) → (D → Prop) → Prop := fun a x R0 => ∃ i y, gv i = true ∧ a = C i ∧ x = some (("given" : Str), y) ∧ DL.wRepr [y] fun z => [D.s (wordN i), z].length ≤ 100000 ∧ R0 (.l [.s (wordN i), z])
def Sb : D → (D → Prop) → Prop := fun _ _ => False
def hbody (s : Stmt) : List Stmt := match defBody s with
  | .Try _ [.ExceptHandler _ _ b _] _ _ _ :: _ => b
  | _ => []
section
variable {C fI : Nat → Addr} {on : Nat → Bool}
def tWordQ (K : PySem.W.Frag) (C : Nat → Addr) (a : Addr) (d : Option Addr) (i : Nat) : TE := fun σ H Q => ∀ oe, Zc (.ref (C i)) d oe → (∃ vs, oe.data = .fields vs) → tCallD (OutL.spQ K C lf (fun i y => y = .s (wordN i)) (a, oe)) (tCons (tVar 2) tNil) σ H Q
theorem suite_ok {X : Cx} (T : Txt X.mg) (U : Errs X.prog X.K X.mg C fI on) (lo : ∀ i, lf i = true → i < 24 ∧ on i = true) (D_word : DefQ X.prog X.w X.K X.mg X.base "_law_word" 2 P_word (OutL.spQ X.K C lf fun i y => y = .s (wordN i)))
    {g a : Addr} {cdg : Value} {s : Shared} {H : Hp} (hgY : X.A.guards = some []) (hr0 : Room 20 (LamG.inG X C8.CX0 C8.E0 N_outcome "_law_outcome" (defScope s_outcome) g cdg s H).A) (i : Nat) (gi : gv i = true) (d : Option Addr) :
    ∃ t2 a2, (∀ (oe : Obj) (pn : List (Addr × Obj)), Zc (.ref (C i)) d oe → (∃ vs, oe.data = .fields vs) → PSs ((LamG.inG X C8.CX0 C8.E0 N_outcome "_law_outcome" (defScope s_outcome) g cdg s H).nox.suite a ((a, oe) :: pn)) (hbody s_outcome) (tSeq (tAsg (tWordQ X.K C a d i) (gName 3)) t2)) ∧ SOk X.K t2 a2 ∧
      ∀ y P dd, d = some dd → DL.wRepr [y] (fun z => [D.s (wordN i), z].length ≤ 100000 ∧ P.rt (.l [.s (wordN i), z])) → a2 P [.u, .u, .d (.r a d ["given"] [y]), .d (.s (wordN i))] := by
  have SC := sc_outcome
  obtain ⟨li, i18, fg⟩ := gv_lf gi
  obtain ⟨w1, w2, w3⟩ := gv_word gi
  obtain ⟨i24, oi⟩ := lo i li
  obtain ⟨K, hK⟩ : ∃ K, X.K = K := ⟨_, rfl⟩
  refine ⟨_, _, fun oe pn hz hf => pss_cons (ps_set (i := 3) SC.nd rfl (Or.inl rfl) (OutL.pe_imp (pe_callQ D_word (k := 2) ⟨(hr0.mono (by decide : 2 ≤ 20)).dp, (hr0.mono (by decide : 2 ≤ 20)).un⟩ List.mem_cons_self (pa_cons (pv 2) pa_nil)) fun σ H Q z => z oe hz hf)) (pss_cons (ps_if (pt_cmpR (kx_inD X.K hr0.u65) (pv 3) (pe_lst (pa_cons pe_str (pa_cons pe_str (pa_cons pe_str pa_nil)))) (by with_unfolding_all rfl)) (pss_one (ps_ret (pe_lst (pa_cons (pv 3) (pa_cons pe_str pa_nil))))) pss_nil) (pss_one (ps_ret (pe_lst (pa_cons (pv 3) (pa_cons (pe_ifExp (pt_cmpR (kx_inD X.K hr0.u65) (pv 3) (pe_lst (pa_cons pe_str (pa_cons pe_str pa_nil))) (by with_unfolding_all rfl)) (pe_callB (kx_repr X.K hgY hr0.units) (by rfl) T.z_repr (by decide +kernel) (pa_cons OutL.pe_false pa_nil)) (pe_callB (kx_repr X.K hgY hr0.units) (by rfl) T.z_repr (by decide +kernel) (pa_cons (pe_xf (U.xf i i24 oi) (fg ▸ U.noF i i18 oi) hz hf (pv 2)) pa_nil))) pa_nil)))))), (s_seq (s_if (t_test (e_op o_inD e_var (e_f (f_lst (a_cons e_str (a_cons e_str (a_cons e_str a_nil))))))) (s_ret (e_f (f_lst (a_cons e_var (a_cons e_str a_nil))))) s_next) (s_ret (e_f (f_lst (a_cons e_var (a_cons (e_if (t_test (e_op o_inD e_var (e_f (f_lst (a_cons e_str (a_cons e_str a_nil)))))) (e_cb c_repr (a_cons OutL.e_false a_nil)) (e_cb c_repr (a_cons (OutL.e_xf e_var) a_nil))) a_nil)))))), fun y P dd hd hq => ?_⟩
  subst hd
  refine ⟨by show 3 ≤ 100000; decide, out_in (xs := ["another error", "whole", "filled"]) w1 ⟨(fun z => nomatch z), fun _ => ?_⟩⟩
  refine ⟨by show 2 ≤ 100000; decide, out_in (xs := ["cells", "shapes"]) w2 ⟨(fun z => nomatch z), fun _ => ?_⟩⟩
  exact ⟨dd, y, rfl, rfl, hq⟩
theorem gv_outcome {X : Cx} {q : Str} (T : Txt X.mg) (U : Errs X.prog X.K X.mg C fI on) (lo : ∀ i, lf i = true → i < 24 ∧ on i = true) (o21 : on 21 = true) (o22 : on 22 = true) (o23 : on 23 = true)
    (D_word : DefQ X.prog X.w X.K X.mg X.base "_law_word" 2 P_word (OutL.spQ X.K C lf fun i y => y = .s (wordN i))) (hg : X.A.guards = some []) :
    LamG.Gives X N_outcome "_law_outcome" (defScope s_outcome) (defBody s_outcome) "_law_act" q (OutL.TTo X.K Sb (Se C)) := by
  intro g cdg f cl s H Q tl hr0 act hc z
  have SC := sc_outcome
  -- the suites, one for each class
  have su : ∀ (a : Addr) (d : Option Addr) (i : Nat), ∃ t2 : TS, gv i = true → ∃ a2, (∀ (oe : Obj) (pn : List (Addr × Obj)), Zc (.ref (C i)) d oe → (∃ vs, oe.data = .fields vs) → PSs ((LamG.inG X C8.CX0 C8.E0 N_outcome "_law_outcome" (defScope s_outcome) g cdg s H).nox.suite a ((a, oe) :: pn)) (hbody s_outcome) (tSeq (tAsg (tWordQ X.K C a d i) (gName 3)) t2)) ∧ SOk X.K t2 a2 ∧
      ∀ y P dd, d = some dd → DL.wRepr [y] (fun z => [D.s (wordN i), z].length ≤ 100000 ∧ P.rt (.l [.s (wordN i), z])) → a2 P [.u, .u, .d (.r a d ["given"] [y]), .d (.s (wordN i))] := fun a d i => by
    by_cases gi : gv i = true
    · obtain ⟨t2, a2, h⟩ := suite_ok T U lo D_word (cdg := cdg) (s := s) (H := H) (g := g) (a := a) hg hr0 i gi d
      exact ⟨t2, fun _ => ⟨a2, h⟩⟩
    · exact ⟨fun _ _ _ => False, fun h => absurd h gi⟩
  refine ⟨_, pss_cons (Try3.ps_try_as3 (i := 2) rfl rfl SC.nd rfl rfl ⟨rfl, by decide, .inl (U.t 21 (by decide) o21).glob⟩ ⟨rfl, by decide, .inl (U.t 22 (by decide) o22).glob⟩ ⟨rfl, by decide, .inl (U.t 23 (by decide) o23).glob⟩
    (fun W pn xe tk => pss_one (ps_set (i := 1) SC.nd rfl (Or.inl rfl) (OutL.pe_weak fun E => act W pn xe E _ _ tk)))
    (fun a oe cls d pn hz hf => OutL.pss_ex (p := fun i => gv i = true ∧ cls = .ref (C i)) (ts := fun i => tSeq (tAsg (tWordQ X.K C a d i) (gName 3)) (Classical.choose (su a d i))) fun i hi => by
      obtain ⟨a2, h, _⟩ := Classical.choose_spec (su a d i) hi.1
      exact h oe pn (hi.2 ▸ hz) hf)) (pss_one OutL.ps_false), ?_⟩
  obtain ⟨F, R0, ek, tz, fin⟩ := z
  refine ⟨OutL.EO X.K (Se C) R0 F H, _, ⟨rfl, hc, fun cls d J1 eo => ?_, tz⟩, fun v H1 q => ?_⟩
  · rcases eo with ⟨Ca, fld, x, v, dd, F1, rfl, rfl, se, e1, f0, fr, hd, rv⟩ | ⟨Ca, F1, _, _, se, _⟩
    · obtain ⟨i, y, gi, rfl, exy, wr⟩ := se
      injection exy with exy
      injection exy with ef ey
      subst ef ey
      obtain ⟨li, i18, fg⟩ := gv_lf gi
      obtain ⟨i24, oi⟩ := lo i li
      obtain ⟨_, _, w3⟩ := gv_word gi
      refine ⟨OutL.exm3 (U.exm i 21 i24 oi (by decide) fun _ => o21) (U.exm i 22 i24 oi (by decide) fun _ => o22) (U.exm i 23 i24 oi (by decide) fun _ => o23) w3, fun a na => ⟨i, ⟨gi, rfl⟩, ?_⟩⟩
      obtain ⟨a2, _, sok, hw⟩ := Classical.choose_spec (su a (some dd) i) gi
      have e2 : Ext F H (upd F1 dd (.xd [(("given" : Str), v)])) J1 := ⟨e1.ff.trans (Ex.new f0), e1.hh, ex_told e1.fh hd, e1.tb.told, fun p o q n => by
        by_cases z : p = dd
        · rw [z]
          exact fr
        · rw [upd_ne z] at q
          exact e1.nw p o q n⟩
      have rR : R X.K (upd F1 dd (.xd [(("given" : Str), v)])) (.ref a) (.r a (some dd) ["given"] [x]) := .r (vs := [v]) upd_same rfl (.cons (rv.mono (Ex.new f0)) .nil)
      have k2 : Kn (upd F1 dd (.xd [(("given" : Str), v)])) J1 := e2.tb ek.2
      generalize upd F1 dd (.xd [(("given" : Str), v)]) = F2 at e2 rR k2
      have rp : Rep X.K F2 J1 F2 J1 [some (.ref f), none, some (.ref a), none] [.u, .u, .d (.r a (some dd) ["given"] [x]), .u] := by
        refine ⟨Ex.refl F2, ExT.refl J1, e2.fh, k2, (fun p o h n => by rw [n] at h; cases h), rfl, fun k y h => ?_, fun k o h => ?_, fun k m o o' p _ h => ?_⟩
        · match k, h with
          | 0, h => cases h
          | 1, h => cases h
          | 2, h =>
            cases h
            exact ⟨_, rfl, rR⟩
          | 3, h => cases h
          | k + 4, h => cases (show Sl.u = _ from h)
        · match k, h with
          | 0, h => cases h
          | 1, h => cases h
          | 2, h => cases h
          | 3, h => cases h
          | k + 4, h => cases (show Sl.u = _ from h)
        · match k, h with
          | 0, h => cases h
          | 1, h => cases h
          | 2, h => cases h
          | 3, h => cases h
          | k + 4, h => cases (show Sl.u = _ from h)
      intro oe hz hf
      refine ⟨.ref a, rfl, ?_⟩
      refine ⟨i, some dd, F2, _, _, rfl, i24, li, hz, hf, ⟨e2.fh, k2⟩, rR, fun v2 y2 F3 H3 ey2 e3 rv2 => ?_⟩
      subst ey2
      exact sok { nx := fun _ => False, rt := R0 } _ (hw x { nx := fun _ => False, rt := R0 } dd rfl wr) F2 J1 F3 H3 _ ((rp.ext e3).set (k := 3) rv2) _ ⟨fun _ _ _ _ z _ => z.elim, fun d v F' H' z x rv => fin v d F' H' z (e2.trans x) rv, fun _ _ _ _ z _ => z.elim, fun _ _ _ _ z _ => z.elim⟩
    · obtain ⟨i, y, gi, _, exy, _⟩ := se
      cases exy
  · obtain ⟨d, F', sb, _⟩ := q
    exact sb.elim
end
end K40
namespace K40
variable [DL.TabsT]
open PySem PySem.Spec PyProof.Rows L2 Evl Lay ErrX DL TE DO ShM FlC
abbrev s_some_one : Stmt := top 51
abbrev N_some_one : List Str := ["_law_pool", "_law_menu"]
abbrev P_some_one : List Str := ["_law_pool", "_law_menu"]
theorem sc_some_one : FnScope N_some_one P_some_one (defScope s_some_one) := ⟨rfl, rfl, rfl, by decide +kernel, rfl, by decide +kernel, by decide +kernel⟩
abbrev s_beside : Stmt := top 52
abbrev N_beside : List Str := ["_law_spot", "_law_x", "_law_y"]
abbrev P_beside : List Str := ["_law_spot"]
theorem sc_beside : FnScope N_beside P_beside (defScope s_beside) := ⟨rfl, rfl, rfl, by decide +kernel, rfl, by decide +kernel, by decide +kernel⟩
abbrev s_remainder : Stmt := top 53
abbrev N_remainder : List Str := ["_law_grid_here", "_law_spot", "_law_lines"]
abbrev P_remainder : List Str := ["_law_grid_here", "_law_spot"]
theorem sc_remainder : FnScope N_remainder P_remainder (defScope s_remainder) := ⟨rfl, rfl, rfl, by decide +kernel, rfl, by decide +kernel, by decide +kernel⟩
abbrev s_grid : Stmt := top 54
abbrev N_grid : List Str := ["_law_pool", "_law_most_here", "_law_width"]
abbrev P_grid : List Str := ["_law_pool", "_law_most_here"]
theorem sc_grid : FnScope N_grid P_grid (defScope s_grid) := ⟨rfl, rfl, rfl, by decide +kernel, rfl, by decide +kernel, by decide +kernel⟩
abbrev s_fit : Stmt := top 55
abbrev N_fit : List Str := ["_law_pool", "_law_grid_here", "_law_found", "_law_known", "_law_turn", "_law_near", "_law_each", "_law_spot"]
abbrev P_fit : List Str := ["_law_pool", "_law_grid_here"]
theorem sc_fit : FnScope N_fit P_fit (defScope s_fit) := ⟨rfl, rfl, rfl, by decide +kernel, rfl, by decide +kernel, by decide +kernel⟩
abbrev s_grown : Stmt := top 56
abbrev N_grown : List Str := ["_law_pool", "_law_size", "_law_found", "_law_turn", "_law_near", "_law_each", "_law_spot"]
abbrev P_grown : List Str := ["_law_pool", "_law_size"]
theorem sc_grown : FnScope N_grown P_grown (defScope s_grown) := ⟨rfl, rfl, rfl, by decide +kernel, rfl, by decide +kernel, by decide +kernel⟩
abbrev s_small_tiles : Stmt := top 57
abbrev N_small_tiles : List Str := ["_law_pool", "_law_most_here", "_law_way", "_law_found", "_law_turn"]
abbrev P_small_tiles : List Str := ["_law_pool", "_law_most_here"]
theorem sc_small_tiles : FnScope N_small_tiles P_small_tiles (defScope s_small_tiles) := ⟨rfl, rfl, rfl, by decide +kernel, rfl, by decide +kernel, by decide +kernel⟩
abbrev s_half_turn : Stmt := top 58
abbrev N_half_turn : List Str := ["_law_tiles", "_law_about", "_law_x", "_law_y"]
abbrev P_half_turn : List Str := ["_law_tiles", "_law_about"]
theorem sc_half_turn : FnScope N_half_turn P_half_turn (defScope s_half_turn) := ⟨rfl, rfl, rfl, by decide +kernel, rfl, by decide +kernel, by decide +kernel⟩
abbrev s_is_of : Stmt := top 59
abbrev N_is_of : List Str := ["_law_grid_here", "_law_push"]
abbrev P_is_of : List Str := ["_law_grid_here", "_law_push"]
theorem sc_is_of : FnScope N_is_of P_is_of (defScope s_is_of) := ⟨rfl, rfl, rfl, by decide +kernel, rfl, by decide +kernel, by decide +kernel⟩
abbrev s_far_spot : Stmt := top 60
abbrev N_far_spot : List Str := ["_law_pool", "_law_reach"]
abbrev P_far_spot : List Str := ["_law_pool"]
theorem sc_far_spot : FnScope N_far_spot P_far_spot (defScope s_far_spot) := ⟨rfl, rfl, rfl, by decide +kernel, rfl, by decide +kernel, by decide +kernel⟩
abbrev s_value : Stmt := top 63
abbrev N_value : List Str := ["_law_pool", "_law_menu"]
abbrev P_value : List Str := ["_law_pool"]
theorem sc_value : FnScope N_value P_value (defScope s_value) := ⟨rfl, rfl, rfl, by decide +kernel, rfl, by decide +kernel, by decide +kernel⟩
abbrev s_turned_floors : Stmt := top 45
abbrev N_turned_floors : List Str := ["shape", "found", "wide", "slip", "high", "c", "d", "floor"]
abbrev P_turned_floors : List Str := ["shape"]
theorem sc_turned_floors : FnScope N_turned_floors P_turned_floors (defScope s_turned_floors) := ⟨rfl, rfl, rfl, by decide +kernel, rfl, by decide +kernel, by decide +kernel⟩
abbrev s_floor_copy : Stmt := top 47
abbrev N_floor_copy : List Str := ["shape", "floor", "cell", "index", "shove"]
abbrev P_floor_copy : List Str := ["shape", "floor", "cell"]
theorem sc_floor_copy : FnScope N_floor_copy P_floor_copy (defScope s_floor_copy) := ⟨rfl, rfl, rfl, by decide +kernel, rfl, by decide +kernel, by decide +kernel⟩
abbrev s_m_len : Stmt := clsFn (top 31) 8
abbrev N_m_len : List Str := ["self"]
abbrev P_m_len : List Str := ["self"]
theorem sc_m_len : FnScope N_m_len P_m_len (defScope s_m_len) := ⟨rfl, rfl, rfl, by decide +kernel, rfl, by decide +kernel, by decide +kernel⟩
theorem kb_floor_copy_210 {K : PySem.W.Frag} : KwB K "floor_copy" s_floor_copy ["cell", "floor", "shape"] P_floor_copy g210 := fun f fd F s ws hl => by
  obtain ⟨oc, od, kV, doc, pm, an, cdv, ct, osl, rfl, lk, code⟩ := F.ex
  match ws, hl with
  | [u0, u1, u2], _ => exact .of_eq rfl
abbrev s_init : Stmt := clsFn (top 31) 0
abbrev N_init : List Str := ["self", "cells"]
theorem sc_init : FnScope N_init ["self", "cells"] (defScope s_init) := ⟨rfl, rfl, rfl, by decide +kernel, rfl, by decide +kernel, by decide +kernel⟩
/-- brought to the least column and line -/
def zeroed (L : List Pr) (L' : List Pr) : Prop := ∃ a b : Int, L'.Perm (L.map fun p => (p.1 + a, p.2 + b)) ∧ L'.Pairwise lexle ∧ (∀ p ∈ L', 0 ≤ p.1 ∧ 0 ≤ p.2) ∧ (∃ p ∈ L', p.1 = 0) ∧ ∃ p ∈ L', p.2 = 0
/-- what Shape(..) tells -/
def S_ini : List D → (List D → Prop) → Prop := fun ds Q => match ds with
  | [.t xs] => ∃ L : List Pr, xs = L.map pt ∧ L ≠ [] ∧ CellsOk L ∧ ∀ L', zeroed L L' → Q [.t (L'.map pt)]
  | _ => False
section
variable {P : Program} {w : World} {K : PySem.W.Frag} {mg : Str → Option Value} {base : Heap} {CS : Addr}
theorem d_init {f : Addr} {fd : FuncData} (hm : mg "Shape" = some (.ref CS)) (M : Mk K CS f) (F : Fun K "__init__" "Shape.__init__" s_init f fd) (bd : Binds K fd ["self", "cells"] []) (c : Cls K CS) (n : NoAttr K CS "_cells") (T : Txt mg) (D_check_cells : DOk P w K mg base "check_cells" s_check_cells 5 P_check_cells S_check_cells) (D_from_zero : DOk P w K mg base "from_zero" s_from_zero 1 P_from_zero S_from_zero) :
    DO.MkOk P w K mg base "Shape" CS 6 ["self", "cells"] (spMk K CS ["_cells"] S_ini) := by
  have SC := sc_init
  refine mkok (k := 5) hm M F bd sc_init (fun vs H Q E h => ?_) (fun cdv A outer s H vs Q E hr hg h => ?_)
  · obtain ⟨x, dx, ws, F0, ds, Pd, rfl, _, _, ra, s, _⟩ := h
    unfold S_ini at s
    split at s
    · have := ra.len
      simp at this
      simp [this]
    · exact s.elim
  · obtain ⟨x, dx, ws, F0, ds, Pd, rfl, hx, e, ra, z, fin⟩ := h
    refine ⟨_, pss_cons (ps_expr (pe_callD D_check_cells.d (hr.mono (by decide)) hg (pa_cons (pv 1) pa_nil))) (pss_one (ps_fld (pv 0) (pe_callD D_from_zero.d (hr.mono (by decide)) hg (pa_cons (pv 1) pa_nil)) rfl)), ?_⟩
    unfold S_ini at z
    split at z
    · obtain ⟨L, rfl, ne, ok, z⟩ := z
      have l0 : 0 < L.length := List.length_pos_iff.mpr ne
      refine init2 (N := N_init) (Pd := fun y => ∃ L', zeroed L L' ∧ y = .t (L'.map pt)) c n (e_call (S := S_check_cells) (a_cons (e_var (k := 1)) a_nil)) (e_call (S := S_from_zero) (a_cons (e_var (k := 1)) a_nil)) hx e ra (by show 2 ≤ 2; decide) ?_ (fun F' H' v y hy e1 rv => ?_)
      · refine ⟨L, rfl, ne, ok, L, .inl rfl, l0, by have := ok.2.2; omega, fun l t L' h1 h2 h3 h4 pm pw => ⟨L', ⟨-l, -t, pm, pw, fun p hp => ?_, ?_, ?_⟩, rfl⟩⟩
        · obtain ⟨q, hq, rfl⟩ := List.mem_map.mp (pm.mem_iff.mp hp)
          have := h2 q hq
          have := h4 q hq
          exact ⟨by show 0 ≤ q.1 + -l; omega, by show 0 ≤ q.2 + -t; omega⟩
        · obtain ⟨p, hp, e⟩ := h1
          exact ⟨_, pm.mem_iff.mpr (List.mem_map_of_mem hp), by show p.1 + -l = 0; omega⟩
        · obtain ⟨p, hp, e⟩ := h3
          exact ⟨_, pm.mem_iff.mpr (List.mem_map_of_mem hp), by show p.2 + -t = 0; omega⟩
      · obtain ⟨L', hz, rfl⟩ := hy
        exact fin F' H' [v] [.t (L'.map pt)] (z L' hz) e1 (.cons rv .nil) rfl
    · exact z.elim
def S_some_one : List D → (D → Prop) → Prop := fun ds Q => match ds with
  | [.p 0, .l xs] => (0 < xs.length ∧ xs.length < 1000000) ∧ ∀ x ∈ xs, Q x
  | [.p 0, .t xs] => (0 < xs.length ∧ xs.length < 1000000) ∧ ∀ x ∈ xs, Q x
  | _ => False
theorem len_some_one : ∀ ds P, S_some_one ds P → ds.length = P_some_one.length := fun ds P h => by
  unfold S_some_one at h
  split at h <;> first | rfl | exact h.elim
theorem d_some_one (Df : DefIn K mg "_law_some_one" s_some_one P_some_one) (T : Txt mg) (D_sip : DefOk P w K mg base "_law_sip" 1 P_sip (spD K S_sip)) : DOk P w K mg base "_law_some_one" s_some_one 2 P_some_one S_some_one := by
  have SC := sc_some_one
  refine dok (k := 1) Df sc_some_one (len_some_one) (body := fun f cdv A outer s H E hr hg => ⟨_, _, (pss_one (ps_ret (pe_ix (DO.kx_ixA K) (pv 1) (pe_callD D_sip.d (hr.mono (by decide)) hg (pa_cons (pv 0) (pa_cons (pe_callB (kx_len K) (by rfl) T.z_len (by decide +kernel) (pa_cons (pv 1) pa_nil)) pa_nil))) (fun _ _ => rfl)))), (s_ret (e_op DO.o_ixA e_var (e_call (a_cons e_var (a_cons (e_cb c_len (a_cons e_var a_nil)) a_nil))))), ?_⟩)
  clear hr hg
  intro ds Q h
  unfold S_some_one at h
  split at h
  · rename_i xs
    obtain ⟨⟨h1, h2⟩, h⟩ := h
    refine ⟨⟨by omega, by omega⟩, fun r r1 r2 => ?_⟩
    obtain ⟨n, rfl⟩ := Int.eq_ofNat_of_zero_le r1
    have hn : n < xs.length := by omega
    exact ⟨xs, _, .inl rfl, rfl, xs[n], L2.atI_nat (List.getElem?_eq_getElem hn), h _ (List.getElem_mem hn)⟩
  · rename_i xs
    obtain ⟨⟨h1, h2⟩, h⟩ := h
    refine ⟨⟨by omega, by omega⟩, fun r r1 r2 => ?_⟩
    obtain ⟨n, rfl⟩ := Int.eq_ofNat_of_zero_le r1
    have hn : n < xs.length := by omega
    exact ⟨xs, _, .inr rfl, rfl, xs[n], L2.atI_nat (List.getElem?_eq_getElem hn), h _ (List.getElem_mem hn)⟩
  · exact h.elim
def S_beside : List D → (D → Prop) → Prop := fun ds Q => match ds with
  | [.t [.i x, .i y]] => Q (.l ((beside (x, y)).map pt))
  | _ => False
theorem len_beside : ∀ ds P, S_beside ds P → ds.length = P_beside.length := fun ds P h => by
  unfold S_beside at h
  split at h <;> first | rfl | exact h.elim
theorem d_beside (Df : DefIn K mg "_law_beside" s_beside P_beside) (T : Txt mg) : DOk P w K mg base "_law_beside" s_beside 1 P_beside S_beside := by
  have SC := sc_beside
  refine dok (k := 0) Df sc_beside (len_beside) (body := fun f cdv A outer s H E hr hg => ⟨_, _, (pss_cons (ps_asg (pv 0) (kx_pgTup (n := 2) K rfl (pgs_cons (pg_name (i := 1) SC.nd rfl (Or.inl rfl)) (pgs_cons (pg_name (i := 2) SC.nd rfl (Or.inl rfl)) pgs_nil)) (by rfl))) (pss_one (ps_ret (pe_lst (pa_cons (pe_tup (pa_cons (pe_op op_add (pv 1) pe_int) (pa_cons (pv 2) pa_nil))) (pa_cons (pe_tup (pa_cons (pv 1) (pa_cons (pe_op op_add (pv 2) pe_int) pa_nil))) (pa_cons (pe_tup (pa_cons (pe_op op_sub (pv 1) pe_int) (pa_cons (pv 2) pa_nil))) (pa_cons (pe_tup (pa_cons (pv 1) (pa_cons (pe_op op_sub (pv 2) pe_int) pa_nil))) pa_nil)))))))), (s_seq (s_asg e_var (g_tup (gs_cons g_name (gs_cons g_name gs_nil)))) (s_ret (e_f (f_lst (a_cons (e_tup (a_cons (e_op o_add e_var e_int) (a_cons e_var a_nil))) (a_cons (e_tup (a_cons e_var (a_cons (e_op o_add e_var e_int) a_nil))) (a_cons (e_tup (a_cons (e_op o_sub e_var e_int) (a_cons e_var a_nil))) (a_cons (e_tup (a_cons e_var (a_cons (e_op o_sub e_var e_int) a_nil))) a_nil)))))))), ?_⟩)
  clear hr hg
  intro ds Q h
  unfold S_beside at h
  split at h
  · rename_i x y
    refine ⟨rfl, ?_⟩
    dsimp only [wgName, put]
    exact ⟨by show 2 ≤ 100000; decide, by show 2 ≤ 100000; decide, by show 2 ≤ 100000; decide, by show 2 ≤ 100000; decide, by show 4 ≤ 100000; decide, h⟩
  · exact h.elim
def S_remainder : List D → (D → Prop) → Prop := fun ds Q => match ds with
  | [.t [.i w, .i s, .i h], .t [.i x, .i y]] => IsLat w s h ∧ Q (pt (rest w s h (x, y)))
  | _ => False
theorem len_remainder : ∀ ds P, S_remainder ds P → ds.length = P_remainder.length := fun ds P h => by
  unfold S_remainder at h
  split at h <;> first | rfl | exact h.elim
theorem d_remainder (Df : DefIn K mg "_law_remainder" s_remainder P_remainder) (T : Txt mg) : DOk P w K mg base "_law_remainder" s_remainder 1 P_remainder S_remainder := by
  have SC := sc_remainder
  refine dok (k := 0) Df sc_remainder (len_remainder) (body := fun f cdv A outer s H E hr hg => ⟨_, _, (pss_cons (ps_set (i := 2) SC.nd rfl (Or.inl rfl) (pe_op op_fdiv (pe_ix (kx_ixT K) (pv 1) pe_int (fun _ _ => rfl)) (pe_ix (kx_ixT K) (pv 0) pe_int (fun _ _ => rfl)))) (pss_one (ps_ret (pe_tup (pa_cons (pe_op op_mod (pe_callTy call_int1 (by rfl) T.z_int (by decide +kernel) (pa_cons (pe_op op_sub (pe_ix (kx_ixT K) (pv 1) pe_int (fun _ _ => rfl)) (pe_op op_mul (pv 2) (pe_ix (kx_ixT K) (pv 0) pe_int (fun _ _ => rfl)))) pa_nil)) (pe_ix (kx_ixT K) (pv 0) pe_int (fun _ _ => rfl))) (pa_cons (pe_op op_sub (pe_ix (kx_ixT K) (pv 1) pe_int (fun _ _ => rfl)) (pe_op op_mul (pv 2) (pe_ix (kx_ixT K) (pv 0) pe_int (fun _ _ => rfl)))) pa_nil)))))), (s_seq (s_asg (e_op o_fdiv (e_op o_ixT e_var e_int) (e_op o_ixT e_var e_int)) g_name) (s_ret (e_tup (a_cons (e_op o_mod (e_cb c_int1 (a_cons (e_op o_sub (e_op o_ixT e_var e_int) (e_op o_mul e_var (e_op o_ixT e_var e_int))) a_nil)) (e_op o_ixT e_var e_int)) (a_cons (e_op o_sub (e_op o_ixT e_var e_int) (e_op o_mul e_var (e_op o_ixT e_var e_int))) a_nil))))), ?_⟩)
  clear hr hg
  intro ds Q h
  unfold S_remainder at h
  split at h
  · rename_i w s h' x y
    obtain ⟨⟨h1, h2, h3, h4, h5, h6⟩, h⟩ := h
    refine ⟨_, rfl, _, rfl, ⟨h5, by omega⟩, ?_⟩
    dsimp only [wgName, put]
    refine ⟨_, rfl, _, rfl, .inr ⟨by omega, by omega⟩, _, rfl, h1, _, rfl, _, rfl, .inr ⟨by omega, by omega⟩, by show 2 ≤ 100000; decide, ?_⟩
    have e : y - y / h' * h' = y % h' := by
      rw [Int.emod_def, Int.mul_comm]
    show Q (.t [.i ((x - y / h' * s) % w), .i (y - y / h' * h')])
    rw [e]
    exact h
  · exact h.elim
def S_grid : List D → (D → Prop) → Prop := fun ds Q => match ds with
  | [.p 0, .i top] => (0 < top ∧ top ≤ 100) ∧ ∀ w s h : Int, IsLat w s h → w * h ≤ top → w ≤ top → h ≤ top → Q (.t [.i w, .i s, .i h])
  | _ => False
theorem len_grid : ∀ ds P, S_grid ds P → ds.length = P_grid.length := fun ds P h => by
  unfold S_grid at h
  split at h <;> first | rfl | exact h.elim
theorem d_grid (Df : DefIn K mg "_law_grid" s_grid P_grid) (T : Txt mg) (D_sip : DefOk P w K mg base "_law_sip" 1 P_sip (spD K S_sip)) : DOk P w K mg base "_law_grid" s_grid 2 P_grid S_grid := by
  have SC := sc_grid
  refine dok (k := 1) Df sc_grid (len_grid) (body := fun f cdv A outer s H E hr hg => ⟨_, _, (pss_cons (ps_set (i := 2) SC.nd rfl (Or.inl rfl) (pe_op op_add pe_int (pe_callD D_sip.d (hr.mono (by decide)) hg (pa_cons (pv 0) (pa_cons (pv 1) pa_nil))))) (pss_one (ps_ret (pe_tup (pa_cons (pv 2) (pa_cons (pe_callD D_sip.d (hr.mono (by decide)) hg (pa_cons (pv 0) (pa_cons (pv 2) pa_nil))) (pa_cons (pe_op op_add pe_int (pe_callD D_sip.d (hr.mono (by decide)) hg (pa_cons (pv 0) (pa_cons (pe_op op_fdiv (pv 1) (pv 2)) pa_nil)))) pa_nil))))))), (s_seq (s_asg (e_op o_add e_int (e_call (a_cons e_var (a_cons e_var a_nil)))) g_name) (s_ret (e_tup (a_cons e_var (a_cons (e_call (a_cons e_var (a_cons e_var a_nil))) (a_cons (e_op o_add e_int (e_call (a_cons e_var (a_cons (e_op o_fdiv e_var e_var) a_nil)))) a_nil)))))), ?_⟩)
  clear hr hg
  intro ds Q h
  unfold S_grid at h
  split at h
  · rename_i top
    obtain ⟨⟨h1, h2⟩, h⟩ := h
    refine ⟨⟨h1, by omega⟩, fun r r1 r2 => ?_⟩
    dsimp only [wgName, put, wI20]
    obtain ⟨v, ev, v1, v2⟩ : ∃ v, 1 + r = v ∧ 0 < v ∧ v ≤ top := ⟨_, rfl, by omega, by omega⟩
    rw [ev]
    have q1 : 1 ≤ top / v := (Int.le_ediv_iff_mul_le v1).mpr (by omega)
    have q2 : top / v ≤ top := Int.ediv_le_self _ (by omega)
    have q3 : top / v * v ≤ top := Int.ediv_mul_le _ (by omega)
    refine ⟨⟨v1, by omega⟩, fun b b1 b2 => ⟨⟨v1, by omega⟩, ⟨by omega, by omega⟩, fun c c1 c2 => ⟨by show 3 ≤ 100000; decide, ?_⟩⟩⟩
    refine h v b (1 + c) ⟨v1, by omega, b1, b2, by omega, by omega⟩ ?_ v2 (by omega)
    have := Int.mul_le_mul_of_nonneg_left (show 1 + c ≤ top / v by omega) (Int.le_of_lt v1)
    rw [Int.mul_comm v (top / v)] at this
    omega
  · exact h.elim
theorem inOwn_of {R : List Pr} {q : Pr} {Q : D → Prop} (h : Q (.b (decide (q ∉ R)))) : inOwn true (pt q) (R.map pt) Q :=
  ⟨tp q, R.map tp, rfl, pyA_pt R, shp1, DO.shp, by rw [any_tp, Bool.true_xor, show (!decide (q ∈ R)) = decide (q ∉ R) by simp]; exact h⟩
/-- the cells beside some, whose rests are none of R -/
def nearOf (w s h : Int) (R : List Pr) (M : List Pr) : List Pr := M.flatMap fun f => (beside f).filter fun n => decide (rest w s h n ∉ R)
theorem nearOf_mem {w s h : Int} {R M : List Pr} {n : Pr} : n ∈ nearOf w s h R M ↔ ∃ f ∈ M, n ∈ beside f ∧ rest w s h n ∉ R := by
  unfold nearOf
  simp only [List.mem_flatMap, List.mem_filter, decide_eq_true_iff]
theorem nearOf_len {w s h : Int} {R : List Pr} : ∀ M : List Pr, (nearOf w s h R M).length ≤ 4 * M.length
  | [] => by simp [nearOf]
  | f :: M => by
    have := nearOf_len (w := w) (s := s) (h := h) (R := R) M
    unfold nearOf at this ⊢
    rw [List.flatMap_cons, List.length_append, List.length_cons]
    refine Nat.le_trans (Nat.add_le_add (List.length_filter_le _ _) this) ?_
    show 4 + 4 * M.length ≤ _
    omega
theorem nearOf_snoc {w s h : Int} {R M : List Pr} {f : Pr} : nearOf w s h R (M ++ [f]) = nearOf w s h R M ++ (beside f).filter fun n => decide (rest w s h n ∉ R) := by
  unfold nearOf
  rw [List.flatMap_append]
  simp
/-- what grows -/
structure Grow (w s h : Int) (L : List Pr) (k : Nat) : Prop where
  len : L.length = k + 1
  nd : (L.map (rest w s h)).Nodup
  bd : ∀ p ∈ L, p.1.natAbs ≤ k ∧ p.2.natAbs ≤ k
theorem Grow.step {w s h : Int} {L : List Pr} {k : Nat} {f n : Pr} (G : Grow w s h L k) (hf : f ∈ L) (hn : n ∈ beside f) (no : rest w s h n ∉ L.map (rest w s h)) : Grow w s h (L ++ [n]) (k + 1) := by
  refine ⟨by rw [List.length_append, G.len]; rfl, ?_, fun p hp => ?_⟩
  · rw [List.map_append, List.nodup_append]
    exact ⟨G.nd, by simp, fun a ha b hb e => by
      have : b = rest w s h n := by simpa using hb
      subst this e
      exact no ha⟩
  · rcases List.mem_append.mp hp with hp | hp
    · have := G.bd p hp
      omega
    · have e : p = n := by simpa using hp
      subst e
      have b := G.bd f hf
      have := mem_beside.mp hn
      omega
def S_fit : List D → (D → Prop) → Prop := fun ds Q => match ds with
  | [.p 0, .t [.i w, .i s, .i h]] => (IsLat w s h ∧ w * h ≤ 100) ∧ ∀ L : List Pr, Fills w s h L → (∀ p ∈ L, (p.1.natAbs : Int) < w * h ∧ (p.2.natAbs : Int) < w * h) → Q (.l (L.map pt))
  | _ => False
theorem len_fit : ∀ ds P, S_fit ds P → ds.length = P_fit.length := fun ds P h => by
  unfold S_fit at h
  split at h <;> first | rfl | exact h.elim
theorem d_fit (Df : DefIn K mg "_law_fit" s_fit P_fit) (T : Txt mg) (D_beside : DOk P w K mg base "_law_beside" s_beside 1 P_beside S_beside) (D_remainder : DOk P w K mg base "_law_remainder" s_remainder 1 P_remainder S_remainder) (D_some_one : DOk P w K mg base "_law_some_one" s_some_one 2 P_some_one S_some_one) : DOk P w K mg base "_law_fit" s_fit 3 P_fit S_fit := by
  have SC := sc_fit
  refine dok (k := 2) Df sc_fit (len_fit) (body := fun f cdv A outer s H E hr hg => ⟨_, _, (pss_cons (ps_asg (pe_tup (pa_cons (pe_lst (pa_cons (pe_tup (pa_cons pe_int (pa_cons pe_int pa_nil))) pa_nil)) (pa_cons (pe_lst (pa_cons (pe_tup (pa_cons pe_int (pa_cons pe_int pa_nil))) pa_nil)) pa_nil))) (kx_pgTup K rfl (pgs_cons (pg_name (i := 2) SC.nd rfl (Or.inl rfl)) (pgs_cons (pg_name (i := 3) SC.nd rfl (Or.inr rfl)) pgs_nil)) (by rfl))) (pss_cons (ps_for PassesOwn.never rfl (pi_range1 (by rfl) T.z_range (pa_cons (pe_op op_sub (pe_op op_mul (pe_ix (kx_ixT K) (pv 1) pe_int (fun _ _ => rfl)) (pe_ix (kx_ixT K) (pv 1) pe_int (fun _ _ => rfl))) pe_int) pa_nil)) (pg_name (i := 4) SC.nd rfl (Or.inl rfl)) (pss_cons (ps_set (i := 5) SC.nd rfl (Or.inl rfl) (pe_lst pa_nil)) (pss_cons (ps_for PassesOwn.never rfl (kx_piList K (pv 2)) (pg_name (i := 6) SC.nd rfl (Or.inl rfl)) (pss_one (ps_set (i := 5) SC.nd rfl (Or.inl rfl) (pe_op op_cat (pv 5) (pe_lc (own := [("_law_spot", 7)]) (g := (gName 7)) (by rfl) SC.nd (kx_piList K (pe_callD D_beside.d (hr.mono (by decide)) hg (pa_cons (pv 6) pa_nil))) (blkOk_by (own := [("_law_spot", 7)]) (N := N_fit) (sc := defScope s_fit) (by decide +kernel)) (fun _ _ _ _ _ => (pg_name (i := 7) SC.nd rfl (Or.inl rfl))) (fun _ _ _ _ _ => (pts_one (pt_cmpR (kx_notInD K hr.u65) (pe_callD D_remainder.d (hr.mono (by decide)) hg (pa_cons (pv 1) (pa_cons (pv 7) pa_nil))) (pv 3) (by with_unfolding_all rfl)))) (fun _ _ _ _ _ => (pv 7))))))) (pss_cons (ps_expr (pe_bm PySem.F.plainAttrs_list PySem.F.slot_list_append PySem.F.type_list_append mt_append (pv 2) (pa_cons (pe_callD D_some_one.d (hr.mono (by decide)) hg (pa_cons (pv 0) (pa_cons (pv 5) pa_nil))) pa_nil))) (pss_one (ps_expr (pe_bm PySem.F.plainAttrs_list PySem.F.slot_list_append PySem.F.type_list_append mt_append (pv 3) (pa_cons (pe_callD D_remainder.d (hr.mono (by decide)) hg (pa_cons (pv 1) (pa_cons (pe_ix (kx_ixL K) (pv 2) (pe_un un_neg pe_int) (fun _ _ => rfl)) pa_nil))) pa_nil)))))))) (pss_one (ps_ret (pv 2))))), (s_seq (s_packO (i := 2) (j := 3) (f_lst (a_cons (e_tup (a_cons e_int (a_cons e_int a_nil))) a_nil)) (f_lst (a_cons (e_tup (a_cons e_int (a_cons e_int a_nil))) a_nil))) (s_seq (s_for (i_rng1 (a_cons (e_op o_sub (e_op o_mul (e_op o_ixT e_var e_int) (e_op o_ixT e_var e_int)) e_int) a_nil)) g_name (s_seq (s_asg (e_f (f_lst a_nil)) g_name) (s_seq (s_forO (k := 2) g_name (s_asg (e_f (f_cat e_var (e_f (f_lc (i_list (e_call (a_cons e_var a_nil))) g_name (t_test (e_notInO (k := 3) (e_call (a_cons e_var (a_cons e_var a_nil))))) e_var)))) g_name)) (s_seq (s_app (e_call (a_cons e_var (a_cons e_var a_nil)))) (s_app (e_call (a_cons e_var (a_cons (e_ixO (k := 2) (e_un u_neg e_int)) a_nil)))))))) (s_frz (k := 2) (s_ret e_var)))), ?_⟩)
  clear hr hg
  intro ds Q h
  unfold S_fit at h
  split at h
  · rename_i w s h'
    obtain ⟨⟨I, l100⟩, h⟩ := h
    rw [show startG N_fit.length [.p 0, .t [.i w, .i s, .i h']] = [.d (.p 0), .d (.t [.i w, .i s, .i h']), .u, .u, .u, .u, .u, .u] from rfl]
    refine ⟨by decide, by show 2 < 8; decide, by show 3 < 8; decide, by show 2 ≤ 100000; decide, by show 1 ≤ 100000; decide, by show 2 ≤ 100000; decide, by show 1 ≤ 100000; decide, ?_⟩
    dsimp only [wgName, put]
    have p0 : 0 < w * h' := Int.mul_pos I.1 I.2.2.2.2.1
    refine ⟨_, rfl, _, rfl, .inl ⟨by have := I.1; omega, by have := I.2.1; omega⟩, ⟨by omega, by omega⟩, ?_⟩
    refine ⟨fun k Γ => ∃ L a4 a5 a6 a7, Γ = [.d (.p 0), .d (.t [.i w, .i s, .i h']), .ol (L.map pt), .ol ((L.map (rest w s h')).map pt), a4, a5, a6, a7] ∧ Grow w s h' L k, ?_, ?_, ?_⟩
    · refine ⟨[(0, 0)], .u, .u, .u, .u, ?_, ⟨rfl, by simp, fun p hp => ?_⟩⟩
      · rw [show ([(0, 0)] : List Pr).map (rest w s h') = [(0, 0)] by rw [List.map_cons, List.map_nil, rest_self I.isL (by decide) I.1 (by decide) I.2.2.2.2.1]]
        rfl
      · have : p = (0, 0) := by simpa using hp
        subst this
        exact ⟨by decide, by decide⟩
    · rintro k x Γ' hx ⟨L, a4, a5, a6, a7, rfl, G⟩
      obtain ⟨hk, rfl⟩ := rngD_get' hx
      have gl := G.len
      dsimp only [wgName, put]
      refine ⟨by show 0 ≤ 100000; decide, ?_⟩
      dsimp only [wgName, put]
      intro p vs
      refine ⟨fun j Γ => ∃ a6 a7, Γ = [.d (.p 0), .d (.t [.i w, .i s, .i h']), .w (.la p vs (L.map pt)), .ol ((L.map (rest w s h')).map pt), .d (.i (0 + (k : Nat))), .d (.l ((nearOf w s h' (L.map (rest w s h')) (L.take j)).map pt)), a6, a7], ⟨_, _, rfl⟩, ?_, ?_, ?_⟩
      · rintro j Γ' ⟨a6, a7, rfl⟩
        rfl
      · rintro j x Γ' hj ⟨a6, a7, rfl⟩
        have jl : j < L.length := by
          have := (List.getElem?_eq_some_iff.mp hj).1
          rw [List.length_map] at this
          exact this
        rw [List.getElem?_map, List.getElem?_eq_getElem jl] at hj
        obtain rfl := (Option.some.inj hj).symm
        dsimp only [wgName, put]
        have tk : L.take (j + 1) = L.take j ++ [L[j]] := List.take_succ_eq_append_getElem jl
        generalize L[j] = f at tk
        have ln := nearOf_len (w := w) (s := s) (h := h') (R := L.map (rest w s h')) (L.take j)
        have lt : (L.take j).length ≤ j := List.length_take_le _ _
        refine ⟨by show 4 ≤ 100000; decide, fun i => decide (rest w s h' ((beside f).getD i (0, 0)) ∉ L.map (rest w s h')), fun i d => d = pt ((beside f).getD i (0, 0)), fun i x hi => ?_, fun ys hs => ?_⟩
        · obtain ⟨_, rfl⟩ := getpt hi
          exact ⟨I, inOwn_of ⟨rfl, fun _ => rfl⟩⟩
        · have e := selfil (L := beside f) (c := fun n => decide (rest w s h' n ∉ L.map (rest w s h'))) (f := pt) hs rfl
          have ly := hs.len
          have ly : ys.length ≤ 4 := ly
          subst e
          refine ⟨by rw [List.length_map]; omega, ?_⟩
          dsimp only [wgName, put]
          rw [← List.map_append, ← nearOf_snoc, ← tk]
          exact ⟨_, _, rfl⟩
      · rintro Γ' ⟨a6, a7, rfl⟩
        rw [List.length_map, List.take_length]
        dsimp only [put]
        show wSeq _ _ _ _
        obtain ⟨f0, hf0, n0, hn0, no0⟩ := near_some I.isL (L := L) (fun e => by rw [e] at gl; cases gl) (by omega)
        have nl := nearOf_len (w := w) (s := s) (h := h') (R := L.map (rest w s h')) L
        refine ⟨by rw [List.length_map]; omega, ⟨?_, by rw [List.length_map]; omega⟩, fun x hx => ?_⟩
        · have : n0 ∈ nearOf w s h' (L.map (rest w s h')) L := nearOf_mem.mpr ⟨f0, hf0, hn0, no0⟩
          rw [List.length_map]
          exact List.length_pos_of_mem this
        obtain ⟨n, hn, rfl⟩ := List.mem_map.mp hx
        obtain ⟨f, hf, hb, no⟩ := nearOf_mem.mp hn
        dsimp only [wgName, put]
        refine ⟨by rw [List.length_map, List.length_map]; omega, pt n, L2.atI_last _ _, I, ?_⟩
        dsimp only [wgName, put]
        rw [show L.map pt ++ [pt n] = (L ++ [n]).map pt by rw [List.map_append]; rfl, show (L.map (rest w s h')).map pt ++ [pt (rest w s h' (n.1, n.2))] = ((L ++ [n]).map (rest w s h')).map pt by rw [List.map_append, List.map_append]; rfl]
        exact ⟨L ++ [n], _, _, _, _, rfl, G.step hf hb no⟩
    · rintro Γ' ⟨L, a4, a5, a6, a7, rfl, G⟩
      rw [rngD_len] at G
      have gl := G.len
      refine h L ⟨G.nd, by omega⟩ fun p hp => ?_
      have := G.bd p hp
      omega
  · exact h.elim
/-- what grows anyhow -/
structure GrowN (L : List Pr) (k : Nat) : Prop where
  len : L.length = k + 1
  nd : L.Nodup
  bd : ∀ p ∈ L, p.1.natAbs ≤ k ∧ p.2.natAbs ≤ k
def freeOf (L M : List Pr) : List Pr := M.flatMap fun f => (beside f).filter fun n => decide (n ∉ L)
theorem freeOf_mem {L M : List Pr} {n : Pr} : n ∈ freeOf L M ↔ ∃ f ∈ M, n ∈ beside f ∧ n ∉ L := by
  unfold freeOf
  simp only [List.mem_flatMap, List.mem_filter, decide_eq_true_iff]
theorem freeOf_len {L : List Pr} : ∀ M : List Pr, (freeOf L M).length ≤ 4 * M.length
  | [] => by simp [freeOf]
  | f :: M => by
    have := freeOf_len (L := L) M
    unfold freeOf at this ⊢
    rw [List.flatMap_cons, List.length_append, List.length_cons]
    refine Nat.le_trans (Nat.add_le_add (List.length_filter_le _ _) this) ?_
    show 4 + 4 * M.length ≤ _
    omega
theorem freeOf_snoc {L M : List Pr} {f : Pr} : freeOf L (M ++ [f]) = freeOf L M ++ (beside f).filter fun n => decide (n ∉ L) := by
  unfold freeOf
  rw [List.flatMap_append]
  simp
theorem GrowN.step {L : List Pr} {k : Nat} {f n : Pr} (G : GrowN L k) (hf : f ∈ L) (hn : n ∈ beside f) (no : n ∉ L) : GrowN (L ++ [n]) (k + 1) := by
  refine ⟨by rw [List.length_append, G.len]; rfl, ?_, fun p hp => ?_⟩
  · rw [List.nodup_append]
    exact ⟨G.nd, by simp, fun a ha b hb e => by
      have : b = n := by simpa using hb
      subst this e
      exact no ha⟩
  · rcases List.mem_append.mp hp with hp | hp
    · have := G.bd p hp
      omega
    · have e : p = n := by simpa using hp
      subst e
      have b := G.bd f hf
      have := mem_beside.mp hn
      omega
theorem free_some : ∀ {L : List Pr}, L ≠ [] → ∃ f ∈ L, ∃ n ∈ beside f, n ∉ L := fun {L} ne => by
  refine Classical.byContradiction fun no => ?_
  obtain ⟨f, hf⟩ := List.exists_mem_of_ne_nil L ne
  have all := closed_all (P := fun p => p ∈ L) (fun p q hp hq => Decidable.byContradiction fun n => no ⟨p, hp, q, hq, n⟩) hf
  have nd : ((List.range (L.length + 1)).map fun (i : Nat) => (((i : Nat) : Int), (0 : Int))).Nodup := by
    rw [List.nodup_iff_pairwise_ne, List.pairwise_map]
    refine (List.nodup_iff_pairwise_ne.mp (List.nodup_range (n := L.length + 1))).imp fun {a b} ne e => ne ?_
    injection e with e _
    exact Int.ofNat.inj e
  have := List.Nodup.length_le_of_subset nd fun x _ => all x
  rw [List.length_map, List.length_range] at this
  omega
def S_grown : List D → (D → Prop) → Prop := fun ds Q => match ds with
  | [.p 0, .i n] => (1 ≤ n ∧ n ≤ 100) ∧ ∀ L : List Pr, (L.length : Int) = n → L.Nodup → (∀ p ∈ L, (p.1.natAbs : Int) < n ∧ (p.2.natAbs : Int) < n) → Q (.l (L.map pt))
  | _ => False
theorem len_grown : ∀ ds P, S_grown ds P → ds.length = P_grown.length := fun ds P h => by
  unfold S_grown at h
  split at h <;> first | rfl | exact h.elim
theorem d_grown (Df : DefIn K mg "_law_grown" s_grown P_grown) (T : Txt mg) (D_beside : DOk P w K mg base "_law_beside" s_beside 1 P_beside S_beside) (D_some_one : DOk P w K mg base "_law_some_one" s_some_one 2 P_some_one S_some_one) : DOk P w K mg base "_law_grown" s_grown 3 P_grown S_grown := by
  have SC := sc_grown
  refine dok (k := 2) Df sc_grown (len_grown) (body := fun f cdv A outer s H E hr hg => ⟨_, _, (pss_cons (ps_set (i := 2) SC.nd rfl (Or.inr rfl) (pe_lst (pa_cons (pe_tup (pa_cons pe_int (pa_cons pe_int pa_nil))) pa_nil))) (pss_cons (ps_for PassesOwn.never rfl (pi_range1 (by rfl) T.z_range (pa_cons (pe_op op_sub (pv 1) pe_int) pa_nil)) (pg_name (i := 3) SC.nd rfl (Or.inl rfl)) (pss_cons (ps_set (i := 4) SC.nd rfl (Or.inl rfl) (pe_lst pa_nil)) (pss_cons (ps_for PassesOwn.never rfl (kx_piList K (pv 2)) (pg_name (i := 5) SC.nd rfl (Or.inl rfl)) (pss_one (ps_set (i := 4) SC.nd rfl (Or.inl rfl) (pe_op op_cat (pv 4) (pe_lc (own := [("_law_spot", 6)]) (g := (gName 6)) (by rfl) SC.nd (kx_piList K (pe_callD D_beside.d (hr.mono (by decide)) hg (pa_cons (pv 5) pa_nil))) (blkOk_by (own := [("_law_spot", 6)]) (N := N_grown) (sc := defScope s_grown) (by decide +kernel)) (fun _ _ _ _ _ => (pg_name (i := 6) SC.nd rfl (Or.inl rfl))) (fun _ _ _ _ _ => (pts_one (pt_cmpR (kx_notInD K hr.u65) (pv 6) (pv 2) (by with_unfolding_all rfl)))) (fun _ _ _ _ _ => (pv 6))))))) (pss_one (ps_expr (pe_bm PySem.F.plainAttrs_list PySem.F.slot_list_append PySem.F.type_list_append mt_append (pv 2) (pa_cons (pe_callD D_some_one.d (hr.mono (by decide)) hg (pa_cons (pv 0) (pa_cons (pv 4) pa_nil))) pa_nil))))))) (pss_one (ps_ret (pv 2))))), (s_seq (s_asgO (f_lst (a_cons (e_tup (a_cons e_int (a_cons e_int a_nil))) a_nil))) (s_seq (s_for (i_rng1 (a_cons (e_op o_sub e_var e_int) a_nil)) g_name (s_seq (s_asg (e_f (f_lst a_nil)) g_name) (s_seq (s_forO (k := 2) g_name (s_asg (e_f (f_cat e_var (e_f (f_lc (i_list (e_call (a_cons e_var a_nil))) g_name (t_test (e_notInO (k := 2) e_var)) e_var)))) g_name)) (s_app (e_call (a_cons e_var (a_cons e_var a_nil))))))) (s_frz (k := 2) (s_ret e_var)))), ?_⟩)
  clear hr hg
  intro ds Q h
  unfold S_grown at h
  split at h
  · rename_i n
    obtain ⟨⟨n1, n2⟩, h⟩ := h
    rw [show startG N_grown.length [.p 0, .i n] = [.d (.p 0), .d (.i n), .u, .u, .u, .u, .u] from rfl]
    refine ⟨by show 2 ≤ 100000; decide, by show 1 ≤ 100000; decide, ?_⟩
    dsimp only [wgName, put]
    refine ⟨⟨by omega, by omega⟩, ?_⟩
    refine ⟨fun k Γ => ∃ L a3 a4 a5 a6, Γ = [.d (.p 0), .d (.i n), .ol (L.map pt), a3, a4, a5, a6] ∧ GrowN L k, ?_, ?_, ?_⟩
    · refine ⟨[(0, 0)], .u, .u, .u, .u, rfl, ⟨rfl, by simp, fun p hp => ?_⟩⟩
      have : p = (0, 0) := by simpa using hp
      subst this
      exact ⟨by decide, by decide⟩
    · rintro k x Γ' hx ⟨L, a3, a4, a5, a6, rfl, G⟩
      obtain ⟨hk, rfl⟩ := rngD_get' hx
      have gl := G.len
      dsimp only [wgName, put]
      refine ⟨by show 0 ≤ 100000; decide, ?_⟩
      dsimp only [wgName, put]
      intro p vs
      refine ⟨fun j Γ => ∃ a5 a6, Γ = [.d (.p 0), .d (.i n), .w (.la p vs (L.map pt)), .d (.i (0 + (k : Nat))), .d (.l ((freeOf L (L.take j)).map pt)), a5, a6], ⟨_, _, rfl⟩, ?_, ?_, ?_⟩
      · rintro j Γ' ⟨a5, a6, rfl⟩
        rfl
      · rintro j x Γ' hj ⟨a5, a6, rfl⟩
        have jl : j < L.length := by
          have := (List.getElem?_eq_some_iff.mp hj).1
          rw [List.length_map] at this
          exact this
        rw [List.getElem?_map, List.getElem?_eq_getElem jl] at hj
        obtain rfl := (Option.some.inj hj).symm
        dsimp only [wgName, put]
        have tk : L.take (j + 1) = L.take j ++ [L[j]] := List.take_succ_eq_append_getElem jl
        generalize L[j] = f at tk
        have ln := freeOf_len (L := L) (L.take j)
        have lt : (L.take j).length ≤ j := List.length_take_le _ _
        refine ⟨by show 4 ≤ 100000; decide, fun i => decide ((beside f).getD i (0, 0) ∉ L), fun i d => d = pt ((beside f).getD i (0, 0)), fun i x hi => ?_, fun ys hs => ?_⟩
        · obtain ⟨_, rfl⟩ := getpt hi
          obtain ⟨d, ds, a1, a2, a3, a4, a5⟩ := inOwn_of (R := L) (q := (beside f).getD i (0, 0)) (Q := fun x => x = .b (decide ((beside f).getD i (0, 0) ∉ L))) rfl
          exact ⟨d, ds, a1, a2, a3, a4, D.b.inj a5, fun _ => rfl⟩
        · have e := selfil (L := beside f) (c := fun n => decide (n ∉ L)) (f := pt) hs rfl
          have ly := hs.len
          have ly : ys.length ≤ 4 := ly
          subst e
          refine ⟨by rw [List.length_map]; omega, ?_⟩
          dsimp only [wgName, put]
          rw [← List.map_append, ← freeOf_snoc, ← tk]
          exact ⟨_, _, rfl⟩
      · rintro Γ' ⟨a5, a6, rfl⟩
        rw [List.length_map, List.take_length]
        dsimp only [put]
        obtain ⟨f0, hf0, n0, hn0, no0⟩ := free_some (L := L) (fun e => by rw [e] at gl; cases gl)
        have nl := freeOf_len (L := L) L
        refine ⟨by rw [List.length_map]; omega, ⟨?_, by rw [List.length_map]; omega⟩, fun x hx => ?_⟩
        · have : n0 ∈ freeOf L L := freeOf_mem.mpr ⟨f0, hf0, hn0, no0⟩
          rw [List.length_map]
          exact List.length_pos_of_mem this
        obtain ⟨n', hn, rfl⟩ := List.mem_map.mp hx
        obtain ⟨f, hf, hb, no⟩ := freeOf_mem.mp hn
        dsimp only [wgName, put]
        rw [show L.map pt ++ [pt n'] = (L ++ [n']).map pt by rw [List.map_append]; rfl]
        exact ⟨L ++ [n'], _, _, _, _, rfl, G.step hf hb no⟩
    · rintro Γ' ⟨L, a3, a4, a5, a6, rfl, G⟩
      rw [rngD_len] at G
      have gl := G.len
      refine h L (by omega) G.nd fun p hp => ?_
      have := G.bd p hp
      omega
  · exact h.elim
theorem pts_of {R : Pr → Prop} : ∀ ys : List D, (∀ y ∈ ys, ∃ p : Pr, y = pt p ∧ R p) → ∃ L : List Pr, ys = L.map pt ∧ ∀ p ∈ L, R p
  | [], _ => ⟨[], rfl, fun p hp => by cases hp⟩
  | y :: ys, h => by
    obtain ⟨p, rfl, rp⟩ := h y (List.mem_cons_self ..)
    obtain ⟨L, rfl, rl⟩ := pts_of ys fun z hz => h z (List.mem_cons_of_mem _ hz)
    refine ⟨p :: L, rfl, fun q hq => ?_⟩
    rcases List.mem_cons.mp hq with rfl | hq
    · exact rp
    · exact rl q hq
def S_small_tiles : List D → (D → Prop) → Prop := fun ds Q => match ds with
  | [.p 0, .i n] => (1 ≤ n ∧ n ≤ 20) ∧ ∀ L : List Pr, L ≠ [] → (L.length : Int) ≤ n → L.Nodup → (∀ p ∈ L, p.1.natAbs ≤ 50 ∧ p.2.natAbs ≤ 50) → Q (.l (L.map pt))
  | _ => False
theorem len_small_tiles : ∀ ds P, S_small_tiles ds P → ds.length = P_small_tiles.length := fun ds P h => by
  unfold S_small_tiles at h
  split at h <;> first | rfl | exact h.elim
theorem d_small_tiles (Df : DefIn K mg "_law_small_tiles" s_small_tiles P_small_tiles) (T : Txt mg) (D_sip : DefOk P w K mg base "_law_sip" 1 P_sip (spD K S_sip)) (D_grown : DOk P w K mg base "_law_grown" s_grown 3 P_grown S_grown) (D_fit : DOk P w K mg base "_law_fit" s_fit 3 P_fit S_fit) (D_grid : DOk P w K mg base "_law_grid" s_grid 2 P_grid S_grid) : DOk P w K mg base "_law_small_tiles" s_small_tiles 4 P_small_tiles S_small_tiles := by
  have SC := sc_small_tiles
  refine dok (k := 3) Df sc_small_tiles (len_small_tiles) (body := fun f cdv A outer s H E hr hg => ⟨_, _, (pss_cons (ps_set (i := 2) SC.nd rfl (Or.inl rfl) (pe_callD D_sip.d (hr.mono (by decide)) hg (pa_cons (pv 0) (pa_cons pe_int pa_nil)))) (pss_cons (ps_if (pt_cmpR op_lt (pv 2) pe_int (nomark _)) (pss_one (ps_ret (pe_callD D_grown.d (hr.mono (by decide)) hg (pa_cons (pv 0) (pa_cons (pe_op op_add pe_int (pe_callD D_sip.d (hr.mono (by decide)) hg (pa_cons (pv 0) (pa_cons (pv 1) pa_nil)))) pa_nil))))) pss_nil) (pss_cons (ps_if (pt_cmpR op_eq (pv 2) pe_int (nomark _)) (pss_one (ps_ret (pe_callD D_fit.d (hr.mono (by decide)) hg (pa_cons (pv 0) (pa_cons (pe_callD D_grid.d (hr.mono (by decide)) hg (pa_cons (pv 0) (pa_cons (pv 1) pa_nil))) pa_nil))))) pss_nil) (pss_cons (ps_setLc (i := 3) (own := [("_law_turn", 4)]) (g := (gName 4)) (tt := tYes) (by rfl) SC.nd rfl rfl (sw_true rfl rfl rfl (by decide +kernel)) (pi_range1 (by rfl) T.z_range (pa_cons (pv 1) pa_nil)) (blkOk_by (own := [("_law_turn", 4)]) (N := N_small_tiles) (sc := defScope s_small_tiles) (by decide +kernel)) (fun _ _ _ _ _ => (pg_name (i := 4) SC.nd rfl (Or.inl rfl))) (fun _ _ _ _ _ => pts_nil) (fun _ _ _ _ _ => (pe_tup (pa_cons (pe_callD D_sip.d (hr.mono (by decide)) hg (pa_cons (pv 0) (pa_cons pe_int pa_nil))) (pa_cons (pe_callD D_sip.d (hr.mono (by decide)) hg (pa_cons (pv 0) (pa_cons pe_int pa_nil))) pa_nil))))) (pss_one (ps_ret (pe_callB (DO.kx_sortS K rfl) (by rfl) T.z_sorted (by decide +kernel) (pa_cons (pe_callTy (DO.cr_setFew rfl hr.units) (by rfl) T.z_set (by decide +kernel) (pa_cons (pv 3) pa_nil)) pa_nil)))))))), (s_seq (s_asg (e_call (a_cons e_var (a_cons e_int a_nil))) g_name) (s_seq (s_if (t_test (e_op o_lt e_var e_int)) (s_ret (e_call (a_cons e_var (a_cons (e_op o_add e_int (e_call (a_cons e_var (a_cons e_var a_nil)))) a_nil)))) s_next) (s_seq (s_if (t_test (e_op o_eqS e_var e_int)) (s_ret (e_call (a_cons e_var (a_cons (e_call (a_cons e_var (a_cons e_var a_nil))) a_nil)))) s_next) (s_seq (s_asg (e_f (f_lc (i_rng1 (a_cons e_var a_nil)) g_name t_yes (e_tup (a_cons (e_call (a_cons e_var (a_cons e_int a_nil))) (a_cons (e_call (a_cons e_var (a_cons e_int a_nil))) a_nil))))) g_name) (s_ret (DO.e_ssetF e_var)))))), ?_⟩)
  clear hr hg
  intro ds Q h
  unfold S_small_tiles at h
  split at h
  · rename_i n
    obtain ⟨⟨n1, n2⟩, h⟩ := h
    rw [show startG N_small_tiles.length [.p 0, .i n] = [.d (.p 0), .d (.i n), .u, .u, .u] from rfl]
    refine ⟨⟨by decide, by decide⟩, fun r r1 r2 => ?_⟩
    dsimp only [wgName, put]
    refine ⟨fun _ => ?_, fun _ => ?_⟩
    · refine ⟨⟨by omega, by omega⟩, fun q q1 q2 => ⟨⟨by omega, by omega⟩, fun L l nd bd => ?_⟩⟩
      exact h L (fun e => by rw [e] at l; simp at l; omega) (by omega) nd fun p hp => by have := bd p hp; omega
    refine ⟨fun _ => ?_, fun _ => ?_⟩
    · refine ⟨⟨by omega, by omega⟩, fun w s h' I m1 m2 m3 => ⟨⟨I, by omega⟩, fun L F bd => ?_⟩⟩
      have ln := F.len
      have p0 : 0 < w * h' := Int.mul_pos I.1 I.2.2.2.2.1
      exact h L (fun e => by rw [e] at ln; simp at ln; omega) (by omega) F.nodup fun p hp => by have := bd p hp; omega
    refine ⟨⟨by omega, by omega⟩, by rw [rngD_len]; omega, fun _ => true, fun k d => ∃ p : Pr, d = pt p ∧ 0 ≤ p.1 ∧ p.1 < 4 ∧ 0 ≤ p.2 ∧ p.2 < 3, fun k x hx => ?_, fun ys hs => ?_⟩
    · exact ⟨rfl, fun _ => ⟨⟨by decide, by decide⟩, fun a a1 a2 => ⟨⟨by decide, by decide⟩, fun b b1 b2 => ⟨by show 2 ≤ 100000; decide, (a, b), rfl, a1, a2, b1, b2⟩⟩⟩⟩
    obtain ⟨ly, py⟩ := hs.all
    rw [rngD_len] at ly
    obtain ⟨L, rfl, bd⟩ := pts_of (R := fun p => 0 ≤ p.1 ∧ p.1 < 4 ∧ 0 ≤ p.2 ∧ p.2 < 3) ys fun y hy => by
      obtain ⟨k, hk, rfl⟩ := List.getElem_of_mem hy
      exact py k _ (List.getElem?_eq_getElem hk)
    rw [List.length_map] at ly
    dsimp only [wgName, put]
    refine ⟨L, rfl, fun U nd sub => ?_, fun L' nd mem pw => ?_⟩
    · have := List.Nodup.length_le_of_subset nd sub
      omega
    · have l' := List.Nodup.length_le_of_subset nd fun x hx => (mem x).mp hx
      refine h L' (fun e => ?_) (by omega) nd fun p hp => by
        have := bd p ((mem p).mp hp)
        omega
      have l0 : 0 < L.length := by omega
      have := (mem L[0]).mpr (List.getElem_mem l0)
      rw [e] at this
      cases this
  · exact h.elim
def S_half_turn : List D → (D → Prop) → Prop := fun ds Q => match ds with
  | [.t xs, .t [.i c, .i d]] => ∃ L : List Pr, xs = L.map pt ∧ L.length ≤ 1000 ∧ Q (.l ((L.map fun p => (c - p.1, d - p.2)).map pt))
  | _ => False
theorem len_half_turn : ∀ ds P, S_half_turn ds P → ds.length = P_half_turn.length := fun ds P h => by
  unfold S_half_turn at h
  split at h <;> first | rfl | exact h.elim
theorem d_half_turn (Df : DefIn K mg "_law_half_turn" s_half_turn P_half_turn) (T : Txt mg) : DOk P w K mg base "_law_half_turn" s_half_turn 1 P_half_turn S_half_turn := by
  have SC := sc_half_turn
  refine dok (k := 0) Df sc_half_turn (len_half_turn) (body := fun f cdv A outer s H E hr hg => ⟨_, _, (pss_one (ps_ret (pe_lc (own := [("_law_x", 2), ("_law_y", 3)]) (g := (gTup K 2 (gCons (gName 2) (gCons (gName 3) gNil)))) (tt := tYes) (by rfl) SC.nd (kx_piTup K (pv 0)) (blkOk_by (own := [("_law_x", 2), ("_law_y", 3)]) (N := N_half_turn) (sc := defScope s_half_turn) (by decide +kernel)) (fun _ _ _ _ _ => (kx_pgTup (n := 2) K rfl (pgs_cons (pg_name (i := 2) SC.nd rfl (Or.inl rfl)) (pgs_cons (pg_name (i := 3) SC.nd rfl (Or.inl rfl)) pgs_nil)) (by rfl))) (fun _ _ _ _ _ => pts_nil) (fun _ _ _ _ _ => (pe_tup (pa_cons (pe_op op_sub (pe_ix (kx_ixT K) (pv 1) pe_int (fun _ _ => rfl)) (pv 2)) (pa_cons (pe_op op_sub (pe_ix (kx_ixT K) (pv 1) pe_int (fun _ _ => rfl)) (pv 3)) pa_nil))))))), (s_ret (e_f (f_lc (i_tup e_var) (g_tup (gs_cons g_name (gs_cons g_name gs_nil))) t_yes (e_tup (a_cons (e_op o_sub (e_op o_ixT e_var e_int) e_var) (a_cons (e_op o_sub (e_op o_ixT e_var e_int) e_var) a_nil)))))), ?_⟩)
  clear hr hg
  intro ds Q h
  unfold S_half_turn at h
  split at h
  · rename_i xs c d
    obtain ⟨L, rfl, l1, h⟩ := h
    refine ⟨by rw [List.length_map]; omega, fun _ => true, fun k x => x = pt (c - (L.getD k (0, 0)).1, d - (L.getD k (0, 0)).2), fun k x hx => ?_, fun ys hs => ?_⟩
    · obtain ⟨hk, rfl⟩ := getpt hx
      exact ⟨rfl, rfl, fun _ => ⟨_, rfl, _, rfl, by show 2 ≤ 100000; decide, rfl⟩⟩
    have e1 := selmap (f := fun p => pt (c - p.1, d - p.2)) hs (by rw [List.length_map])
    subst e1
    rw [List.map_map] at h
    exact h
  · exact h.elim
/-- as many different ones as there are: none stands twice -/
def S_m_len (CS : Addr) : List D → (D → Prop) → Prop := fun ds Q => match ds with
  | [d] => ∃ L : List Pr, d = shp CS L ∧ L.length ≤ 1000 ∧ Q (.i (L.length : Nat))
  | _ => False
theorem len_m_len {CS : Addr} : ∀ ds P, S_m_len CS ds P → ds.length = P_m_len.length := fun ds P h => by
  unfold S_m_len at h
  split at h <;> first | rfl | exact h.elim
theorem d_m_len {g : Addr} {fd : FuncData} (F : Fun K "__len__" "Shape.__len__" s_m_len g fd) (bd : Binds K fd ["self"] []) (T : Txt mg) (cC : Cls K CS) (nC : NoAttr K CS "_cells") : DO.ClsFn P w K mg base 1 g ["self"] (S_m_len CS) := by
  have SC := sc_m_len
  refine DO.mok (k := 0) F bd sc_m_len (len_m_len) (body := fun cdv A outer s H E hr hg => ⟨_, _, (pss_one (ps_ret (pe_callB (kx_len K) (by rfl) T.z_len (by decide +kernel) (pa_cons (DO.pe_fldK K (pv 0)) pa_nil)))), (s_ret (e_cb c_len (a_cons (DO.e_fld1 cC nC e_var) a_nil))), ?_⟩)
  clear hr hg
  intro ds Q h
  unfold S_m_len at h
  split at h
  · obtain ⟨L, rfl, l1, h⟩ := h
    refine ⟨_, rfl, ?_⟩
    show Q (.i ((L.map pt).length : Nat))
    rw [List.length_map]
    exact h
  · exact h.elim
/-- the floors of a lattice -/
def foldD (x : D) : List D := match x with
  | .t [.i w, .i s, .i h] => (rowN w s h).map t5
  | _ => []
theorem lats_fold (n : Int) : ((latsD n).map foldD).flatten = (canon n).map t5 := by
  unfold latsD canon wsN
  induction List.range n.toNat with
  | nil => rfl
  | cons k l ih =>
    rw [List.map_cons, List.flatten_cons, List.map_append, List.flatten_append, ih]
    by_cases c : n % (1 + (k : Int)) = 0
    · rw [List.filter_cons_of_pos (by rw [decide_eq_true c]), List.map_cons, List.flatMap_cons, List.map_append]
      congr 1
      unfold rowD fullN
      rw [if_pos c, show (1 + (k : Int)).toNat = k + 1 by omega, List.map_map, List.flatMap_def, List.map_flatten, List.map_map]
      rfl
    · rw [List.filter_cons_of_neg (by rw [decide_eq_false c]; exact Bool.false_ne_true)]
      unfold rowD
      rw [if_neg c]
      rfl
theorem selG {α : Type} {L : List α} {d0 : α} {c : α → Bool} {f : α → D} {n : Nat} {ys : List D} (hs : Sel (fun k => c (L.getD k d0)) (fun k d => d = f (L.getD k d0)) n ys) (hn : n = L.length) : ys = (L.filter c).map f := by
  subst hn
  have e := hs.filter
  have g : (List.range L.length).map (fun k => L.getD k d0) = L := by
    refine List.ext_getElem (by simp) fun k h1 h2 => ?_
    rw [List.getElem_map, List.getElem_range, List.getD_eq_getElem?_getD, List.getElem?_eq_getElem h2]
    rfl
  have z := congrArg (fun M => (M.filter c).map f) g
  rw [List.filter_map, List.map_map] at z
  rw [e]
  exact z
theorem getG {α : Type} {L : List α} {d0 : α} {f : α → D} {k : Nat} {x : D} (h : (L.map f)[k]? = some x) : k < L.length ∧ x = f (L.getD k d0) ∧ L.getD k d0 ∈ L := by
  rw [List.getElem?_map] at h
  cases q : L[k]? with
  | none => rw [q] at h; cases h
  | some p =>
    rw [q] at h
    cases h
    obtain ⟨hk, e⟩ := List.getElem?_eq_some_iff.mp q
    refine ⟨hk, by rw [List.getD_eq_getElem?_getD, q]; rfl, ?_⟩
    rw [List.getD_eq_getElem?_getD, q]
    exact List.mem_of_getElem? q
theorem zss_map {f : Nat → List D} {n : Nat} {zss : List (List D)} (l : zss.length = n) (h : ∀ k ys, zss[k]? = some ys → ys = f k) : zss = (List.range n).map f := by
  subst l
  refine List.ext_getElem (by simp) fun k h1 h2 => ?_
  rw [List.getElem_map, List.getElem_range]
  exact h k _ (List.getElem?_eq_getElem h1)
def f0 : F5 := (0, 0, 0, 0, 0)
def due (L : List Pr) : List F5 := (canon (2 * (L.length : Int))).filter (okB L)
theorem canon7 : ∀ m : Nat, m ≤ 7 → (canon (2 * (m : Int))).length ≤ 400 := fun m hm => by
  have : m = 0 ∨ m = 1 ∨ m = 2 ∨ m = 3 ∨ m = 4 ∨ m = 5 ∨ m = 6 ∨ m = 7 := by omega
  rcases this with rfl | rfl | rfl | rfl | rfl | rfl | rfl | rfl <;> decide +kernel
def S_turned_floors (CS : Addr) : List D → (D → Prop) → Prop := fun ds Q => match ds with
  | [d] => ∃ L : List Pr, d = shp CS L ∧ 0 < L.length ∧ L.length ≤ 7 ∧ Q (.t ((due L).map t5))
  | _ => False
theorem len_turned_floors {CS : Addr} : ∀ ds P, S_turned_floors CS ds P → ds.length = P_turned_floors.length := fun ds P h => by
  unfold S_turned_floors at h
  split at h <;> first | rfl | exact h.elim
theorem d_turned_floors (Df : DefIn K mg "turned_floors" s_turned_floors P_turned_floors) (T : Txt mg) (SG_len : DO.SpG P w K mg base CS "__len__" 1 (S_m_len CS)) (D_check_shape : DOk P w K mg base "check_shape" s_check_shape 1 P_check_shape (S_check_shape CS)) (D_lattices_with : DOk P w K mg base "lattices_with" s_lattices_with 1 P_lattices_with S_lattices_with) (D_is_floor : DOk P w K mg base "is_floor" s_is_floor 4 P_is_floor (S_is_floor CS)) : DOk P w K mg base "turned_floors" s_turned_floors 5 P_turned_floors (S_turned_floors CS) := by
  have SC := sc_turned_floors
  refine dok (k := 4) Df sc_turned_floors (len_turned_floors) (body := fun f cdv A outer s H E hr hg => ⟨_, _, (pss_cons (ps_expr (pe_callD D_check_shape.d (hr.mono (by decide)) hg (pa_cons (pv 0) pa_nil))) (pss_cons (ps_if (pt_cmpR op_gt (pe_callB (DO.cr_lenG SG_len (hr.mono (by decide)) hg) (by rfl) T.z_len (by decide +kernel) (pa_cons (pv 0) pa_nil)) (pe_gint T.m_MOST_TO_TURN) (nomark _)) (pss_one ps_never) pss_nil) (pss_cons (LCN.ps_setLc3 (i := 1) (own := [("c", 5), ("d", 6), ("wide", 2), ("slip", 3), ("high", 4)]) (vs1 := [5, 6]) (vs2 := [6]) (g := (gTup K 3 (gCons (gName 2) (gCons (gName 3) (gCons (gName 4) gNil))))) (tt := tYes) (g1 := (gName 5)) (tt1 := tYes) (g2 := (gName 6)) (tt2 := tYes) (by rfl) SC.nd rfl rfl (sw_true rfl rfl rfl (by decide +kernel)) (kx_piList K (pe_callD D_lattices_with.d (hr.mono (by decide)) hg (pa_cons (pe_op op_mul pe_int (pe_callB (DO.cr_lenG SG_len (hr.mono (by decide)) hg) (by rfl) T.z_len (by decide +kernel) (pa_cons (pv 0) pa_nil))) pa_nil))) (blkOk_by (own := [("c", 5), ("d", 6), ("wide", 2), ("slip", 3), ("high", 4)]) (N := N_turned_floors) (sc := defScope s_turned_floors) (by decide +kernel)) (by decide) (by decide) (fun _ _ _ _ _ => (kx_pgTup (n := 3) K rfl (pgs_cons (pg_name (i := 2) SC.nd rfl (Or.inl rfl)) (pgs_cons (pg_name (i := 3) SC.nd rfl (Or.inl rfl)) (pgs_cons (pg_name (i := 4) SC.nd rfl (Or.inl rfl)) pgs_nil))) (by rfl))) (fun _ _ _ _ _ => pts_nil) (fun _ _ _ _ _ => (pi_range1 (by rfl) T.z_range (pa_cons (pv 2) pa_nil))) (fun _ _ _ _ _ => (pg_name (i := 5) SC.nd rfl (Or.inl rfl))) (fun _ _ _ _ _ => pts_nil) (fun _ _ _ _ _ => (pi_range1 (by rfl) T.z_range (pa_cons (pv 4) pa_nil))) (fun _ _ _ _ _ => (pg_name (i := 6) SC.nd rfl (Or.inl rfl))) (fun _ _ _ _ _ => pts_nil) (fun _ _ _ _ _ => (pe_tup (pa_cons (pv 2) (pa_cons (pv 3) (pa_cons (pv 4) (pa_cons (pv 5) (pa_cons (pv 6) pa_nil)))))))) (pss_one (ps_ret (pe_callTy (kx_tupleOf K) (by rfl) T.z_tuple (by decide +kernel) (pa_cons (pe_lc (own := [("floor", 7)]) (g := (gName 7)) (by rfl) SC.nd (kx_piList K (pv 1)) (blkOk_by (own := [("floor", 7)]) (N := N_turned_floors) (sc := defScope s_turned_floors) (by decide +kernel)) (fun _ _ _ _ _ => (pg_name (i := 7) SC.nd rfl (Or.inl rfl))) (fun _ _ _ _ _ => (pts_one (pt_val (pe_callD D_is_floor.d (hr.mono (by decide)) hg (pa_cons (pv 0) (pa_cons (pv 7) pa_nil)))))) (fun _ _ _ _ _ => (pv 7))) pa_nil))))))), (s_seq (s_drop (e_call (a_cons e_var a_nil))) (s_seq (s_if (t_test (e_op o_gt (DO.e_lenO' e_var) e_int)) s_never s_next) (s_seq (s_asg (e_f (f_lcN (i_list (e_call (a_cons (e_op o_mul e_int (DO.e_lenO' e_var)) a_nil))) (g_tup (gs_cons g_name (gs_cons g_name (gs_cons g_name gs_nil)))) t_yes (a_cl (i_rng1 (a_cons e_var a_nil)) g_name t_yes (a_cl (i_rng1 (a_cons e_var a_nil)) g_name t_yes (a_app (e_tup (a_cons e_var (a_cons e_var (a_cons e_var (a_cons e_var (a_cons e_var a_nil))))))))))) g_name) (s_ret (e_cb c_tupleOf (a_cons (e_f (f_lc (i_list e_var) g_name (t_B (e_call (a_cons e_var (a_cons e_var a_nil)))) e_var)) a_nil)))))), ?_⟩)
  clear hr hg
  intro ds Q h
  unfold S_turned_floors at h
  split at h
  · obtain ⟨L, rfl, l0, l6, h⟩ := h
    rw [show startG N_turned_floors.length [shp CS L] = [.d (shp CS L), .u, .u, .u, .u, .u, .u, .u] from rfl]
    refine ⟨⟨L, rfl⟩, ?_⟩
    dsimp only [wgName, put]
    refine ⟨⟨_, _, rfl⟩, L, rfl, by omega, ⟨_, rfl, by omega, by omega⟩, ⟨fun z => absurd (of_decide_eq_true z) (by omega), fun _ => ?_⟩⟩
    refine ⟨⟨_, _, rfl⟩, L, rfl, by omega, ⟨_, rfl, by omega, by omega⟩, .inl ⟨by decide, by decide⟩, ⟨by omega, by omega⟩, ?_⟩
    have l28 := lats_len (n := 2 * (L.length : Int)) (2 * (L.length : Int)).toNat (by omega)
    have l288 : (latsD (2 * (L.length : Int))).length ≤ 336 := Nat.le_trans l28 (by omega)
    refine ⟨14, fun _ => true, fun k ys => ∃ x, (latsD (2 * (L.length : Int)))[k]? = some x ∧ ys = foldD x, by omega, fun k x hx => ?_, fun zss zl zp => ?_⟩
    · obtain ⟨w, s, h', rfl, I, wh, w24, h24⟩ := lats_mem (by omega) (by omega) (List.mem_of_getElem? hx)
      obtain ⟨w0, _, s0, s1, h0, _⟩ := I
      have wn := toNat_mul w0 h0
      refine ⟨rfl, rfl, fun _ => ⟨⟨by omega, by omega⟩, rfl, h'.toNat, fun _ => true, fun c ys => ys = (cellN w s h' c).map t5, by rw [rngD_len]; omega, fun c y hy => ?_, fun zss zl zp => ⟨_, hx, ?_⟩⟩⟩
      · obtain ⟨hc, rfl⟩ := rngD_get' hy
        refine ⟨rfl, fun _ => ⟨⟨by omega, by omega⟩, rfl, 1, fun _ => true, fun d ys => ys = [t5 (w, s, h', c, d)], by rw [rngD_len]; omega, fun d y hy => ?_, fun zss zl zp => ?_⟩⟩
        · obtain ⟨hd, rfl⟩ := rngD_get' hy
          rw [Int.zero_add, Int.zero_add]
          exact ⟨rfl, fun _ => ⟨Nat.le_refl 1, by show 5 ≤ 100000; decide, rfl⟩⟩
        · rw [rngD_len] at zl
          have e := zss_map zl fun k ys hk => zp k ys hk
          rw [e]
          show _ = (cellN w s h' c).map t5
          unfold cellN
          generalize h'.toNat = n
          rw [List.map_map]
          induction List.range n with
          | nil => rfl
          | cons a l ih => rw [List.map_cons, List.flatten_cons, ih]; rfl
      · rw [rngD_len] at zl
        have e := zss_map zl fun k ys hk => zp k ys hk
        rw [e]
        show _ = (rowN w s h').map t5
        unfold rowN
        rw [List.flatMap_def, List.map_flatten, List.map_map]
        rfl
    · have e : zss = (latsD (2 * (L.length : Int))).map foldD := by
        refine List.ext_getElem (by rw [List.length_map]; exact zl) fun k h1 h2 => ?_
        rw [List.getElem_map]
        obtain ⟨x, hx, e⟩ := zp k _ (List.getElem?_eq_getElem h1)
        rw [List.length_map] at h2
        rw [List.getElem?_eq_getElem h2] at hx
        cases hx
        exact e
      rw [e, lats_fold]
      dsimp only [wgName, put]
      have cl : (canon (2 * (L.length : Int))).length ≤ 400 := canon7 _ l6
      refine ⟨by rw [List.length_map]; omega, fun k => okB L ((canon (2 * (L.length : Int))).getD k f0), fun k d => d = t5 ((canon (2 * (L.length : Int))).getD k f0), fun k x hx => ?_, fun ys hs => ?_⟩
      · obtain ⟨hk, rfl, m⟩ := getG (d0 := f0) hx
        obtain ⟨g, hg⟩ : ∃ g, (canon (2 * (L.length : Int))).getD k f0 = g := ⟨_, rfl⟩
        rw [hg] at m ⊢
        obtain ⟨w, s, c, d, hw, s0, c0, d0, d1, rfl⟩ := canon_mem.mp m
        obtain ⟨e1, e2, e3⟩ := divs hw
        have b1 : 0 < w ∧ 0 ≤ s ∧ s < w ∧ 0 < 2 * (L.length : Int) / w := by omega
        have b2 : -2 ^ 64 < w ∧ w < 2 ^ 64 := by omega
        refine ⟨L, rfl, by omega, ⟨b1, .inl b2⟩, ?_, fun _ => by show t5 _ = t5 _; rw [hg]⟩
        show _ = okB L ((canon (2 * (L.length : Int))).getD k f0)
        rw [hg, Bool.eq_iff_iff, decide_eq_true_iff, okB_iff m (by omega)]
        have e4 : ((dbl c d L).length : Int) = w * (2 * (L.length : Int) / w) := by rw [dbl_len]; omega
        exact ⟨fun z => z.2, fun z => ⟨e4, z⟩⟩
      · have e := selG (L := canon (2 * (L.length : Int))) (c := okB L) (f := t5) hs (by rw [List.length_map])
        subst e
        exact h
  · exact h.elim
def S_is_of : List D → (D → Prop) → Prop := fun ds Q => match ds with
  | [.t [.i w, .i s, .i h], .t [.i x, .i y]] => IsLat w s h ∧ Q (.b (decide (rest w s h (x, y) = (0, 0))))
  | _ => False
theorem len_is_of : ∀ ds P, S_is_of ds P → ds.length = P_is_of.length := fun ds P h => by
  unfold S_is_of at h
  split at h <;> first | rfl | exact h.elim
theorem d_is_of (Df : DefIn K mg "_law_is_of" s_is_of P_is_of) (T : Txt mg) : DOk P w K mg base "_law_is_of" s_is_of 1 P_is_of S_is_of := by
  have SC := sc_is_of
  refine dok (k := 0) Df sc_is_of (len_is_of) (body := fun f cdv A outer s H E hr hg => ⟨_, _, (pss_cons (ps_if (pt_cmpR op_ne (pe_op op_mod (pe_callTy call_int1 (by rfl) T.z_int (by decide +kernel) (pa_cons (pe_ix (kx_ixT K) (pv 1) pe_int (fun _ _ => rfl)) pa_nil)) (pe_ix (kx_ixT K) (pv 0) pe_int (fun _ _ => rfl))) pe_int (nomark _)) (pss_one (ps_ret pe_bl)) pss_nil) (pss_one (ps_ret (pe_cmpR op_eq (pe_op op_mod (pe_callTy call_int1 (by rfl) T.z_int (by decide +kernel) (pa_cons (pe_op op_sub (pe_ix (kx_ixT K) (pv 1) pe_int (fun _ _ => rfl)) (pe_op op_mul (pe_op op_fdiv (pe_ix (kx_ixT K) (pv 1) pe_int (fun _ _ => rfl)) (pe_ix (kx_ixT K) (pv 0) pe_int (fun _ _ => rfl))) (pe_ix (kx_ixT K) (pv 0) pe_int (fun _ _ => rfl)))) pa_nil)) (pe_ix (kx_ixT K) (pv 0) pe_int (fun _ _ => rfl))) pe_int (nomark _))))), (s_seq (s_if (t_test (e_op o_neS (e_op o_mod (e_cb c_int1 (a_cons (e_op o_ixT e_var e_int) a_nil)) (e_op o_ixT e_var e_int)) e_int)) (s_ret e_bl) s_next) (s_ret (e_op o_eqS (e_op o_mod (e_cb c_int1 (a_cons (e_op o_sub (e_op o_ixT e_var e_int) (e_op o_mul (e_op o_fdiv (e_op o_ixT e_var e_int) (e_op o_ixT e_var e_int)) (e_op o_ixT e_var e_int))) a_nil)) (e_op o_ixT e_var e_int)) e_int))), ?_⟩)
  clear hr hg
  intro ds Q h
  unfold S_is_of at h
  split at h
  · rename_i w s h' x y
    obtain ⟨⟨h1, h2, h3, h4, h5, h6⟩, h⟩ := h
    refine ⟨_, rfl, _, rfl, h5, ⟨fun z => ?_, fun z => ?_⟩⟩
    · have z : decide (y % h' = 0) = false := by
        have z : (!decide (y % h' = 0)) = true := z
        rw [Bool.not_eq_true'] at z
        exact z
      have e : decide (rest w s h' (x, y) = (0, 0)) = false := decide_eq_false fun e => by
        injection e with _ e
        exact absurd e (of_decide_eq_false z)
      rw [e] at h
      exact h
    · have z : y % h' = 0 := by
        have z : (!decide (y % h' = 0)) = false := z
        rw [Bool.not_eq_false'] at z
        exact of_decide_eq_true z
      refine ⟨_, rfl, _, rfl, _, rfl, ⟨h5, by omega⟩, _, rfl, .inr ⟨by omega, by omega⟩, _, rfl, h1, ?_⟩
      show Q (.b (decide ((x - y / h' * s) % w = 0)))
      have e : decide ((x - y / h' * s) % w = 0) = decide (rest w s h' (x, y) = (0, 0)) := by
        rw [decide_eq_decide]
        constructor
        · intro e
          exact Prod.ext e z
        · intro e
          injection e
      rw [e]
      exact h
  · exact h.elim
def S_far_spot : List D → (D → Prop) → Prop := fun ds Q => match ds with
  | [.p 0] => ∀ x y : Int, x.natAbs < 2 ^ 250 → y.natAbs < 2 ^ 250 → Q (pt (x, y))
  | _ => False
theorem len_far_spot : ∀ ds P, S_far_spot ds P → ds.length = P_far_spot.length := fun ds P h => by
  unfold S_far_spot at h
  split at h <;> first | rfl | exact h.elim
theorem d_far_spot (Df : DefIn K mg "_law_far_spot" s_far_spot P_far_spot) (T : Txt mg) (D_some_one : DOk P w K mg base "_law_some_one" s_some_one 2 P_some_one S_some_one) (D_sip : DefOk P w K mg base "_law_sip" 1 P_sip (spD K S_sip)) : DOk P w K mg base "_law_far_spot" s_far_spot 3 P_far_spot S_far_spot := by
  have SC := sc_far_spot
  refine dok (k := 2) Df sc_far_spot (len_far_spot) (body := fun f cdv A outer s H E hr hg => ⟨_, _, (pss_cons (ps_set (i := 1) SC.nd rfl (Or.inl rfl) (pe_callD D_some_one.d (hr.mono (by decide)) hg (pa_cons (pv 0) (pa_cons (pe_lst (pa_cons pe_int (pa_cons pe_int (pa_cons (pe_op op_pow pe_int pe_int) (pa_cons (pe_op op_pow pe_int pe_int) pa_nil))))) pa_nil)))) (pss_one (ps_ret (pe_tup (pa_cons (pe_op op_sub (pe_callD D_sip.d (hr.mono (by decide)) hg (pa_cons (pv 0) (pa_cons (pe_op op_mul pe_int (pv 1)) pa_nil))) (pv 1)) (pa_cons (pe_op op_sub (pe_callD D_sip.d (hr.mono (by decide)) hg (pa_cons (pv 0) (pa_cons (pe_op op_mul pe_int (pv 1)) pa_nil))) (pv 1)) pa_nil)))))), (s_seq (s_asg (e_call (a_cons e_var (a_cons (e_f (f_lst (a_cons e_int (a_cons e_int (a_cons (e_op o_pow e_int e_int) (a_cons (e_op o_pow e_int e_int) a_nil)))))) a_nil))) g_name) (s_ret (e_tup (a_cons (e_op o_sub (e_call (a_cons e_var (a_cons (e_op o_mul e_int e_var) a_nil))) e_var) (a_cons (e_op o_sub (e_call (a_cons e_var (a_cons (e_op o_mul e_int e_var) a_nil))) e_var) a_nil))))), ?_⟩)
  clear hr hg
  intro ds Q h
  unfold S_far_spot at h
  split at h
  · refine ⟨⟨by decide, by decide, by decide⟩, ⟨by decide, by decide, by decide⟩, by show 4 ≤ 100000; decide, ⟨by show 0 < 4; decide, by show 4 < 1000000; decide⟩, fun x hx => ?_⟩
    obtain ⟨v, rfl, v0, v1⟩ : ∃ v : Int, x = .i v ∧ 0 < 2 * v ∧ 2 * v < 2 ^ 250 := by
      simp only [List.mem_cons, List.not_mem_nil, or_false] at hx
      rcases hx with rfl | rfl | rfl | rfl <;> exact ⟨_, rfl, by decide +kernel, by decide +kernel⟩
    dsimp only [wgName, put]
    exact ⟨.inl ⟨by decide, by decide⟩, ⟨v0, v1⟩, fun r r0 r1 => ⟨.inl ⟨by decide, by decide⟩, ⟨v0, v1⟩, fun q q0 q1 => ⟨by show 2 ≤ 100000; decide, h _ _ (by omega) (by omega)⟩⟩⟩
  · exact h.elim
/-- what may be multiplied -/
def CM (v : D) : Prop := ∀ w s h c d : Int, v = .t [.i w, .i s, .i h, .i c, .i d] → CMul w h
/-- a value that is no turned floor -/
def OddV (v : D) : Prop := NV v ∧ CM v ∧ (∀ L : List Pr, 0 < L.length → floorD L v = false) ∧ OutL.chkR v = true
def S_value : List D → (D → Prop) → Prop := fun ds Q => match ds with
  | [.p 0] => ∀ v, OddV v → Q v
  | _ => False
theorem len_value : ∀ ds P, S_value ds P → ds.length = P_value.length := fun ds P h => by
  unfold S_value at h
  split at h <;> first | rfl | exact h.elim
theorem d_value (Df : DefIn K mg "_law_value" s_value P_value) (T : Txt mg) (D_some_one : DOk P w K mg base "_law_some_one" s_some_one 2 P_some_one S_some_one) : DOk P w K mg base "_law_value" s_value 3 P_value S_value := by
  have SC := sc_value
  refine dok (k := 2) Df sc_value (len_value) (body := fun f cdv A outer s H E hr hg => ⟨_, _, (pss_cons (ps_set (i := 1) SC.nd rfl (Or.inl rfl) (pe_lst (pa_cons pe_non (pa_cons pe_bl (pa_cons pe_bl (pa_cons pe_int (pa_cons pe_int (pa_cons (pe_un un_neg pe_int) (pa_cons pe_int (pa_cons (pe_op op_pow pe_int pe_int) (pa_cons pe_str (pa_cons pe_str (pa_cons pe_str (pa_cons pe_str (pa_cons (pe_tup pa_nil) (pa_cons (pe_tup (pa_cons pe_int pa_nil)) (pa_cons (pe_tup (pa_cons pe_int (pa_cons pe_int pa_nil))) (pa_cons (pe_tup (pa_cons pe_int (pa_cons pe_bl pa_nil))) (pa_cons (pe_tup (pa_cons pe_int (pa_cons pe_int (pa_cons pe_int pa_nil)))) (pa_cons (pe_lst pa_nil) (pa_cons (pe_lst (pa_cons pe_int (pa_cons pe_int pa_nil))) pa_nil))))))))))))))))))))) (pss_one (ps_ret (pe_callD D_some_one.d (hr.mono (by decide)) hg (pa_cons (pv 0) (pa_cons (pe_op op_cat (pv 1) (pe_lst (pa_cons pe_dnewK (pa_cons (pe_disp (pps_cons pe_str pe_int pps_nil) rfl rfl (by decide) (by decide)) (pa_cons (pe_tup (pa_cons pe_non (pa_cons pe_int pa_nil))) (pa_cons (pe_tup (pa_cons pe_str (pa_cons pe_int pa_nil))) (pa_cons (pe_tup (pa_cons (pe_lst pa_nil) (pa_cons pe_int pa_nil))) (pa_cons (pe_tup (pa_cons (pe_tup (pa_cons pe_int (pa_cons pe_int pa_nil))) pa_nil)) (pa_cons (pe_tup (pa_cons pe_int (pa_cons pe_int (pa_cons pe_int pa_nil)))) (pa_cons (pe_tup (pa_cons pe_int (pa_cons pe_int (pa_cons pe_int (pa_cons pe_int (pa_cons pe_int pa_nil)))))) (pa_cons pe_str pa_nil))))))))))) pa_nil)))))), (s_seq (s_asg (e_f (f_lst (a_cons e_non (a_cons e_bl (a_cons e_bl (a_cons e_int (a_cons e_int (a_cons (e_un u_neg e_int) (a_cons e_int (a_cons (e_op o_pow e_int e_int) (a_cons e_str (a_cons e_str (a_cons e_str (a_cons e_str (a_cons (e_tup a_nil) (a_cons (e_tup (a_cons e_int a_nil)) (a_cons (e_tup (a_cons e_int (a_cons e_int a_nil))) (a_cons (e_tup (a_cons e_int (a_cons e_bl a_nil))) (a_cons (e_tup (a_cons e_int (a_cons e_int (a_cons e_int a_nil)))) (a_cons (e_f (f_lst a_nil)) (a_cons (e_f (f_lst (a_cons e_int (a_cons e_int a_nil)))) a_nil))))))))))))))))))))) g_name) (s_ret (e_call (a_cons e_var (a_cons (e_f (f_cat e_var (e_f (f_lst (a_cons DO.e_q0 (a_cons DO.e_q1 (a_cons (e_tup (a_cons e_non (a_cons e_int a_nil))) (a_cons (e_tup (a_cons e_str (a_cons e_int a_nil))) (a_cons (e_tup (a_cons (e_f (f_lst a_nil)) (a_cons e_int a_nil))) (a_cons (e_tup (a_cons (e_tup (a_cons e_int (a_cons e_int a_nil))) a_nil)) (a_cons (e_tup (a_cons e_int (a_cons e_int (a_cons e_int a_nil)))) (a_cons (e_tup (a_cons e_int (a_cons e_int (a_cons e_int (a_cons e_int (a_cons e_int a_nil)))))) (a_cons e_str a_nil))))))))))))) a_nil))))), ?_⟩)
  clear hr hg
  intro ds Q h
  unfold S_value at h
  split at h
  · rw [show startG N_value.length [.p 0] = [.d (.p 0), .u] from rfl]
    refine ⟨⟨by decide, by decide, by decide⟩, by show 0 ≤ 100000; decide, by show 1 ≤ 100000; decide, by show 2 ≤ 100000; decide, by show 2 ≤ 100000; decide, by show 3 ≤ 100000; decide, by show 0 ≤ 100000; decide, by show 2 ≤ 100000; decide, by show 19 ≤ 100000; decide, ?_⟩
    dsimp only [wgName, put]
    refine ⟨by show 2 ≤ 100000; decide, by show 2 ≤ 100000; decide, by show 0 ≤ 100000; decide, by show 2 ≤ 100000; decide, by show 2 ≤ 100000; decide, by show 1 ≤ 100000; decide, by show 3 ≤ 100000; decide, by show 5 ≤ 100000; decide, by show 9 ≤ 100000; decide, by show 28 ≤ 100000; decide, ⟨by show 0 < 28; decide, by show 28 < 1000000; decide⟩, fun x hx => ?_⟩
    simp only [List.cons_append, List.nil_append, List.mem_cons, List.not_mem_nil, or_false] at hx
    rcases hx with rfl | rfl | rfl | rfl | rfl | rfl | rfl | rfl | rfl | rfl | rfl | rfl | rfl | rfl | rfl | rfl | rfl | rfl | rfl | rfl | rfl | rfl | rfl | rfl | rfl | rfl | rfl | rfl
    all_goals
      refine h _ ⟨?_, fun w s h' c d e => ?_, fun L l0 => ?_, ?_⟩
      · repeat' (first | exact NV.n | exact NV.b _ | exact NV.i _ | exact NV.s _ | exact NV.q _ | refine NV.t (Nat.le_of_ble_eq_true rfl) ?_ | refine NV.l (Nat.le_of_ble_eq_true rfl) ?_ | exact rds_nil | refine rds_cons ?_ ?_ | exact RD.n | exact RD.b _ | exact RD.small (by decide) (by decide) | exact RD.s _ (by decide +kernel) | exact RD.t rds_nil | exact RD.l rds_nil | refine RD.t (rds_cons ?_ ?_) | refine RD.l (rds_cons ?_ ?_))
      · first | (cases e; done) | (cases e; exact .inl ⟨by decide, by decide⟩)
      · first
          | rfl
          | (refine decide_eq_false fun z => ?_
             have z := z.2.1
             rw [dbl_len] at z
             omega)
      · unfold OutL.chkR
        simp only [pyQ, py, pyA]
        decide +kernel
  · exact h.elim
end
end K40
namespace K40
variable [DL.TabsT]
open PySem PySem.Spec PyProof.Rows L2 Evl Lay ErrX DL TE DO ShM FlC
abbrev s_is_held : Stmt := top 64
abbrev N_is_held : List Str := ["_law_mine", "_law_floor_here", "_law_spot", "_law_told", "_law_index", "_law_is_back", "_law_push", "_law_own"]
abbrev P_is_held : List Str := ["_law_mine", "_law_floor_here", "_law_spot", "_law_told"]
theorem sc_is_held : FnScope N_is_held P_is_held (defScope s_is_held) := ⟨rfl, rfl, rfl, by decide +kernel, rfl, by decide +kernel, by decide +kernel⟩
section
variable {P : Program} {w : World} {K : PySem.W.Frag} {mg : Str → Option Value} {base : Heap} {CS : Addr}
def S_floor_copy (C : Nat → Addr) (CS : Addr) : List D → (D → Prop) → DE.ER0 → Prop := fun ds Q Er => match ds with
  | [a, x, y] => ∃ L : List Pr, a = shp CS L ∧ 0 < L.length ∧ L.length ≤ 7 ∧ NV x ∧ CM x ∧ (floorD L x = false → Er (C 7) (some (("given" : Str), x))) ∧ (floorD L x = true → ∃ w s h c d px py : Int, x = .t [.i w, .i s, .i h, .i c, .i d] ∧ IsLat w s h ∧ Fills w s h (dbl c d L) ∧ y = .t [.i px, .i py] ∧
      ∀ k : Nat, k < 2 * L.length → rest w s h ((dbl c d L).getD k (0, 0)) = rest w s h (px, py) → Q (.t [.i ((k : Int) % (L.length : Int)), .b (decide ((L.length : Int) ≤ (k : Int))), pt (px - ((dbl c d L).getD k (0, 0)).1, py - ((dbl c d L).getD k (0, 0)).2)]))
  | _ => False
theorem d_floor_copy {C fI : Nat → Addr} {on : Nat → Bool} (Df : DefIn K mg "floor_copy" s_floor_copy P_floor_copy) (T : Txt mg) (U : E24.Errs P K mg C fI on) (o7 : on 7 = true) (SG_len : DO.SpG P w K mg base CS "__len__" 1 (S_m_len CS))
    (D_is_turned_floor : DOk P w K mg base "is_turned_floor" s_is_turned_floor 5 P_is_turned_floor (S_is_turned_floor CS)) (D_check_cell : DOk P w K mg base "check_cell" s_check_cell 3 P_check_cell S_check_cell)
    (D_holder : DOk P w K mg base "holder" s_holder 2 P_holder S_holder) (D_both_cells : DOk P w K mg base "both_cells" s_both_cells 3 P_both_cells (S_both_cells CS)) :
    DE.PkG P w K mg base "floor_copy" s_floor_copy 19 P_floor_copy (DE.spDE K (S_floor_copy C CS)) := by
  have SC := sc_floor_copy
  refine DE.pkokG (k := 18) Df sc_floor_copy (fun ds P Er h => ?_) (body := fun f cdv A outer s H E Er hr hg tk => ⟨_, _, (pss_cons (ps_if (pt_not (pt_val (pe_callD D_is_turned_floor.d (hr.mono (by first | decide | omega)) hg (pa_cons (pv 0) (pa_cons (pv 1) pa_nil))))) (pss_one (ps_raise rfl tk (pmk_err (U.t 7 (by first | decide | omega) o7) (U.ok 7 (by first | decide | omega) o7) (U.ty 7 (by first | decide | omega) o7) (U.sub 7 (by first | decide | omega) o7) (hr.mono (by first | decide | omega)) (pa_cons (pv 1) pa_nil)))) pss_nil) (pss_cons (ps_expr (pe_callD D_check_cell.d (hr.mono (by first | decide | omega)) hg (pa_cons (pv 2) pa_nil))) (pss_cons (ps_asg (pe_callD D_holder.d (hr.mono (by first | decide | omega)) hg (pa_cons (pe_slice (DO.kx_slA K) (pv 1) po_none (po_some pe_int)) (pa_cons (pe_callD D_both_cells.d (hr.mono (by first | decide | omega)) hg (pa_cons (pv 0) (pa_cons (pv 1) pa_nil))) (pa_cons (pv 2) pa_nil)))) (kx_pgTup (n := 2) K rfl (pgs_cons (pg_name (i := 3) SC.nd rfl (Or.inl rfl)) (pgs_cons (pg_name (i := 4) SC.nd rfl (Or.inl rfl)) pgs_nil)) (by rfl))) (pss_one (ps_ret (pe_tup (pa_cons (pe_op op_mod (pv 3) (pe_callB (DO.cr_lenG SG_len (hr.mono (by first | decide | omega)) hg) (by rfl) T.z_len (by decide +kernel) (pa_cons (pv 0) pa_nil))) (pa_cons (pe_cmpR op_ge (pv 3) (pe_callB (DO.cr_lenG SG_len (hr.mono (by first | decide | omega)) hg) (by rfl) T.z_len (by decide +kernel) (pa_cons (pv 0) pa_nil)) (nomark _)) (pa_cons (pv 4) pa_nil))))))))), (DE.s_seq (DE.s_if (DE.t_not (DE.t_B (DE.e_call (DE.a_cons DE.e_var (DE.a_cons DE.e_var DE.a_nil))))) (DE.s_raise (DE.a_cons DE.e_var DE.a_nil)) DE.s_next) (DE.s_seq (DE.s_drop (DE.e_call (DE.a_cons DE.e_var DE.a_nil))) (DE.s_seq (DE.s_asg (DE.e_call (DE.a_cons (OutL.lift (DO.e_slA DL.e_var p_none (p_some DL.e_int))) (DE.a_cons (DE.e_call (DE.a_cons DE.e_var (DE.a_cons DE.e_var DE.a_nil))) (DE.a_cons DE.e_var DE.a_nil)))) (DE.g_tup (DE.gs_cons DE.g_name (DE.gs_cons DE.g_name DE.gs_nil)))) (DE.s_ret (DE.e_tup (DE.a_cons (DE.e_op o_mod DE.e_var (OutL.lift (DO.e_lenO' DL.e_var))) (DE.a_cons (DE.e_op o_ge DE.e_var (OutL.lift (DO.e_lenO' DL.e_var))) (DE.a_cons DE.e_var DE.a_nil)))))))), ?_⟩)
  · unfold S_floor_copy at h
    split at h <;> first | rfl | exact h.elim
  clear hr hg tk
  intro ds Q h
  unfold S_floor_copy at h
  split at h
  · rename_i a x y
    obtain ⟨L, rfl, l0, l7, nv, cm, h1, h2⟩ := h
    rw [show startG N_floor_copy.length [shp CS L, x, y] = [.d (shp CS L), .d x, .d y, .u, .u] from rfl]
    refine ⟨L, rfl, by omega, nv, cm, ?_⟩
    cases e : floorD L x with
    | false => exact ⟨fun _ => h1 e, fun z => nomatch z⟩
    | true =>
      obtain ⟨w', s', h', c, d, px, py, rfl, I, F, rfl, h3⟩ := h2 e
      refine ⟨(fun z => nomatch z), fun _ => ?_⟩
      have ec : DL.cutD [.i w', .i s', .i h', .i c, .i d] none (some (3 : Int)) = [.i w', .i s', .i h'] := rfl
      refine ⟨L, rfl, by omega, ?_⟩
      rw [ec]
      refine ⟨dbl c d L, rfl, I, F, by rw [dbl_len]; omega, fun k kl er => ?_⟩
      rw [dbl_len] at kl
      refine ⟨rfl, ?_⟩
      dsimp only [wgName, put]
      refine ⟨⟨_, _, rfl⟩, L, rfl, by omega, ⟨_, rfl, by omega, by omega⟩, by omega, ?_⟩
      exact ⟨⟨_, _, rfl⟩, L, rfl, by omega, ⟨_, rfl, by omega, by omega⟩, by show 3 ≤ 100000; decide, h3 k kl er⟩
  · exact h.elim
theorem pyA_rng (l : List Nat) : DL.pyA (l.map fun k => D.i ((k : Nat) : Int)) = some (l.map fun k => PyData.int ((k : Nat) : Int)) := by
  induction l with
  | nil => simp only [List.map_nil, DL.pyA]
  | cons x xs ih =>
    simp only [List.map_cons, DL.pyA, DL.py, ih]
    rfl
theorem notIn_rng {n m : Nat} (h : n < m) (m7 : m < 8) {Q : D → Prop} (q : Q (.b false)) : wNotInD (.i (n : Int)) (.l ((List.range m).map fun k => D.i ((k : Nat) : Int))) Q := by
  have a : ∀ m < 8, SeqAt.shaped (.list ((List.range m).map fun k => PyData.int ((k : Nat) : Int))) = true := by decide +kernel
  have b : ∀ m < 8, ∀ n < m, (((List.range m).map fun k => PyData.int ((k : Nat) : Int)).any fun z => PyData.eqv z (.int ((n : Nat) : Int))) = true := by decide +kernel
  have c : ∀ m < 8, ∀ n < m, SeqAt.shaped (.int ((n : Nat) : Int)) = true := by decide +kernel
  refine ⟨.int n, _, _, rfl, rfl, pyA_rng _, c m m7 n h, a m m7, ?_⟩
  rw [b m m7 n h]
  exact q
def S_is_held (CS : Addr) : List D → (D → Prop) → Prop := fun ds Q => match ds with
  | [a, .t [.i w, .i s, .i h, .i c, .i d], .t [.i px, .i py], .t [.i idx, .b bk, .t [.i u, .i v]]] => ∃ (L : List Pr) (n : Nat), a = shp CS L ∧ L.length ≤ 7 ∧ IsLat w s h ∧ idx = n ∧ n < L.length ∧ rest w s h (u, v) = (0, 0) ∧
      (if bk = true then c - (L.getD n (0, 0)).1 + u = px ∧ d - (L.getD n (0, 0)).2 + v = py else (L.getD n (0, 0)).1 + u = px ∧ (L.getD n (0, 0)).2 + v = py) ∧ Q (.b true)
  | _ => False
theorem len_is_held {CS : Addr} : ∀ ds P, S_is_held CS ds P → ds.length = P_is_held.length := fun ds P h => by
  unfold S_is_held at h
  split at h <;> first | rfl | exact h.elim
theorem d_is_held (Df : DefIn K mg "_law_is_held" s_is_held P_is_held) (T : Txt mg) (PR_cells : DO.PropD P w K mg base CS "cells" "_cells" 1) (D_is_of : DOk P w K mg base "_law_is_of" s_is_of 1 P_is_of S_is_of) (D_half_turn : DOk P w K mg base "_law_half_turn" s_half_turn 1 P_half_turn S_half_turn) : DOk P w K mg base "_law_is_held" s_is_held 3 P_is_held (S_is_held CS) := by
  have SC := sc_is_held
  refine dok (k := 2) Df sc_is_held (len_is_held) (body := fun f cdv A outer s H E hr hg => ⟨_, _, (pss_cons (ps_if (PW.pt (pw_or (pt_not (pt_val (pe_callB (kx_isi K) (by rfl) T.z_isinstance (by decide +kernel) (pa_cons (pv 3) (pa_cons (pe_gty T.z_tuple PyProof.Rows.Boot.«tuple») pa_nil))))) (pw_or (pt_cmpR op_ne (pe_callB (kx_len K) (by rfl) T.z_len (by decide +kernel) (pa_cons (pv 3) pa_nil)) pe_int (nomark _)) (pw_or1 (pt_cmpR (kx_notInD K hr.u65) (pe_callB (kx_repr K hg hr.units) (by rfl) T.z_repr (by decide +kernel) (pa_cons (pe_ix (kx_ixT K) (pv 3) pe_int (fun _ _ => rfl)) pa_nil)) (pe_lst (pa_cons pe_str (pa_cons pe_str pa_nil))) (by with_unfolding_all rfl)))))) (pss_one (ps_ret pe_bl)) pss_nil) (pss_cons (ps_asg (pv 3) (kx_pgTup (n := 3) K rfl (pgs_cons (pg_name (i := 4) SC.nd rfl (Or.inl rfl)) (pgs_cons (pg_name (i := 5) SC.nd rfl (Or.inl rfl)) (pgs_cons (pg_name (i := 6) SC.nd rfl (Or.inl rfl)) pgs_nil))) (by rfl))) (pss_cons (ps_if (PW.pt (pw_or (pt_cmpR (kx_notInD K hr.u65) (pv 4) (pe_listRg rfl (by rfl) T.z_list (prg_1 (by rfl) T.z_range (pe_callB (kx_len K) (by rfl) T.z_len (by decide +kernel) (pa_cons (DO.pe_propD PR_cells (hr.mono (by decide)) (pv 0) (by rfl)) pa_nil)))) (by with_unfolding_all rfl)) (pw_or1 (pt_not (pt_val (pe_callD D_is_of.d (hr.mono (by decide)) hg (pa_cons (pe_slice (DO.kx_slA K) (pv 1) po_none (po_some pe_int)) (pa_cons (pv 6) pa_nil)))))))) (pss_one (ps_ret pe_bl)) pss_nil) (pss_cons (ps_set (i := 7) SC.nd rfl (Or.inl rfl) (pe_ifExp (pt_val (pv 5)) (pe_ix (kx_ixL K) (pe_callD D_half_turn.d (hr.mono (by decide)) hg (pa_cons (DO.pe_propD PR_cells (hr.mono (by decide)) (pv 0) (by rfl)) (pa_cons (pe_slice (DO.kx_slA K) (pv 1) (po_some pe_int) po_none) pa_nil))) (pv 4) (fun _ _ => rfl)) (pe_ix (kx_ixT K) (DO.pe_propD PR_cells (hr.mono (by decide)) (pv 0) (by rfl)) (pv 4) (fun _ _ => rfl)))) (pss_one (ps_ret (pe_cmpR (kx_eqD K hr.units) (pe_tup (pa_cons (pe_op op_add (pe_ix (kx_ixT K) (pv 7) pe_int (fun _ _ => rfl)) (pe_ix (kx_ixT K) (pv 6) pe_int (fun _ _ => rfl))) (pa_cons (pe_op op_add (pe_ix (kx_ixT K) (pv 7) pe_int (fun _ _ => rfl)) (pe_ix (kx_ixT K) (pv 6) pe_int (fun _ _ => rfl))) pa_nil))) (pv 2) (nomark _)))))))), (s_seq (s_if (t_or (t_not (t_B (e_isi (fun _ _ => tab_tuple) e_var))) (t_or (t_test (e_op o_neS (e_cb c_len (a_cons e_var a_nil)) e_int)) (t_test (e_op o_notInD (e_cb c_repr (a_cons (e_op o_ixT e_var e_int) a_nil)) (e_f (f_lst (a_cons e_str (a_cons e_str a_nil)))))))) (s_ret e_bl) s_next) (s_seq (s_asg e_var (g_tup (gs_cons g_name (gs_cons g_name (gs_cons g_name gs_nil))))) (s_seq (s_if (t_or (t_test (e_op o_notInD e_var (e_f (DO.f_lstRg (e_cb c_len (a_cons (DO.e_prop1 e_var) a_nil)))))) (t_not (t_B (e_call (a_cons (DO.e_slA e_var p_none (p_some e_int)) (a_cons e_var a_nil)))))) (s_ret e_bl) s_next) (s_seq (s_asg (e_if (t_B e_var) (e_op o_ixL (e_call (a_cons (DO.e_prop1 e_var) (a_cons (DO.e_slA e_var (p_some e_int) p_none) a_nil))) e_var) (e_op o_ixT (DO.e_prop1 e_var) e_var)) g_name) (s_ret (e_op o_eqD (e_tup (a_cons (e_op o_add (e_op o_ixT e_var e_int) (e_op o_ixT e_var e_int)) (a_cons (e_op o_add (e_op o_ixT e_var e_int) (e_op o_ixT e_var e_int)) a_nil))) e_var)))))), ?_⟩)
  clear hr hg
  intro ds Q h
  unfold S_is_held at h
  split at h
  · rename_i a w s h' c d px py idx bk u v
    obtain ⟨L, n, rfl, l7, I, rfl, nl, r0, own, h⟩ := h
    rw [show startG N_is_held.length [shp CS L, .t [.i w, .i s, .i h', .i c, .i d], .t [.i px, .i py], .t [.i (n : Int), .b bk, .t [.i u, .i v]]] = [.d (shp CS L), .d (.t [.i w, .i s, .i h', .i c, .i d]), .d (.t [.i px, .i py]), .d (.t [.i (n : Int), .b bk, .t [.i u, .i v]]), .u, .u, .u, .u] from rfl]
    refine ⟨(fun z => nomatch z), fun _ => ⟨(fun z => nomatch z), fun _ => ?_⟩⟩
    refine ⟨_, L2.atI_nat (j := 1) rfl, .bool bk, rfl, by cases bk <;> rfl, by cases bk <;> decide, by cases bk <;> decide +kernel, by show 2 ≤ 100000; decide, ?_⟩
    refine ⟨.str (PyData.bool bk).shown, _, [.str "True", .str "False"], rfl, rfl, by simp only [DL.pyA, DL.py]; rfl, by cases bk <;> decide +kernel, by decide +kernel, ⟨fun z => absurd z (by cases bk <;> decide +kernel), fun _ => ?_⟩⟩
    refine ⟨rfl, ?_⟩
    dsimp only [wgName, put]
    refine ⟨_, rfl, ⟨by omega, by show (((L.map pt).length : Nat) : Int) ≤ _; rw [List.length_map]; omega⟩, ?_⟩
    rw [show ((((L.map pt).length : Nat) : Int)).toNat = L.length by rw [List.length_map]; rfl]
    refine notIn_rng nl (by omega) ⟨(fun z => nomatch z), fun _ => ?_⟩
    refine ⟨I, ?_⟩
    rw [decide_eq_true r0]
    refine ⟨(fun z => nomatch z), fun _ => ?_⟩
    dsimp only [wNext, wgName, put]
    have gl : L[n]? = some (L.getD n (0, 0)) := by rw [List.getD_eq_getElem?_getD, List.getElem?_eq_getElem nl]; rfl
    have at1 : L2.atI (L.map pt) ((n : Nat) : Int) = some (pt (L.getD n (0, 0))) := L2.atI_nat (by rw [List.getElem?_map, gl]; rfl)
    have at2 : L2.atI ((L.map fun p => (c - p.1, d - p.2)).map pt) ((n : Nat) : Int) = some (pt (c - (L.getD n (0, 0)).1, d - (L.getD n (0, 0)).2)) := L2.atI_nat (by rw [List.getElem?_map, List.getElem?_map, gl]; rfl)
    cases bk with
    | true =>
      rw [if_pos rfl] at own
      refine ⟨fun _ => ⟨_, rfl, L, rfl, by omega, _, at2, ?_⟩, fun z => nomatch z⟩
      dsimp only [wgName, put]
      refine ⟨_, rfl, _, rfl, _, rfl, _, rfl, by show 2 ≤ 100000; decide, eqD_of (ID.p2 (k := 0)) (ID.p2 (k := 0)) (fun _ => h) fun ne => absurd ?_ ne⟩
      rw [← own.1, ← own.2]
    | false =>
      rw [if_neg (by decide)] at own
      refine ⟨(fun z => nomatch z), fun _ => ⟨_, rfl, _, at1, ?_⟩⟩
      dsimp only [wgName, put]
      refine ⟨_, rfl, _, rfl, _, rfl, _, rfl, by show 2 ≤ 100000; decide, eqD_of (ID.p2 (k := 0)) (ID.p2 (k := 0)) (fun _ => h) fun ne => absurd ?_ ne⟩
      rw [← own.1, ← own.2]
  · exact h.elim
end
end K40
namespace SetM
variable [DL.TabsT]
open PySem PySem.Spec PyProof.Rows L2 PpSet
section
variable {P : Program} {w : World}
/-- an int, or a truth value as the number that it is -/
def num : Int → Value → Bool
  | k, .int n _ => n == k
  | k, .bool b => b2 b == k
  | _, _ => false
theorem num_of {k : Int} {v : Value} (h : num k v = true) : (∃ t, v = .int k t) ∨ ∃ b, v = .bool b ∧ b2 b = k := by
  unfold num at h
  split at h
  · rename_i n t
    exact .inl ⟨t, by rw [eq_of_beq h]⟩
  · rename_i b
    exact .inr ⟨b, rfl, eq_of_beq h⟩
  · cases h
theorem b2_inj (a b : Bool) : (a == b) = decide (b2 a = b2 b) := by cases a <;> cases b <;> rfl
theorem dec_beq (a b : Int) : (a == b) = decide (a = b) := by
  by_cases e : a = b
  · rw [decide_eq_true e, e]
    exact beq_self_eq_true b
  · rw [decide_eq_false e]
    exact beq_eq_false_iff_ne.mpr e
def numK (P : Program) (w : World) : PySem.KeyKind P w Int where
  is := num
  hash := hashInt
  inj := fun v a b ha hb => by
    rcases num_of ha with ⟨t, rfl⟩ | ⟨x, rfl, e⟩
    · exact (eq_of_beq hb)
    · have : b2 x = b := eq_of_beq hb
      exact e.symm.trans this
  byValue := fun k v h => by
    rcases num_of h with ⟨t, rfl⟩ | ⟨x, rfl, e⟩ <;> rfl
  pyHash := fun {A E s k v Q} hv h => by
    rcases num_of hv with ⟨t, rfl⟩ | ⟨x, rfl, e⟩
    · exact wpAny_pyHash_int h
    · subst e
      exact pyHash_bool h
  eqBool := fun {A E s a b u v Q} hu hv h => by
    rcases num_of hu with ⟨t, rfl⟩ | ⟨x, rfl, e⟩ <;> rcases num_of hv with ⟨t2, rfl⟩ | ⟨y, rfl, e2⟩
    · exact SeqAt.EqAt.int_int a t b t2 _ _ _ _ (by rw [dec_beq]; exact h)
    · subst e2
      exact SeqAt.EqAt.int_bool a t y _ _ _ _ (by rw [dec_beq]; exact h)
    · subst e
      exact SeqAt.EqAt.bool_int x b t2 _ _ _ _ (by rw [dec_beq]; exact h)
    · subst e e2
      exact SeqAt.EqAt.bool_bool x y _ _ _ _ (by rw [b2_inj]; exact h)
  «strs» := fun k x t v h => absurd h Bool.false_ne_true
abbrev IsM (P : Program) (w : World) (h : Heap) (k : List Int) (a : Addr) : Prop := IsTupleKey (numK P w) h k a
theorem calm_num {k : List Int} {vs : List Value} (h : ItemsAre (numK P w) k vs) : ∀ v ∈ vs, ∀ n, ofAClassStatement n v = pure false ∧ hashByValue n v = pure true := by
  induction h with
  | nil => intro v hv; cases hv
  | @cons a u ks us h1 _ ih =>
    intro v hv n
    rcases List.mem_cons.mp hv with rfl | hv
    · have h2 : num a v = true := h1
      clear h1
      rcases num_of h2 with ⟨t, rfl⟩ | ⟨x, rfl, _⟩
      · exact ⟨by cases n <;> rfl, by cases n <;> rfl⟩
      · exact ⟨by cases n <;> rfl, by cases n <;> rfl⟩
    · exact ih v hv n
theorem isM_keep {h h' : Heap} {k : List Int} {b : Addr} (x : IsM P w h k b) (hk : ∀ c o, h.get? c = some o → h'.get? c = some o) : IsM P w h' k b :=
  let ⟨o, items, n, ho, r⟩ := x
  ⟨o, items, n, hk b o ho, r⟩
theorem isM_off {h h' : Heap} {k : List Int} {a b : Addr} {o : Obj} {es : Array (Int × Value)} {ep : Nat} {t : SetTable} (x : IsM P w h k b) (ho : h.get? a = some o) (hd : o.data = .set es ep t) (sb : Heap.SameBut a h h') : IsM P w h' k b := by
  obtain ⟨o2, items, n, ho2, c2, d2, i2⟩ := x
  refine ⟨o2, items, n, (sb.2 b fun e => ?_).trans ho2, c2, d2, i2⟩
  rw [e, ho] at ho2
  rw [← Option.some.inj ho2, hd] at d2
  cases d2
variable {A : Around} {E : Value → Shared → Prop} {s : Shared}
theorem no_class {k : List Int} {b : Addr} {Q : Bool → Shared → Prop} (x : IsM P w s.heap k b) (q : Q false s) : wpAny (model P w) A (ofAClassStatement 8 (.ref b)) Q E s := by
  have ty := x.typeIs
  obtain ⟨o, items, n, ho, _, hd, hi⟩ := x
  have al := calm_num hi
  unfold ofAClassStatement
  refine wpAny_bind (wpAny_typeOf ty ?_)
  dsimp only
  have tt : (("tuple" : String) == "tuple") = true := by decide
  simp only [tt, if_true, Bool.not_true, Bool.false_eq_true, if_false]
  show wpAny _ _ (seqItems? (.ref b) >>= _) _ _ s
  refine wpAny_bind (wpAny_seqItems ho hd ?_)
  dsimp only
  refine wpAny_bind ?_
  show wpAny _ _ (forIn items _ _) _ _ s
  rw [← Array.forIn_toList]
  refine wpAny_forIn_list _ (fun rest r s1 => r.1 = none ∧ s1 = s ∧ ∀ v ∈ rest, v ∈ items.toList) _ ?_ ?_ _ _ ⟨rfl, rfl, fun v z => z⟩
  · rintro v rest r s1 ⟨hr, rfl, sub⟩
    rw [(al v (sub v List.mem_cons_self) _).1]
    refine wpAny_bind (wpAny_pure ?_)
    simp only [Bool.false_eq_true, if_false]
    exact wpAny_pure ⟨rfl, rfl, fun u hu => sub u (List.mem_cons_of_mem _ hu)⟩
  · rintro ⟨r1, r2⟩ s1 ⟨hr, rfl, _⟩
    cases (show r1 = none from hr)
    exact wpAny_pure q
theorem by_value {k : List Int} {b : Addr} {Q : Bool → Shared → Prop} (x : IsM P w s.heap k b) (q : Q true s) : wpAny (model P w) A (hashByValue 8 (.ref b)) Q E s := by
  have ty := x.typeIs
  obtain ⟨o, items, n, ho, _, hd, hi⟩ := x
  have al := calm_num hi
  unfold hashByValue
  refine wpAny_bind (wpAny_specialOf ty F.slot_tuple_hash.lookup ?_)
  show wpAny _ _ (seqItems? (.ref b) >>= _) _ _ s
  refine wpAny_bind (wpAny_seqItems ho hd (wpAny_bind ?_))
  show wpAny _ _ (forIn items _ _) _ _ s
  rw [← Array.forIn_toList]
  refine wpAny_forIn_list _ (fun rest r s1 => r.1 = none ∧ s1 = s ∧ ∀ v ∈ rest, v ∈ items.toList) _ ?_ ?_ _ _ ⟨rfl, rfl, fun v z => z⟩
  · rintro v rest r s1 ⟨hr, rfl, sub⟩
    rw [(al v (sub v List.mem_cons_self) _).2]
    refine wpAny_bind (wpAny_pure ?_)
    simp only [Bool.not_true, Bool.false_eq_true, if_false]
    exact wpAny_pure ⟨rfl, rfl, fun u hu => sub u (List.mem_cons_of_mem _ hu)⟩
  · rintro ⟨r1, r2⟩ s1 ⟨hr, rfl, _⟩
    cases (show r1 = none from hr)
    exact wpAny_pure q
theorem unseen {k : List Int} {b : Addr} {Q : Bool → Shared → Prop} (x : IsM P w s.heap k b) {ys : List Value} (hy : ∀ y ∈ ys, ∃ k' c, y = Value.ref c ∧ IsM P w s.heap k' c) (q : Q false s) : wpAny (model P w) A (searchCouldBeSeen (.ref b) ys) Q E s := by
  unfold searchCouldBeSeen
  refine wpAny_bind ?_
  refine wpAny_forIn_list _ (fun rest r s1 => r.1 = none ∧ s1 = s ∧ ∀ y ∈ rest, y ∈ ys) _ ?_ ?_ _ _ ⟨rfl, rfl, fun v z => z⟩
  · rintro v rest r s1 ⟨hr, rfl, sub⟩
    obtain ⟨k2, c, rfl, hc⟩ := hy v (sub v List.mem_cons_self)
    have rest' : ∀ y ∈ rest, y ∈ ys := fun u hu => sub u (List.mem_cons_of_mem _ hu)
    dsimp only
    by_cases hv : (b == c || (carriedByValue (.ref b) && carriedByValue (.ref c))) = true
    · exact wp_if_pos hv (wpAny_pure ⟨rfl, rfl, rest'⟩)
    · refine wp_if_neg hv (wpAny_bind (wpAny_eqIsQuiet_tuple x ?_))
      simp only [Bool.not_true, Bool.false_eq_true, if_false]
      refine wpAny_bind (wpAny_eqIsQuiet_tuple hc ?_)
      simp only [Bool.not_true, Bool.false_eq_true, if_false]
      refine wpAny_bind (no_class x ?_)
      simp only [Bool.false_eq_true, if_false]
      refine wpAny_bind (no_class hc ?_)
      simp only [Bool.false_eq_true, if_false]
      exact wpAny_pure ⟨rfl, rfl, rest'⟩
  · rintro ⟨r1, r2⟩ s1 ⟨hr, rfl, _⟩
    cases (show r1 = none from hr)
    exact wpAny_pure q
/-- the set of tuples at m -/
structure Bed (P : Program) (w : World) (h : Heap) (m : Addr) (Ks : List (Addr × List Int)) (rows : Array (Int × Value)) (era : Nat) (tab : SetTable) : Prop where
  ob : ∃ o, h.get? m = some o ∧ o.ExactSet ∧ o.data = .set rows era tab
  rws : rows.toList = rowsOf P w Ks
  tok : TabOk tab (Ks.map fun p => thash P w p.2)
  nd : (Ks.map (·.2)).Nodup
  tup : ∀ p ∈ Ks, IsM P w h p.2 p.1
  pln : tab.plain = true
  ord : w.params.followText "set-order" = true ∨ tab.led = true
  space : Ks.length * 5 < tab.mask * 3
  few : Ks.length < 64
variable {m : Addr} {Ks : List (Addr × List Int)} {rows : Array (Int × Value)} {era : Nat} {tab : SetTable}
theorem rows_len (e : rows.toList = rowsOf P w Ks) : rows.size = Ks.length := by
  rw [← Array.length_toList, e]
  unfold rowsOf
  rw [List.length_map]
theorem rows_at (e : rows.toList = rowsOf P w Ks) {i : Nat} {p : Addr × List Int} (h : Ks[i]? = some p) : rows[i]? = some (thash P w p.2, Value.ref p.1) := by
  rw [← Array.getElem?_toList, e]
  unfold rowsOf
  rw [List.getElem?_map, h]
  rfl
theorem fits_of (hs : tab.place.size = rows.size) (hd : tab.dummies = #[]) (le : rows.size ≤ tab.mask) : tab.fits rows.size = true := by
  unfold SetTable.fits SetTable.fill
  rw [hd, Bool.and_eq_true, beq_iff_eq, decide_eq_true_eq]
  exact ⟨hs, by show tab.place.size + 0 ≤ tab.mask; omega⟩
theorem Bed.sz (R : Bed P w s.heap m Ks rows era tab) : tab.place.size = Ks.length := by
  have z := R.tok.sz
  rwa [List.length_map] at z
theorem Bed.fits (R : Bed P w s.heap m Ks rows era tab) : tab.fits rows.size = true := by
  have z := rows_len R.rws
  have z2 := R.sz
  have z3 := R.space
  exact fits_of (by omega) R.tok.dm (by omega)
theorem Bed.stays (R : Bed P w s.heap m Ks rows era tab) : ¬ tab.gaveWay = true := by
  unfold SetTable.gaveWay
  rw [mask_odd R.tok.mok]
  decide
/-- the way through the table, with the wish to add -/
theorem look (R : Bed P w s.heap m Ks rows era tab) {x : Addr} {k : List Int} (hx : IsM P w s.heap k x) (hu : A.units < cLine) {N : Nat} (hN : N < 10 * SetTable.turns tab.mask)
    (free : way tab.mask (thash P w k) N ∉ tab.place.toList) (full : ∀ c, c < N → way tab.mask (thash P w k) c ∈ tab.place.toList) {Q : SetFound → Shared → Prop}
    (yes : k ∈ Ks.map (·.2) → Q (.there none) s) (no : k ∉ Ks.map (·.2) → Q (.free (way tab.mask (thash P w k) N) false) s) :
    ∀ (fuel c : Nat) (at' : Option SetTable.Probe), at'.getD (tab.probeStart (thash P w k)) = nth tab.mask (runAt tab.mask (SetTable.bits (thash P w k) % (tab.mask + 1)) (SetTable.bits (thash P w k))) c → c ≤ N → N - c < fuel →
      (∀ (i : Nat) p, Ks[i]? = some p → p.2 = k → ∃ c', c ≤ c' ∧ c' < N ∧ tab.place.toList[i]? = some (way tab.mask (thash P w k) c')) →
      wpAny (model P w) A (setSearchFrom m (.ref x) (thash P w k) true fuel at') Q E s := by
  intro fuel
  induction fuel with
  | zero => exact fun c _ _ _ lt _ => absurd lt (Nat.not_lt_zero _)
  | succ fuel ih =>
    intro c at' hat hc lt held
    obtain ⟨ob, hob, ex, dat⟩ := R.ob
    rw [setSearchFrom_succ]
    refine wpAny_bind (wpAny_setState_of hob dat R.fits ?_)
    dsimp only
    refine wp_if_neg R.stays ?_
    try refine wpAny_bind (wpAny_pure ?_)
    generalize hp0 : runAt tab.mask (SetTable.bits (thash P w k) % (tab.mask + 1)) (SetTable.bits (thash P w k)) = p0 at hat
    have wayq : ∀ q, way tab.mask (thash P w k) q = (nth tab.mask p0 q).j := fun q => by rw [← hp0]
    have plain : (nth tab.mask p0 c).dummy = none := by
      have step : ∀ (n : Nat) (p : SetTable.Probe), p.dummy = none → (nth tab.mask p n).dummy = none := by
        intro n
        induction n with
        | zero => exact fun _ h => h
        | succ n ihn =>
          intro p h
          refine ihn (adv tab.mask p) ?_
          unfold adv
          split <;> exact h
      refine step c _ ?_
      rw [← hp0]
      rfl
    have sum : ∀ q, nth tab.mask (nth tab.mask p0 c) q = nth tab.mask p0 (c + q) := fun q => (nth_add tab.mask c p0 q).symm
    have got := go_spec tab R.tok.ris R.tok.dm (fun i => (rows[i]?.map (·.1)).getD 0) (thash P w k) (10 * SetTable.turns tab.mask) (N - c) (nth tab.mask p0 c) plain (by omega)
      (fun q hq => by rw [sum, ← wayq]; exact full (c + q) (by omega)) (by rw [sum, ← wayq, show c + (N - c) = N by omega]; exact free)
    have hash : ∀ (i : Nat) p, Ks[i]? = some p → (rows[i]?.map (·.1)).getD 0 = thash P w p.2 := fun i p hp => by rw [rows_at R.rws hp]; rfl
    rcases got with ⟨q, i, hq, hi, hh, first, found⟩ | ⟨none', found⟩
    · have prb : tab.probe (fun i => (rows[i]?.map (·.1)).getD 0) (thash P w k) (at'.getD (tab.probeStart (thash P w k))) = some (.candidate (way tab.mask (thash P w k) (c + q)) i (nth tab.mask p0 (c + (q + 1)))) := by
        rw [hat, wayq, ← sum, ← sum]
        exact found
      rw [prb]
      dsimp only
      rw [sum, ← wayq] at hi
      have il : i < Ks.length := by
        have z1 := (List.getElem?_eq_some_iff.mp hi).1
        have z2 := R.sz
        rw [Array.length_toList] at z1
        omega
      have hKi : Ks[i]? = some Ks[i] := List.getElem?_eq_getElem il
      generalize Ks[i] = pr at hKi
      have mem := List.mem_of_getElem? hKi
      have tail : wpAny (model P w) A (searchRest m (.ref x) (thash P w k) true fuel rows tab (way tab.mask (thash P w k) (c + q)) i (nth tab.mask p0 (c + (q + 1)))) Q E s := by
        unfold searchRest
        rw [rows_at R.rws hKi]
        dsimp only
        refine wpAny_bind (wpAny_holding (wpAny_eqBool_tuple hu (R.tup pr mem) hx ?_))
        refine wpAny_bind (wpAny_setState_of hob dat R.fits ?_)
        dsimp only
        by_cases hk : pr.2 = k
        · exact wp_if_pos (by simp [hk]) (wpAny_pure (yes (List.mem_map.mpr ⟨pr, mem, hk⟩)))
        · refine wp_if_neg (by simp [hk]) ?_
          try refine wpAny_bind (wpAny_pure ?_)
          rw [sameMem]
          dsimp only
          have live := slot_live R.tok.ris hi
          simp only [if_true, live, rows_at R.rws hKi]
          refine wpAny_bind (wpAny_isSame_ref_self (wpAny_bind (wpAny_pure ?_)))
          simp only [if_true]
          refine wp_if_neg (by simp [hk]) ?_
          refine ih (c + (q + 1)) _ (by rw [hp0]; rfl) (by omega) (by omega) fun i0 p1 h0 hk0 => ?_
          obtain ⟨c', b1, b2, b3⟩ := held i0 p1 h0 hk0
          refine ⟨c', ?_, b2, b3⟩
          rcases Nat.lt_trichotomy c' (c + q) with z | z | z
          · refine absurd ((hash i0 p1 h0).trans (congrArg (thash P w) hk0)) (first (c' - c) i0 (by omega) ?_)
            rw [sum, ← wayq, show c + (c' - c) = c' by omega]
            exact b3
          · rw [z] at b3
            have l0 := slot_live R.tok.ris b3
            rw [live] at l0
            injection l0 with l0
            rw [← l0, hKi] at h0
            exact absurd ((congrArg Prod.snd (Option.some.inj h0)).trans hk0) hk
          · omega
      by_cases led : tab.led = true
      · refine wp_if_neg (by simp [led]) ?_
        try refine wpAny_bind (wpAny_pure ?_)
        exact tail
      · refine wp_if_pos (by simp [led]) (wpAny_bind (unseen hx (fun y hy => ?_) ?_))
        · obtain ⟨en, hen, rfl⟩ := List.mem_map.mp hy
          have inr : en ∈ rows.toList := by
            have : en ∈ rows ∧ en.1 = thash P w k := by simpa using hen
            simpa using this.1
          rw [R.rws] at inr
          obtain ⟨p2, m2, rfl⟩ := List.mem_map.mp inr
          exact ⟨p2.2, p2.1, rfl, R.tup p2 m2⟩
        · refine wp_if_neg (by decide) ?_
          try refine wpAny_bind (wpAny_pure ?_)
          exact tail
    · have prb : tab.probe (fun i => (rows[i]?.map (·.1)).getD 0) (thash P w k) (at'.getD (tab.probeStart (thash P w k))) = some (.empty (way tab.mask (thash P w k) N) none) := by
        have e2 : way tab.mask (thash P w k) N = (nth tab.mask (nth tab.mask p0 c) (N - c)).j := by rw [sum, ← wayq, show c + (N - c) = N by omega]
        rw [hat, e2]
        exact found
      rw [prb]
      dsimp only
      refine wpAny_pure (no fun hm => ?_)
      obtain ⟨p1, m1, hk1⟩ := List.mem_map.mp hm
      obtain ⟨i0, l0, e0⟩ := List.getElem_of_mem m1
      have h0 : Ks[i0]? = some p1 := by rw [List.getElem?_eq_getElem l0, e0]
      obtain ⟨c', b1, b2, b3⟩ := held i0 p1 h0 hk1
      refine none' (c' - c) i0 (by omega) ?_ ((hash i0 p1 h0).trans (congrArg (thash P w) hk1))
      rw [sum, ← wayq, show c + (c' - c) = c' by omega]
      exact b3
theorem seek (R : Bed P w s.heap m Ks rows era tab) {x : Addr} {k : List Int} (hx : IsM P w s.heap k x) (hu : A.units < cLine) {Q : SetFound → Shared → Prop} (yes : k ∈ Ks.map (·.2) → Q (.there none) s)
    (no : ∀ N, k ∉ Ks.map (·.2) → way tab.mask (thash P w k) N ∉ tab.place.toList → (∀ c, c < N → way tab.mask (thash P w k) c ∈ tab.place.toList) → Q (.free (way tab.mask (thash P w k) N) false) s) :
    wpAny (model P w) A (setSearch m (.ref x) (thash P w k) true) Q E s := by
  have space := R.space
  obtain ⟨N, n1, n2, n3⟩ := R.tok.first (by rw [List.length_map]; omega) (thash P w k)
  have few : N < 100000 := by
    have : 10 * SetTable.turns tab.mask ≤ 1420 := by
      unfold SetTable.turns
      rcases R.tok.mok with e | e | e <;> omega
    omega
  unfold setSearch
  refine look R hx hu n1 n2 n3 yes (fun z => no N z n2 n3) 100000 0 none rfl (Nat.zero_le _) (by omega) fun i p hp hk => ?_
  have hi : (Ks.map fun p => thash P w p.2)[i]? = some (thash P w k) := by rw [List.getElem?_map, hp, ← hk]; rfl
  have il : i < tab.place.toList.length := by
    have z1 := (List.getElem?_eq_some_iff.mp hp).1
    have z2 := R.sz
    rw [Array.length_toList]
    omega
  obtain ⟨c, hc, e⟩ := R.tok.before n2 hi (List.getElem?_eq_getElem il)
  exact ⟨c, Nat.zero_le _, hc, by rw [List.getElem?_eq_getElem il, e]⟩
/-- the table made larger -/
theorem regrow {ob : Obj} (hob : s.heap.get? m = some ob) (ex : ob.ExactSet) (dat : ob.data = .set rows era tab) (hr : rows.toList = rowsOf P w Ks) (hs : tab.place.size = rows.size) (hd : tab.dummies = #[]) (le : rows.size ≤ tab.mask)
    (nd : (Ks.map (·.2)).Nodup) (tup : ∀ p ∈ Ks, IsM P w s.heap p.2 p.1) (pln : tab.plain = true) (ord : w.params.followText "set-order" = true ∨ tab.led = true) (few : Ks.length < 64) {want M : Nat}
    (hw : SetTable.sizeAbove want - 1 = M) (hM : MaskOk M) (top : SetTable.sizeAbove want ≤ 128) (space : Ks.length * 5 < M * 3) {Q : Unit → Shared → Prop}
    (q : ∀ h' K' r' e' t', Heap.SameBut m s.heap h' → Bed P w h' m K' r' e' t' → K'.Perm Ks → Q () { s with heap := h' }) : wpAny (model P w) A (setRelay m want) Q E s := by
  have n1 := rows_len hr
  obtain ⟨t2, order, e, hp, T, em, el, ep, ed⟩ := relaid_ok tab (hs := rows.map (·.1)) (wanted := want) hw hM (by rw [Array.size_map, n1]; omega)
  rw [Array.size_map, n1] at hp
  obtain ⟨K2, r1, r2, r3⟩ := order_rows Ks rows order hr hp
  rw [← r3] at T
  have n2 : (order.filterMap (rows[·]?)).size = rows.size := by rw [rows_len r1, n1, r2.length_eq]
  rw [setRelay_eq]
  refine wpAny_bind (wpAny_setState_of hob dat (fits_of hs hd le) ?_)
  dsimp only
  refine wp_if_neg (by rw [sizeLine_eq]; omega) ?_
  try refine wpAny_bind (wpAny_pure ?_)
  rw [e]
  dsimp only
  refine wpAny_bind (wp_if_neg (by rw [n2]; simp) ?_)
  try refine wpAny_bind (wpAny_pure ?_)
  refine wpAny_pure ?_
  dsimp only
  refine wpAny_storeSet_of hob dat ?_ (by rw [n2, n1, sizeLine_eq]; omega)
  have sb : Heap.SameBut m s.heap (s.heap.update m (Obj.putSet (order.filterMap (rows[·]?)) t2)) := Heap.SameBut.update ..
  exact q _ K2 _ (era + 1) t2 sb { ob := ⟨_, store_at hob dat, ⟨ex.1, ex.2.1, ex.2.2⟩, rfl⟩, rws := r1, tok := T, nd := (r2.map (·.2)).nodup_iff.mpr nd, tup := fun p hp => isM_off (tup p (r2.mem_iff.mp hp)) hob dat sb, pln := ep.trans pln, ord := by rw [el]; exact ord, space := by rw [r2.length_eq, em]; exact space, few := by rw [r2.length_eq]; exact few } r2
/-- the addition of one -/
theorem add (R : Bed P w s.heap m Ks rows era tab) {x : Addr} {k : List Int} (hx : IsM P w s.heap k x) (hu : A.units < cLine) (few : Ks.length + 1 < 64) {Q : Bool → Shared → Prop}
    (q : ∀ b h' K' r' e' t', Heap.SameBut m s.heap h' → Bed P w h' m K' r' e' t' → (k ∈ Ks.map (·.2) → K' = Ks) → (k ∉ Ks.map (·.2) → K'.Perm ((x, k) :: Ks)) → Q b { s with heap := h' }) :
    wpAny (model P w) A (setAddHashed m (.ref x) (thash P w k)) Q E s := by
  obtain ⟨ob, hob, ex, dat⟩ := R.ob
  have n1 := rows_len R.rws
  have space := R.space
  unfold setAddHashed
  refine wpAny_holding ?_
  rw [show (100000 : Nat) = 99999 + 1 from rfl, setAddHashedIn_succ]
  refine wpAny_bind (wpAny_setState_of hob dat R.fits ?_)
  dsimp only
  refine wp_if_neg (by simp [byScan, Value.scannable]) ?_
  try refine wpAny_bind (wpAny_pure ?_)
  refine wpAny_bind (seek R hx hu (fun hm => ?_) fun N hm free full => ?_)
  · exact wpAny_pure (q false s.heap Ks rows era tab (Heap.SameBut.refl m s.heap) R (fun _ => rfl) fun z => absurd hm z)
  dsimp only
  refine wpAny_bind (wpAny_setState_of hob dat R.fits ?_)
  dsimp only
  obtain ⟨p1, p2, p3, p4, p5, p6, p7, p8, p9⟩ := R.tok.put free full
  generalize hput : tab.put (way tab.mask (thash P w k) N) = pt at p1 p3 p4 p5 p6 p7 p8 p9 ⊢
  obtain ⟨t1, at1⟩ := pt
  dsimp only at p1 p3 p4 p5 p6 p7 p8 p9 ⊢
  have pl1 : t1.plain = true := p6.trans R.pln
  first
    | (refine wpAny_bind ?_; refine wp_if_pos pl1 ?_; refine by_value hx ?_)
    | refine wp_if_pos pl1 (wpAny_bind (by_value hx ?_))
  simp only [if_true]
  rw [← p1] at p2 p3
  have put : (SetTable.insertAt rows at1 (thash P w k, Value.ref x)).toList = rowsOf P w (Ks.take at1 ++ (x, k) :: Ks.drop at1) := by rw [SetTable.toList_insertAt, rows_put, R.rws]
  rw [show (Ks.map fun p => thash P w p.2).take at1 ++ thash P w k :: (Ks.map fun p => thash P w p.2).drop at1 = (Ks.take at1 ++ (x, k) :: Ks.drop at1).map (fun p => thash P w p.2) by rw [List.map_append, List.map_cons, List.map_take, List.map_drop]] at p3
  have pm := put_perm Ks at1 (x, k)
  generalize SetTable.insertAt rows at1 (thash P w k, Value.ref x) = rows1 at put ⊢
  generalize Ks.take at1 ++ (x, k) :: Ks.drop at1 = K1 at pm p3 put
  have l1 : K1.length = Ks.length + 1 := pm.length_eq
  have n2 := rows_len put
  have nd1 : (K1.map (·.2)).Nodup := (pm.map (·.2)).nodup_iff.mpr (by rw [List.map_cons]; exact List.nodup_cons.mpr ⟨hm, R.nd⟩)
  refine wpAny_bind (wpAny_storeSet_of hob dat ?_ (by rw [n2, l1, sizeLine_eq]; omega))
  have sb : Heap.SameBut m s.heap (s.heap.update m (Obj.putSet rows1 t1)) := Heap.SameBut.update ..
  have hob1 := store_at (es' := rows1) (t' := t1) hob dat
  generalize s.heap.update m (Obj.putSet rows1 t1) = h1 at sb hob1 ⊢
  have tup1 : ∀ p ∈ K1, IsM P w h1 p.2 p.1 := fun p hp => by
    rcases List.mem_cons.mp (pm.mem_iff.mp hp) with e | hp
    · rw [e]
      exact isM_off hx hob dat sb
    · exact isM_off (R.tup p hp) hob dat sb
  have ord1 : w.params.followText "set-order" = true ∨ t1.led = true := by rw [p5]; exact R.ord
  have fl : t1.tooFull = decide (K1.length * 5 ≥ t1.mask * 3) := by
    unfold SetTable.tooFull
    rw [p9, List.length_map, l1]
  by_cases hf : t1.tooFull = true
  · first
      | (refine wpAny_bind ?_; refine wp_if_pos (by simp [hf]) ?_)
      | (refine wp_if_pos (by simp [hf]) ?_; refine wpAny_bind ?_)
    rw [fl, decide_eq_true_eq, l1, p4] at hf
    have s1 : t1.place.size = rows1.size := by
      have z := p3.sz
      rw [List.length_map] at z
      rw [z, n2]
    have two : (tab.mask = 7 ∧ Ks.length = 4) ∨ (tab.mask = 31 ∧ Ks.length = 18) := by
      rcases R.tok.mok with e | e | e <;> rw [e] at hf space <;> omega
    have go : ∀ M, SetTable.sizeAbove (SetTable.grown (Ks.length + 1)) - 1 = M → MaskOk M → SetTable.sizeAbove (SetTable.grown (Ks.length + 1)) ≤ 128 → (Ks.length + 1) * 5 < M * 3 →
        wpAny (model P w) A (setRelay m (SetTable.grown (rows.size + 1))) (fun _ s' => wpAny (model P w) A (pure true) Q E s') E { s with heap := h1 } := fun M a1 a2 a3 a4 => by
      rw [n1]
      refine regrow (s := { s with heap := h1 }) hob1 ⟨ex.1, ex.2.1, ex.2.2⟩ rfl put s1 p3.dm (by rw [n2, l1, p4]; rcases two with ⟨e, e2⟩ | ⟨e, e2⟩ <;> omega) nd1 tup1 pl1 ord1 (by rw [l1]; exact few) a1 a2 a3 (by rw [l1]; exact a4) ?_
      intro h2 K2 r2 e2 t2 sb2 R2 pm2
      exact wpAny_pure (q true h2 K2 r2 e2 t2 (sb.trans sb2) R2 (fun z => absurd z hm) fun _ => pm2.trans pm)
    rcases two with ⟨_, e2⟩ | ⟨_, e2⟩
    · exact go 31 (by rw [e2, size_20]) (.inr (.inl rfl)) (by rw [e2, size_20]; decide) (by omega)
    · exact go 127 (by rw [e2, size_76]) (.inr (.inr rfl)) (by rw [e2, size_76]; decide) (by omega)
  · first
      | refine wp_if_neg (by simp [hf]) ?_
      | (refine wpAny_bind ?_; refine wp_if_neg (by simp [hf]) ?_; refine wpAny_pure ?_)
    refine wpAny_pure (q true h1 K1 rows1 (era + 1) t1 sb { ob := ⟨_, hob1, ⟨ex.1, ex.2.1, ex.2.2⟩, rfl⟩, rws := put, tok := p3, nd := nd1, tup := tup1, pln := pl1, ord := ord1, space := ?_, few := by rw [l1]; exact few } (fun z => absurd z hm) fun _ => pm)
    rw [fl, decide_eq_true_eq] at hf
    omega
/-- a set that holds nothing yet -/
theorem bed_new {h : Heap} {a : Addr} (ho : h.get? a = some { cls := .type "set", dict := none, data := .set #[] 0 (.fresh 0 0 (!w.params.followText "set-order")) }) : Bed P w h a [] #[] 0 (.fresh 0 0 (!w.params.followText "set-order")) :=
  let R := setTR_fresh (P := P) ho
  ⟨R.ob, R.rows, R.tab, R.nd, (fun p hp => by cases hp), R.plain, R.led, R.room, R.few⟩
theorem Bed.keep {h h' : Heap} (R : Bed P w h m Ks rows era tab) (ha : ∀ o, h.get? m = some o → h'.get? m = some o) (ht : ∀ p ∈ Ks, IsM P w h' p.2 p.1) : Bed P w h' m Ks rows era tab :=
  let ⟨o, ho, r⟩ := R.ob
  { R with ob := ⟨o, ha o ho, r⟩, tup := ht }
open DO (FewK setNew none_past)
/-- what stands before the loop, behind its first i turns -/
structure Mid (P : Program) (w : World) (h0 : Heap) (S : Addr) (ks : List (Addr × List Int)) (i : Nat) (h : Heap) : Prop where
  keep : ∀ b o, h0.get? b = some o → h.get? b = some o
  got : ∃ L es ep t, Bed P w h S L es ep t ∧ Got ks i L
theorem few_now {h : Heap} {S : Addr} {ks L : List (Addr × List Int)} {i : Nat} {es : Array (Int × Value)} {ep : Nat} {t : SetTable} (R : Bed P w h S L es ep t) (g : Got ks i L) (f : FewK ks) : L.length + 1 < 64 := by
  have := f (L.map (·.2)) R.nd fun u hu => by
    obtain ⟨p, hp, e⟩ := List.mem_map.mp hu
    exact List.mem_map.mpr ⟨p, List.mem_of_mem_take (g.sub p hp), e⟩
  rw [List.length_map] at this
  omega
section
variable {I S : Addr} {fp wr : List Addr} {G : Array GenState → Array GenState → Prop} {Pv : Nat → Value → Prop} {St : Nat → Shared → Prop} {R : Result → Shared → Prop} {ks : List (Addr × List Int)} {h0 : Heap}
theorem loop_few {n : Nat} (W : WalksS P w A.in1 I fp wr G n Pv St) (hn : ks.length = n) (nS : S ∉ fp) (f : FewK ks) (tells : ∀ j v, Pv j v → ∃ q, ks[j]? = some q ∧ v = .ref q.1) (tup : ∀ q ∈ ks, IsM P w h0 q.2 q.1) (S0 : h0.get? S = none) (wr0 : ∀ b ∈ wr, h0.get? b = none) (un : A.in1.units < cLine) :
    ∀ (m j : Nat) (s : Shared), j + m = ks.length → St j s → Mid P w h0 S ks j s.heap → (∀ s', Moved (S :: wr) G s s' → Mid P w h0 S ks ks.length s'.heap → R (.ok (.ret .none)) s') →
      codeAny (model P w) A (.builtin "set.update.loop" ⟨[.ref S, .ref I], []⟩) R s := by
  subst hn
  have nw : S ∉ wr := fun h => nS (W.sub _ h)
  have up : ∀ b ∈ wr, b ∈ S :: wr := fun b => List.mem_cons_of_mem _
  have kept : ∀ {x y : Shared}, Moved wr G x y → ∀ {L es ep t}, Bed P w x.heap S L es ep t → (∀ q ∈ L, q ∈ ks) → (∀ b o, h0.get? b = some o → x.heap.get? b = some o) →
      (∀ b o, h0.get? b = some o → y.heap.get? b = some o) ∧ Bed P w y.heap S L es ep t := fun {x y} mv {L es ep t} T sub k => by
    have k' : ∀ b o, h0.get? b = some o → y.heap.get? b = some o := fun b o z => mv.heap b o (fun hb => absurd (wr0 b hb) (by rw [z]; exact Option.some_ne_none o)) (k b o z)
    exact ⟨k', T.keep (fun o z => mv.heap S o nw z) fun q hq => isM_keep (tup q (sub q hq)) k'⟩
  intro m
  induction m with
  | zero =>
    intro j s hj st ⟨k, L, es, ep, t, T, g⟩ fin
    obtain rfl : j = ks.length := hj
    refine codeAny_builtin F.entry_set_update_loop ?_
    rw [Around.under_plainId F.plain_set_update_loop _]
    show wpAny _ A.in1 (pyNext (.ref I) >>= _) _ _ s
    refine wpAny_bind (W.done s _ _ st fun s1 mv => ?_)
    obtain ⟨k', T'⟩ := kept mv T (fun q hq => List.mem_of_mem_take (g.sub q hq)) k
    exact wpAny_pure (fin s1 (mv.mono up) ⟨k', L, es, ep, t, T', g⟩)
  | succ m ih =>
    intro j s hj st ⟨k, L, es, ep, t, T, g⟩ fin
    refine codeAny_builtin F.entry_set_update_loop ?_
    rw [Around.under_plainId F.plain_set_update_loop _]
    show wpAny _ A.in1 (pyNext (.ref I) >>= _) _ _ s
    refine wpAny_bind (W.item j s _ _ (by omega) st fun v s1 pv st1 mv => ?_)
    obtain ⟨q, hq, rfl⟩ := tells j v pv
    obtain ⟨k1, T1⟩ := kept mv T (fun q hq => List.mem_of_mem_take (g.sub q hq)) k
    have qT : IsM P w s1.heap q.2 q.1 := isM_keep (tup q (List.mem_of_getElem? hq)) k1
    show wpAny _ A.in1 (holding [Value.ref q.1] (setAdd S (.ref q.1)) >>= _) _ _ s1
    refine wpAny_bind (wpAny_holding ?_)
    unfold setAdd
    refine wpAny_holding (wpAny_bind (wpAny_pyHash_tuple un qT ?_))
    refine add (s := { s1 with toks := s1.toks + (q.2.length + 1) }) T1 qT un (few_now T1 g f) fun _ h2 L2 es2 ep2 t2 sb T2 old new => ?_
    have g2 : Got ks (j + 1) L2 := (Classical.em (q.2 ∈ L.map (·.2))).elim (fun c => by rw [old c]; exact g.same hq c) fun c => g.more hq (new c)
    have off : ∀ b, b ≠ S → ∀ o, s1.heap.get? b = some o → h2.get? b = some o := fun b nb o z => (sb.2 b nb).trans z
    refine wpAny_pure ⟨plainId_quiet F.plain_set_update_loop _, ih (j + 1) _ (by omega) (W.frame _ s1 _ _ st1 (Nat.le_add_right _ _) fun b hb o z => off b (fun e => nS (e ▸ hb)) o z) ⟨fun b o z => off b (fun e => absurd S0 (by rw [← e, z]; exact Option.some_ne_none o)) o (k1 b o z), L2, es2, ep2, t2, T2, g2⟩ fun s2 mv2 md => ?_⟩
    exact fin s2 (Moved.trans W.gtrans ((mv.mono up).then_heap (Nat.le_add_right _ _) fun b o nb z => off b (fun e => nb (by rw [e]; exact List.mem_cons_self)) o z) mv2) md
end
/-- a set that was just made -/
def setNew (w : World) : Obj := { cls := .type "set", dict := none, data := .set #[] 0 (.fresh 0 0 (!w.params.followText "set-order")) }
theorem none_past {h : Heap} {b : Addr} (hb : h.objs.size ≤ b) : h.get? b = none := by
  cases q : h.get? b with
  | none => rfl
  | some o => exact absurd (Heap.lt_size q) (Nat.not_lt.mpr hb)
/-- what the call of set leaves -/
def Left (P : Program) (w : World) (ks : List (Addr × List Int)) (s s' : Shared) : Prop := ∃ h' tk, s' = { s with heap := h', toks := tk } ∧ Mid P w s.heap s.heap.objs.size ks ks.length h'
theorem init_few {l : Addr} {items : Array Value} {ks : List (Addr × List Int)} (calm : A.handled = none) (isl : s.heap.IsList l items) (refs : items.toList = ks.map fun q => Value.ref q.1) (tup : ∀ q ∈ ks, IsM P w s.heap q.2 q.1) (f : FewK ks) (un : A.in1.in1.units < cLine) {Q : PySem.Fin → Shared → Prop} (q : ∀ s', Left P w ks s s' → wpAny (model P w) A.in1 (ret Value.none) Q E s') :
    wpAny (model P w) A.in1 (Builtin.«set.__init__» ⟨[.ref s.heap.objs.size, .ref l], []⟩) Q E { s with heap := s.heap.push (setNew w) } := by
  have sz : items.size = ks.length := by
    rw [← Array.length_toList, refs, List.length_map]
  obtain ⟨ol, hol, hcl, nl, hdl⟩ := isl
  obtain ⟨ocls, odict, odata, oslots⟩ := ol
  simp only at hcl hdl
  subst hcl hdl
  have hol' : (s.heap.push (setNew w)).get? l = some { cls := .type "list", dict := odict, data := .seq items nl, slots := oslots } := Heap.get?_push_of_some _ hol
  have il : (s.heap.push (setNew w)).IsList l items := ⟨_, hol', rfl, nl, rfl⟩
  have hT : Shared.TypeIs { s with heap := s.heap.push (setNew w) } (.ref s.heap.objs.size) "set" := ⟨_, Heap.get?_push_size _ rfl, rfl⟩
  have sub1 := F.sub_list_set
  have sub2 := F.sub_list_frozenset
  have ned : (Value.type "list" == Value.type "dict") = false := by decide
  unfold Builtin.«set.__init__» noKeywords Builtin.Frozenset.updateFrom
  generalize iterG : pyIter = PI
  wp_walk
  subst iterG
  refine wpAny_pyIter_list il (wpAny_bind (wpAny_runValue ?_))
  have lS : l < s.heap.objs.size := Heap.lt_size hol
  have sz1 : (s.heap.push (setNew w)).objs.size = s.heap.objs.size + 1 := Heap.size_push ..
  have lI : l ≠ (s.heap.push (setNew w)).objs.size := by rw [sz1]; exact Nat.ne_of_lt (Nat.lt_succ_of_lt lS)
  have hget : ((s.heap.push (setNew w)).push { cls := .type "list_iterator", data := .fields #[.ref l, .int 0 0] }).get? s.heap.objs.size = some (setNew w) := Heap.get?_push_of_some _ (Heap.get?_push_size _ rfl)
  refine loop_few (ks := ks) (h0 := s.heap) (S := s.heap.objs.size) (Walks.list (by simp [calm]) _ l lI items).toS sz.symm (fun z => ?_) f (fun i v hv => ?_) tup (none_past (Nat.le_refl _)) (fun b hb => ?_) un ks.length 0 _ (Nat.zero_add _) ⟨⟨_, Heap.get?_push_size _ rfl, rfl, rfl⟩, il.push _⟩ ⟨fun b o e => Heap.get?_push_of_some _ (Heap.get?_push_of_some _ e), [], #[], 0, .fresh 0 0 (!w.params.followText "set-order"), ?fresh, Got.zero ks⟩ fun s' mv md => ?_
  case fresh => exact bed_new hget
  · rw [sz1] at z
    simp only [List.mem_cons, List.not_mem_nil, or_false] at z
    exact z.elim (fun e => absurd e (Nat.ne_of_lt (Nat.lt_succ_self _))) fun e => absurd e.symm (Nat.ne_of_lt lS)
  · have e : items.toList[i]? = some v := by rw [Array.getElem?_toList]; exact hv
    rw [refs, List.getElem?_map] at e
    cases r : ks[i]? with
    | none => rw [r] at e; cases e
    | some p =>
      rw [r] at e
      exact ⟨p, rfl, (Option.some.inj e).symm⟩
  · refine none_past ?_
    rw [List.mem_singleton.mp hb, sz1]
    omega
  · obtain ⟨h', g', d', tk', os'⟩ := s'
    have e1 : g' = s.gens := mv.gens
    have e2 : d' = s.drawn := mv.drawn
    have e3 : os' = s.os := mv.os
    subst e1 e2 e3
    show wpAny _ _ _ _ _ _
    exact wpAny_pure (q _ ⟨h', tk', rfl, md⟩)
/-- set(xs) -/
theorem set_few {l : Addr} {items : Array Value} {ks : List (Addr × List Int)} (calm : A.handled = none) (isl : s.heap.IsList l items) (refs : items.toList = ks.map fun q => Value.ref q.1) (tup : ∀ q ∈ ks, IsM P w s.heap q.2 q.1) (f : FewK ks) (un : A.units + 3 < cLine) {Q : Value → Shared → Prop} (q : ∀ s', Left P w ks s s' → Q (.ref s.heap.objs.size) s') :
    wpAny (model P w) A (call (.type "set") [.ref l]) Q E s := by
  have hc := F.called_set
  obtain ⟨c, tl, hmro⟩ := hc.mro
  have g1 := hc.made
  have g2 := hc.sub
  have g3 := hc.notType
  have g4 := hc.canCreate
  have g5 := F.typeCall_set_1 (.ref l)
  refine wpAny_call (codeAny_of_tree ?_)
  show wpAny _ _ (callAny (.type "set") _) _ _ _
  refine wpAny_pure ⟨Code.quiet_builtin _ (by decide +kernel), codeAny_builtin F.entry_type_call ?_⟩
  rw [Around.under_plain (weight_type_call_type "set" [.ref l] []) rfl]
  repeat (any_goals (first | assumption | wp_step))
  refine codeAny_mono (code_set_led1 (.ref l) (E := E) (Q₁ := fun ob s1 => ob = .ref s.heap.objs.size ∧ s1 = { s with heap := s.heap.push (setNew w) }) ⟨rfl, rfl⟩) fun r s1 hr => ?_
  cases r with
  | error e => exact hr
  | ok fl =>
    cases fl with
    | ret ob =>
      obtain ⟨rfl, rfl⟩ := hr
      have hT : Shared.TypeIs { s with heap := s.heap.push (setNew w) } (.ref s.heap.objs.size) "set" := ⟨_, Heap.get?_push_size _ rfl, rfl⟩
      have g6 := hc.init.lookup
      have g7 := hc.init.bind (.ref s.heap.objs.size)
      repeat (any_goals (first | assumption | wp_step))
      refine codeAny_mono (codeAny_call_builtin (R := wants (fun r s2 => r = .none ∧ Left P w ks s s2) E) hc.init.plain F.entry_set_init (check_set_init_1 hT ?_)) fun r2 s2 h2 => ?_
      · exact init_few (A := A.in1) (by simp [calm]) isl refs tup f un fun s2 z => wpAny_pure ⟨rfl, z⟩
      cases r2 with
      | error e => exact h2
      | ok fl2 =>
        cases fl2 with
        | ret r =>
          obtain ⟨rfl, z⟩ := h2
          have q2 := q s2 z
          repeat (any_goals (first | assumption | wp_step))
        | _ => exact h2.elim
    | _ => exact hr.elim
end
section
variable {X : Cx}
/-- what is told of the items: an int and a truth value -/
def Two (K : PySem.W.Frag) (H : Hp) (p : Addr × List Int) : Prop := ∃ (i : Int) (b : Bool), p.2 = [i, b2 b] ∧ SqT K H p.1 [V.int i, V.bl b]
theorem isM_of {pins : List (Addr × Obj)} {σ : L2.St} {H : Hp} {s : Shared} {p : Addr × List Int} (I : Inv X pins σ H s) (h : Two X.K H p) : IsM X.prog X.w s.heap p.2 p.1 := by
  obtain ⟨i, b, e, h⟩ := h
  obtain ⟨its, r, ⟨o, ho, hc, n, hd⟩, _⟩ := I.tuple h
  refine ⟨o, its.toArray, n, ho, hc, hd, ?_⟩
  rw [e]
  cases r with
  | cons r1 r => cases r with
    | cons r2 r => cases r with
      | nil =>
        obtain ⟨t, rfl⟩ := r1
        cases r2
        exact .cons (by show num i (.int i t) = true; exact beq_self_eq_true i) (.cons (by show num (b2 b) (.bool b) = true; exact beq_self_eq_true (b2 b)) .nil)
def tLenSetM (K : PySem.W.Frag) (ta : TE) : TE := fun σ H Q => ta σ H fun x H1 => ∃ (l : Addr) (ks : List (Addr × List Int)), x = .ref l ∧ SqL K H1 l (ks.map fun p => V.ref p.1) ∧ (∀ p ∈ ks, Two K H1 p) ∧ DO.FewK ks ∧ ∀ U : List (List Int), U.Nodup → (∀ x, x ∈ U ↔ x ∈ ks.map (·.2)) → Q (.int (U.length : Nat)) H1
theorem pe_lenSetM {X : Cx} {a : Expr} {ta : TE} {p p2 q pos : Pos} (hg : Gl X "len") (hm : X.mg "len" = none) (hg2 : Gl X "set") (hm2 : X.mg "set" = none) (ha : PE X a ta) (hu : X.A.units + 64 < cLine) (hc : X.calm = true := by rfl)
    (na : starEach [a] X.env = (false, eval a X.env) :: starEach [] X.env := by rfl) : PE X (.Call (.Name "len" p) [.Call (.Name "set" p2) [a] [] q] [] pos) (tLenSetM X.K ta) := by
  refine ⟨fun pins s σ H Q I h => ?_⟩
  refine Call_ (ld_blt I hg hm PySem.boot_len ?_)
  refine PyProof.Rows.callWith_builtin1 (PyProof.Rows.args_cons ?_ rfl) rfl rfl
  refine Call_ (ld_blt I hg2 hm2 PyProof.Rows.boot_set ?_)
  refine PyProof.Rows.callWith_type1 (PyProof.Rows.args_cons (thn (ha.run pins s σ H _ I h) fun v s1 ⟨x, H1, I1, r1, q1⟩ => PyProof.Rows.args_nil ?_) na) na rfl
  obtain ⟨l, ks, rfl, hq, hk, f, q1⟩ := q1
  cases r1
  obtain ⟨its, rv, pl, hz⟩ := I1.list hq
  refine set_few (P := X.prog) (w := X.w) (I1.ok.hd hc) pl.isList (by simpa using L2.refs_of_vals rv) (fun p hp => isM_of I1 (hk p hp)) f (by omega) fun s' z => ?_
  obtain ⟨h', tk, rfl, keep, L, es, ep, t, R, g⟩ := z
  refine PyProof.Rows.args_nil ?_
  obtain ⟨o, ho, hex, hd⟩ := R.ob
  have I2 : Inv X pins σ H1 { s1 with heap := h', toks := tk } := I1.kept fun b o e => keep b o e
  have sz := rows_len R.rws
  have few := R.few
  refine call_len_set ho hex hd (Bed.fits (s := { s1 with heap := h', toks := tk }) R) (by rw [sz]; omega) ⟨.int (L.map (·.2)).length, H1, I2.tok _, ⟨_, by rw [sz, List.length_map]⟩, q1 (L.map (·.2)) R.nd fun x => ?_⟩
  constructor
  · intro hx
    obtain ⟨p, hp, rfl⟩ := List.mem_map.mp hx
    exact List.mem_map.mpr ⟨p, List.mem_of_mem_take (g.sub p hp), rfl⟩
  · intro hx
    obtain ⟨p, hp, rfl⟩ := List.mem_map.mp hx
    exact g.all p (by rw [List.take_length]; exact hp)
end
end SetM
namespace DL
variable [DL.TabsT]
open PySem PySem.Spec PyProof.Rows L2 Evl Lay ErrX LCN PpSet
section
variable {K : PySem.W.Frag}
abbrev tB (p : Int × Bool) : D := .t [.i p.1, .b p.2]
theorem ra_two {F : Hp} : ∀ {vs : List V} {L : List (Int × Bool)}, RA K F vs (L.map tB) → ∃ ks : List (Addr × List Int), vs = ks.map (fun k => V.ref k.1) ∧ ks.map (·.2) = L.map (fun p => [p.1, b2 p.2]) ∧ ∀ H, Ex F H → ∀ k ∈ ks, SetM.Two K H k
  | [], [], _ => ⟨[], rfl, rfl, fun _ _ z hz => by cases hz⟩
  | [], _ :: _, h => by cases h
  | _ :: _, [], h => by cases h
  | u :: vs, p :: L, h => by
    cases h with
    | cons a r =>
      obtain ⟨ks, h1, h2, h3⟩ := ra_two r
      cases a with
      | @t a vs2 _ h ra =>
        cases ra with
        | cons x1 ra => cases ra with
          | cons x2 ra => cases ra with
            | nil =>
              cases x1
              cases x2
              refine ⟨(a, [p.1, b2 p.2]) :: ks, by rw [List.map_cons, h1], by rw [List.map_cons, List.map_cons, h2], fun H e z hz => ?_⟩
              rcases List.mem_cons.mp hz with rfl | hz
              · exact ⟨p.1, p.2, rfl, ex_t e h⟩
              · exact h3 H e z hz
theorem key_inj {a b : Int × Bool} (h : [a.1, b2 a.2] = [b.1, b2 b.2]) : a = b := by
  injection h with h1 h2
  injection h2 with h2 _
  have : a.2 = b.2 := by
    revert h2
    cases a.2 <;> cases b.2 <;> decide
  exact Prod.ext h1 this
theorem keys_back {L : List (Int × Bool)} : ∀ (U : List (List Int)), U.Nodup → (∀ u ∈ U, u ∈ L.map (fun p => [p.1, b2 p.2])) → ∃ W : List (Int × Bool), W.map (fun p => [p.1, b2 p.2]) = U ∧ W.Nodup ∧ ∀ x ∈ W, x ∈ L
  | [], _, _ => ⟨[], rfl, List.nodup_nil, fun x hx => by cases hx⟩
  | u :: U, nd, sub => by
    obtain ⟨W, e, n, s⟩ := keys_back U (List.nodup_cons.mp nd).2 fun x hx => sub x (List.mem_cons_of_mem _ hx)
    obtain ⟨p, hp, rfl⟩ := List.mem_map.mp (sub u List.mem_cons_self)
    refine ⟨p :: W, by rw [List.map_cons, e], List.nodup_cons.mpr ⟨fun hx => (List.nodup_cons.mp nd).1 (by rw [← e]; exact List.mem_map.mpr ⟨p, hx, rfl⟩), n⟩, fun x hx => ?_⟩
    rcases List.mem_cons.mp hx with rfl | hx
    · exact hp
    · exact s x hx
abbrev wLsetM (we : WE) : WE := fun Γ Q => we Γ fun d => ∃ L : List (Int × Bool), d = .l (L.map tB) ∧ (∀ U : List (Int × Bool), U.Nodup → (∀ u ∈ U, u ∈ L) → U.length < 63) ∧ ∀ U : List (Int × Bool), U.Nodup → (∀ x, x ∈ U ↔ x ∈ L) → Q (.i (U.length : Nat))
theorem e_lsetM {te : TE} {we : WE} (h : EOk K te we) : EOk K (SetM.tLenSetM K te) (wLsetM we) := fun Γ Q hq F0 H0 F H σ r QV w =>
  h Γ _ hq F0 H0 F H σ r _ fun v d F1 H1 z e1 rv => by
    obtain ⟨L, rfl, f, z⟩ := z
    cases rv with
    | @l p vs _ hp ra =>
      obtain ⟨ks, rfl, k2, k3⟩ := ra_two ra
      refine ⟨p, ks, rfl, sq_of (e1.fh _ _ hp), k3 H1 e1.fh, fun U nd sub => ?_, fun U nd mem => ?_⟩
      · rw [k2] at sub
        obtain ⟨W, rfl, n, s⟩ := keys_back U nd sub
        rw [List.length_map]
        exact f W n s
      · rw [k2] at mem
        obtain ⟨W, rfl, n, s⟩ := keys_back U nd fun u hu => (mem u).mp hu
        rw [List.length_map]
        refine w _ _ F1 H1 (z W n fun x => ⟨s x, fun hx => ?_⟩) e1 (.i _)
        obtain ⟨y, hy, e⟩ := List.mem_map.mp ((mem [x.1, b2 x.2]).mpr (List.mem_map.mpr ⟨x, hx, rfl⟩))
        rw [← key_inj e]
        exact hy
end
end DL
namespace K40
variable [DL.TabsT]
open PySem PySem.Spec PyProof.Rows L2 Evl Lay ErrX DL TE DO ShM FlC
theorem rest_sub {w s h : Int} (A : IsL w s h) {b p : Pr} (e : rest w s h b = rest w s h p) : rest w s h (p.1 - b.1, p.2 - b.2) = (0, 0) := by
  unfold ShM.rest at e ⊢
  simp only [Prod.mk.injEq] at e ⊢
  obtain ⟨e1, e2⟩ := e
  have h0 : h ≠ 0 := by have := A.h0; omega
  have d1 := Int.emod_add_mul_ediv b.2 h
  have d2 := Int.emod_add_mul_ediv p.2 h
  have z : p.2 - b.2 = (p.2 / h - b.2 / h) * h := by
    rw [Int.sub_mul, Int.mul_comm (p.2 / h), Int.mul_comm (b.2 / h)]
    omega
  rw [z, Int.mul_ediv_cancel _ h0, Int.mul_emod_left]
  refine ⟨?_, rfl⟩
  have e3 := Int.emod_eq_emod_iff_emod_sub_eq_zero.mp e1.symm
  rw [← e3]
  congr 1
  grind
/-- which of the 2n cells stands at p's place -/
def spot (w s h c d : Int) (L : List Pr) (p : Pr) : Nat := ((dbl c d L).map (rest w s h)).idxOf (rest w s h p)
def told (L : List Pr) (k : Nat) : Int × Bool := ((k : Int) % (L.length : Int), decide ((L.length : Int) ≤ (k : Int)))
theorem spot_of {w s h c d : Int} {L : List Pr} (F : Fills w s h (dbl c d L)) {p : Pr} {k : Nat} (kl : k < 2 * L.length) (e : rest w s h ((dbl c d L).getD k (0, 0)) = rest w s h p) : k = spot w s h c d L p := by
  have kl' : k < (dbl c d L).length := by rw [dbl_len]; exact kl
  have g : ((dbl c d L).map (rest w s h))[k]? = some (rest w s h p) := by
    rw [List.getElem?_map, ← e, List.getD_eq_getElem?_getD, List.getElem?_eq_getElem kl']
    rfl
  obtain ⟨hk, ge⟩ := List.getElem?_eq_some_iff.mp g
  unfold spot
  rw [← ge]
  exact (List.Nodup.idxOf_getElem F.nd k hk).symm
theorem spot_lt {w s h c d : Int} {L : List Pr} (A : IsL w s h) (F : Fills w s h (dbl c d L)) (p : Pr) : spot w s h c d L p < 2 * L.length := by
  have := List.idxOf_lt_length_iff.mpr (F.all A p)
  rw [List.length_map, dbl_len] at this
  exact this
theorem told_inj {L : List Pr} {a b : Nat} (ha : a < 2 * L.length) (hb : b < 2 * L.length) (e : told L a = told L b) : a = b := by
  unfold told at e
  simp only [Prod.mk.injEq, decide_eq_decide] at e
  obtain ⟨e1, e2⟩ := e
  have m : ∀ k : Nat, k < 2 * L.length → (k : Int) % (L.length : Int) = if (L.length : Int) ≤ (k : Int) then (k : Int) - (L.length : Int) else (k : Int) := fun k hk => by
    split
    · rename_i z
      rw [← Int.sub_emod_right, Int.emod_eq_of_lt (by omega) (by omega)]
    · rename_i z
      exact Int.emod_eq_of_lt (by omega) (by omega)
  rw [m a ha, m b hb] at e1
  split at e1 <;> split at e1 <;> omega
def spots (w h : Nat) : List Pr := (List.range w).flatMap fun (x : Nat) => (List.range h).map fun (y : Nat) => ((x : Int), (y : Int))
theorem spots_mem {w h : Nat} {p : Pr} : p ∈ spots w h ↔ 0 ≤ p.1 ∧ p.1 < w ∧ 0 ≤ p.2 ∧ p.2 < h := by
  unfold spots
  simp only [List.mem_flatMap, List.mem_map, List.mem_range]
  constructor
  · rintro ⟨x, hx, y, hy, rfl⟩
    exact ⟨by omega, by show (x : Int) < _; omega, by omega, by show (y : Int) < _; omega⟩
  · rintro ⟨a, b, c, d⟩
    exact ⟨p.1.toNat, by omega, p.2.toNat, by omega, Prod.ext (by show ((p.1.toNat : Nat) : Int) = _; omega) (by show ((p.2.toNat : Nat) : Int) = _; omega)⟩
theorem told_all {w s h c d : Int} {L : List Pr} (A : IsL w s h) (F : Fills w s h (dbl c d L)) {U : List (Int × Bool)} (nd : U.Nodup) (mem : ∀ x, x ∈ U ↔ x ∈ (spots w.toNat h.toNat).map fun p => told L (spot w s h c d L p)) : U.length = 2 * L.length := by
  have nd2 : ((List.range (2 * L.length)).map (told L)).Nodup := List.pairwise_map.mpr (List.Pairwise.imp_of_mem (fun {a b} ha hb ne e => ne (told_inj (List.mem_range.mp ha) (List.mem_range.mp hb) e)) List.nodup_range)
  have pm : U.Perm ((List.range (2 * L.length)).map (told L)) := by
    refine (List.perm_ext_iff_of_nodup nd nd2).mpr fun x => (mem x).trans ?_
    constructor
    · intro hx
      obtain ⟨p, _, rfl⟩ := List.mem_map.mp hx
      exact List.mem_map.mpr ⟨_, List.mem_range.mpr (spot_lt A F p), rfl⟩
    · intro hx
      obtain ⟨k, hk, rfl⟩ := List.mem_map.mp hx
      have kl := List.mem_range.mp hk
      obtain ⟨a, b, c', d'⟩ := rest_range A ((dbl c d L).getD k (0, 0))
      refine List.mem_map.mpr ⟨ShM.rest w s h ((dbl c d L).getD k (0, 0)), spots_mem.mpr ⟨by omega, by omega, by omega, by omega⟩, ?_⟩
      rw [← spot_of F kl (rest_rest A _).symm]
  rw [pm.length_eq, List.length_map, List.length_range]
theorem told_few {w s h c d : Int} {L : List Pr} (A : IsL w s h) (F : Fills w s h (dbl c d L)) (l7 : L.length ≤ 7) (U : List (Int × Bool)) (nd : U.Nodup) (sub : ∀ x ∈ U, x ∈ (spots w.toNat h.toNat).map fun p => told L (spot w s h c d L p)) : U.length < 63 := by
  have := List.Nodup.length_le_of_subset nd (l₂ := (List.range (2 * L.length)).map (told L)) fun x hx => by
    obtain ⟨p, _, rfl⟩ := List.mem_map.mp (sub x hx)
    exact List.mem_map.mpr ⟨_, List.mem_range.mpr (spot_lt A F p), rfl⟩
  rw [List.length_map, List.length_range] at this
  omega
/-- what a floor out of due is -/
theorem due_floor {L : List Pr} {f : F5} (l0 : 0 < L.length) (l7 : L.length ≤ 7) (m : f ∈ due L) : ∃ w s h c d : Int, f = (w, s, h, c, d) ∧ IsLat w s h ∧ Fills w s h (dbl c d L) ∧ floorD L (t5 f) = true ∧ NV (t5 f) ∧ CM (t5 f) ∧ (0 ≤ c ∧ c ≤ 100 ∧ 0 ≤ d ∧ d ≤ 100) := by
  have y : floorD L (t5 f) = true := (List.mem_filter.mp m).2
  obtain ⟨w, s, h, c, d⟩ := f
  have o : okF L w s h c d := of_decide_eq_true y
  obtain ⟨⟨a1, a2, a3, a4, a5, a6, a7⟩, o2, o3⟩ := o
  have o2' := o2
  rw [dbl_len] at o2
  have w1 : 1 ≤ w := by omega
  have wl : w ≤ 14 := by
    have : w * 1 ≤ w * h := Int.mul_le_mul_of_nonneg_left a3 (by omega)
    omega
  have hl : h ≤ 14 := by
    have : 1 * h ≤ w * h := Int.mul_le_mul_of_nonneg_right w1 (by omega)
    omega
  refine ⟨w, s, h, c, d, rfl, ⟨by omega, by omega, a1, a2, by omega, by omega⟩, ⟨o3, o2'⟩, y, (show NV (.t [.i w, .i s, .i h, .i c, .i d]) from .t (by show 5 ≤ 1000; decide) ?_), fun w' s' h' c' d' e => ?_, by omega, by omega, by omega, by omega⟩
  · exact rds_cons (.small (by omega) (by omega)) (rds_cons (.small (by omega) (by omega)) (rds_cons (.small (by omega) (by omega)) (rds_cons (.small (by omega) (by omega)) (rds_cons (.small (by omega) (by omega)) rds_nil))))
  · unfold t5 at e
    simp only [D.t.injEq, List.cons.injEq, D.i.injEq, and_true] at e
    exact .inl ⟨by omega, by omega⟩
/-- the cell that stands at a place, and its number -/
theorem own_of {c d : Int} {L : List Pr} {k : Nat} (kl : k < 2 * L.length) : ∃ n : Nat, (k : Int) % (L.length : Int) = (n : Int) ∧ n < L.length ∧
    (if decide ((L.length : Int) ≤ (k : Int)) = true then ((dbl c d L).getD k (0, 0)) = (c - (L.getD n (0, 0)).1, d - (L.getD n (0, 0)).2) else ((dbl c d L).getD k (0, 0)) = L.getD n (0, 0)) := by
  by_cases z : L.length ≤ k
  · refine ⟨k - L.length, ?_, by omega, ?_⟩
    · rw [← Int.sub_emod_right, Int.emod_eq_of_lt (by omega) (by omega)]
      omega
    · rw [if_pos (decide_eq_true (by omega))]
      unfold dbl
      rw [List.getD_eq_getElem?_getD, List.getElem?_append_right z, List.getElem?_map, List.getD_eq_getElem?_getD, List.getElem?_eq_getElem (by omega)]
      rfl
  · refine ⟨k, Int.emod_eq_of_lt (by omega) (by omega), by omega, ?_⟩
    rw [if_neg (by rw [decide_eq_true_eq]; omega)]
    unfold dbl
    rw [List.getD_eq_getElem?_getD, List.getElem?_append_left (by omega), List.getD_eq_getElem?_getD]
theorem zero_bd {M L : List Pr} (Z : zeroed M L) (bd : ∀ p ∈ M, p.1.natAbs ≤ 50 ∧ p.2.natAbs ≤ 50) : ∀ p ∈ L, p.1.natAbs ≤ 100 ∧ p.2.natAbs ≤ 100 := by
  obtain ⟨a, b, pm, _, _, ⟨u, hu, u0⟩, v, hv, v0⟩ := Z
  obtain ⟨m, hm, rfl⟩ := List.mem_map.mp (pm.mem_iff.mp hu)
  obtain ⟨n, hn, rfl⟩ := List.mem_map.mp (pm.mem_iff.mp hv)
  have x1 := bd m hm
  have x2 := bd n hn
  have u0 : m.1 + a = 0 := u0
  have v0 : n.2 + b = 0 := v0
  intro p hp
  obtain ⟨q, hq, rfl⟩ := List.mem_map.mp (pm.mem_iff.mp hp)
  have x3 := bd q hq
  exact ⟨by show (q.1 + a).natAbs ≤ 100; omega, by show (q.2 + b).natAbs ≤ 100; omega⟩
theorem dbl_bd {w s h c d : Int} {L : List Pr} {k : Nat} (kl : k < 2 * L.length) (c0 : 0 ≤ c) (c1 : c ≤ 100) (d0 : 0 ≤ d) (d1 : d ≤ 100) (bd : ∀ p ∈ L, p.1.natAbs ≤ 100 ∧ p.2.natAbs ≤ 100) : ((dbl c d L).getD k (0, 0)).1.natAbs ≤ 200 ∧ ((dbl c d L).getD k (0, 0)).2.natAbs ≤ 200 := by
  obtain ⟨n, _, nl, e⟩ := own_of (c := c) (d := d) kl
  have m : L.getD n (0, 0) ∈ L := by
    rw [List.getD_eq_getElem?_getD, List.getElem?_eq_getElem nl]
    exact List.getElem_mem nl
  have := bd _ m
  split at e
  · rw [e]
    exact ⟨by show (c - (L.getD n (0, 0)).1).natAbs ≤ 200; omega, by show (d - (L.getD n (0, 0)).2).natAbs ≤ 200; omega⟩
  · rw [e]
    omega
theorem log_lt {v : Int} (h : v.natAbs < 2 ^ 251) : v.natAbs.log2 < 1920 := by
  by_cases z : v.natAbs = 0
  · rw [z]
    decide
  · refine Nat.lt_of_lt_of_le ((Nat.log2_lt z).mpr h) (by decide)
/-- the text of a told copy -/
theorem copy_rd {i : Int} {b : Bool} {x y : Int} (hi : i.natAbs ≤ 100) (hx : x.natAbs < 2 ^ 251) (hy : y.natAbs < 2 ^ 251) : RD 2 (.t [.i i, .b b, pt (x, y)]) := .t fun z hz => by
  simp only [List.mem_cons, List.not_mem_nil, or_false] at hz
  rcases hz with rfl | rfl | rfl
  · exact .i (log_lt (by omega))
  · exact .b b
  · exact .t fun z hz => by
      simp only [List.mem_cons, List.not_mem_nil, or_false] at hz
      rcases hz with rfl | rfl
      · exact .i (log_lt hx)
      · exact .i (log_lt hy)
theorem seq6 {A B : WS} {PP : Po} {Γ : G} (Gf : Sl → Sl → Sl → Sl → Sl → Sl → G) (f : (∀ a b c d e g, B PP (Gf a b c d e g)) → wSeq A B PP Γ) (b : ∀ a b c d e g, B PP (Gf a b c d e g)) : wSeq A B PP Γ := f b
theorem flat_len {α : Type} {f : Nat → Nat → α} {n : Nat} : ∀ k : Nat, ((List.range k).flatMap fun x => (List.range n).map (f x)).length = k * n
  | 0 => by simp
  | k + 1 => by
    rw [List.range_succ, List.flatMap_append, List.length_append, flat_len k]
    simp [Nat.succ_mul]
theorem flat_more {α : Type} {f : Nat → Nat → α} {n k : Nat} : ((List.range (k + 1)).flatMap fun x => (List.range n).map (f x)) = ((List.range k).flatMap fun x => (List.range n).map (f x)) ++ (List.range n).map (f k) := by
  rw [List.range_succ, List.flatMap_append]
  simp
theorem flat_spots {α : Type} {f : Pr → α} {k n : Nat} : ((List.range k).flatMap fun (x : Nat) => (List.range n).map fun (y : Nat) => f ((x : Int), (y : Int))) = (spots k n).map f := by
  unfold spots
  rw [List.map_flatMap]
  congr 1
  funext x
  rw [List.map_map]
  rfl
theorem neI_same {a b : Int} {Q : D → Prop} (e : a = b) (q : Q (.b false)) : wNeS (.i a) (.i b) Q := by
  show Q (.b (!decide (a = b)))
  rw [decide_eq_true e]
  exact q
theorem odd1 {L : List Pr} (l0 : 0 < L.length) (l7 : L.length ≤ 7) : NV (.t [.i (L.length : Int), .i 0, .i 1, .i 0, .i 0]) ∧ CM (.t [.i (L.length : Int), .i 0, .i 1, .i 0, .i 0]) ∧ floorD L (.t [.i (L.length : Int), .i 0, .i 1, .i 0, .i 0]) = false ∧ OutL.chkR (.t [.i (L.length : Int), .i 0, .i 1, .i 0, .i 0]) = true := by
  refine ⟨.t (by show 5 ≤ 1000; decide) (rds_cons (.small (by omega) (by omega)) (rds_cons (.small (by omega) (by omega)) (rds_cons (.small (by omega) (by omega)) (rds_cons (.small (by omega) (by omega)) (rds_cons (.small (by omega) (by omega)) rds_nil))))), fun w s h c d e => ?_, ?_, ?_⟩
  · simp only [D.t.injEq, List.cons.injEq, D.i.injEq, and_true] at e
    exact .inl ⟨by omega, by omega⟩
  · refine decide_eq_false fun o => ?_
    have := o.2.1
    rw [dbl_len] at this
    omega
  · generalize L.length = n at *
    have : n = 1 ∨ n = 2 ∨ n = 3 ∨ n = 4 ∨ n = 5 ∨ n = 6 ∨ n = 7 := by omega
    rcases this with rfl | rfl | rfl | rfl | rfl | rfl | rfl <;> decide +kernel
theorem odd2 {L : List Pr} (l0 : 0 < L.length) (l7 : L.length ≤ 7) : NV (.t [.i 1, .i 0, .i (3 * (L.length : Int)), .i 0, .i 0]) ∧ CM (.t [.i 1, .i 0, .i (3 * (L.length : Int)), .i 0, .i 0]) ∧ floorD L (.t [.i 1, .i 0, .i (3 * (L.length : Int)), .i 0, .i 0]) = false ∧ OutL.chkR (.t [.i 1, .i 0, .i (3 * (L.length : Int)), .i 0, .i 0]) = true := by
  refine ⟨.t (by show 5 ≤ 1000; decide) (rds_cons (.small (by omega) (by omega)) (rds_cons (.small (by omega) (by omega)) (rds_cons (.small (by omega) (by omega)) (rds_cons (.small (by omega) (by omega)) (rds_cons (.small (by omega) (by omega)) rds_nil))))), fun w s h c d e => ?_, ?_, ?_⟩
  · simp only [D.t.injEq, List.cons.injEq, D.i.injEq, and_true] at e
    exact .inl ⟨by omega, by omega⟩
  · refine decide_eq_false fun o => ?_
    have := o.2.1
    rw [dbl_len] at this
    omega
  · generalize L.length = n at *
    have : n = 1 ∨ n = 2 ∨ n = 3 ∨ n = 4 ∨ n = 5 ∨ n = 6 ∨ n = 7 := by omega
    rcases this with rfl | rfl | rfl | rfl | rfl | rfl | rfl <;> decide +kernel
end K40
namespace K40
variable [DL.TabsT]
open PySem PySem.Spec PyProof.Rows L2 Evl Lay ErrX DL TE DO ShM FlC
abbrev s_right : Stmt := top 65
abbrev N_right : List Str := ["_law_pool", "_law_turn", "_law_mine", "_law_some", "_law_floor_here", "_law_again", "_law_spot", "_law_told", "_law_x", "_law_y", "_law_odd"]
abbrev P_right : List Str := ["_law_pool"]
theorem sc_right : FnScope N_right P_right (defScope s_right) := ⟨rfl, rfl, rfl, by decide +kernel, rfl, by decide +kernel, by decide +kernel⟩
abbrev s_law : Stmt := top 66
abbrev N_law : List Str := ["_law_script", "_law_turn"]
abbrev P_law : List Str := ["_law_script"]
theorem sc_law : FnScope N_law P_law (defScope s_law) := ⟨rfl, rfl, rfl, by decide +kernel, rfl, by decide +kernel, by decide +kernel⟩
section
variable {P : Program} {w : World} {K : PySem.W.Frag} {mg : Str → Option Value} {base : Heap} {CS : Addr}
def S_right : List D → (D → Prop) → Prop := fun ds Q => match ds with
  | [.p 0] => Q (.b true)
  | _ => False
theorem len_right : ∀ ds P, S_right ds P → ds.length = P_right.length := fun ds P h => by
  unfold S_right at h
  split at h <;> first | rfl | exact h.elim
theorem d_right {C fI : Nat → Addr} {on : Nat → Bool} (Df : DefIn K mg "_law_right" s_right P_right) (LI : OutL.LamIn mg base K "_law_right" s_right) (Di_outcome : DefIn K mg "_law_outcome" s_outcome P_outcome) (T : Txt mg) (U : E24.Errs P K mg C fI on) (lo : ∀ i, lf i = true → i < 24 ∧ on i = true) (o21 : on 21 = true) (o22 : on 22 = true) (o23 : on 23 = true) (D_word : DefQ P w K mg base "_law_word" 2 P_word (OutL.spQ K C lf fun i y => y = .s (wordN i))) (MK_Shape : DO.MkOk P w K mg base "Shape" CS 6 ["self", "cells"] (DO.spMk K CS ["_cells"] S_ini)) (PR_cells : DO.PropD P w K mg base CS "cells" "_cells" 1) (D_small_tiles : DOk P w K mg base "_law_small_tiles" s_small_tiles 4 P_small_tiles S_small_tiles) (D_turned_floors : DOk P w K mg base "turned_floors" s_turned_floors 5 P_turned_floors (S_turned_floors CS)) (D_some_one : DOk P w K mg base "_law_some_one" s_some_one 2 P_some_one S_some_one) (D_far_spot : DOk P w K mg base "_law_far_spot" s_far_spot 3 P_far_spot S_far_spot) (D_floor_copy : DE.PkG P w K mg base "floor_copy" s_floor_copy 19 P_floor_copy (DE.spDE K (S_floor_copy C CS))) (D_is_held : DOk P w K mg base "_law_is_held" s_is_held 3 P_is_held (S_is_held CS)) (D_value : DOk P w K mg base "_law_value" s_value 3 P_value S_value) : DOk P w K mg base "_law_right" s_right 60 P_right S_right := by
  have SC := sc_right
  refine OutL.dokL (k := 59) Df LI sc_right (len_right) (body := fun f cdv A outer s H E LA hr hg => ⟨_, _, (pss_cons (ps_for PassesOwn.never rfl (pi_range1 (by rfl) T.z_range (pa_cons pe_int pa_nil)) (pg_name (i := 1) SC.nd rfl (Or.inl rfl)) (pss_cons (ps_set (i := 2) SC.nd rfl (Or.inr rfl) (DO.pe_mkG MK_Shape (hr.mono (by decide)) hg (pa_cons (pe_callTy (kx_tupleOf K) (by rfl) T.z_tuple (by decide +kernel) (pa_cons (pe_callD D_small_tiles.d (hr.mono (by decide)) hg (pa_cons (pv 0) (pa_cons pe_int pa_nil))) pa_nil)) pa_nil))) (pss_cons (ps_set (i := 3) SC.nd rfl (Or.inl rfl) (pe_callD D_turned_floors.d (hr.mono (by decide)) hg (pa_cons (pv 2) pa_nil))) (pss_cons (ps_if (pt_cmpR (kx_neD K hr.units) (pv 3) (pe_tup pa_nil) (nomark _)) (pss_cons (ps_set (i := 4) SC.nd rfl (Or.inr rfl) (pe_callD D_some_one.d (hr.mono (by decide)) hg (pa_cons (pv 0) (pa_cons (pv 3) pa_nil)))) (pss_cons (ps_for PassesOwn.never rfl (pi_range1 (by rfl) T.z_range (pa_cons pe_int pa_nil)) (pg_name (i := 5) SC.nd rfl (Or.inl rfl)) (pss_cons (ps_set (i := 6) SC.nd rfl (Or.inl rfl) (pe_callD D_far_spot.d (hr.mono (by decide)) hg (pa_cons (pv 0) pa_nil))) (pss_cons (ps_set (i := 7) SC.nd rfl (Or.inl rfl) (DE.pe_callG0 D_floor_copy (hr.mono (by decide)) hg (pa_cons (pv 2) (pa_cons (pv 4) (pa_cons (pv 6) pa_nil))))) (pss_cons (ps_if (pt_not (pt_val (pe_callD D_is_held.d (hr.mono (by decide)) hg (pa_cons (pv 2) (pa_cons (pv 4) (pa_cons (pv 6) (pa_cons (pv 7) pa_nil))))))) (pss_one (ps_ret pe_bl)) pss_nil) (pss_one (ps_if (pt_cmpR op_ne (pe_callB (kx_repr K hg hr.units) (by rfl) T.z_repr (by decide +kernel) (pa_cons (DE.pe_callKG0 D_floor_copy (hr.mono (by decide)) hg kb_floor_copy_210 g210_vals (L2.pk_cons (pv 6) (L2.pk_cons (pv 4) (L2.pk_cons (pv 2) L2.pk_nil)))) pa_nil)) (pe_callB (kx_repr K hg hr.units) (by rfl) T.z_repr (by decide +kernel) (pa_cons (pv 7) pa_nil)) (nomark _)) (pss_one (ps_ret pe_bl)) pss_nil)))))) (pss_cons (ps_set (i := 7) SC.nd rfl (Or.inl rfl) (pe_lst pa_nil)) (pss_cons (ps_for PassesOwn.never rfl (pi_range1 (by rfl) T.z_range (pa_cons (pe_ix (kx_ixT K) (pv 4) pe_int (fun _ _ => rfl)) pa_nil)) (pg_name (i := 8) SC.nd rfl (Or.inr rfl)) (pss_one (ps_set (i := 7) SC.nd rfl (Or.inl rfl) (pe_op op_cat (pv 7) (pe_lc (own := [("_law_y", 9)]) (g := (gName 9)) (tt := tYes) (by rfl) SC.nd (pi_range1 (by rfl) T.z_range (pa_cons (pe_ix (kx_ixT K) (pv 4) pe_int (fun _ _ => rfl)) pa_nil)) (blkOk_by (own := [("_law_y", 9)]) (N := N_right) (sc := defScope s_right) (by decide +kernel)) (fun _ _ _ _ _ => (pg_name (i := 9) SC.nd rfl (Or.inl rfl))) (fun _ _ _ _ _ => pts_nil) (fun _ _ _ _ _ => (pe_slice (DO.kx_slA K) (DE.pe_callG0 D_floor_copy (hr.mono (by decide)) hg (pa_cons (pv 2) (pa_cons (pv 4) (pa_cons (pe_tup (pa_cons (pv 8) (pa_cons (pv 9) pa_nil))) pa_nil)))) po_none (po_some pe_int)))))))) (pss_one (ps_if (pt_cmpR op_ne (SetM.pe_lenSetM (by rfl) T.z_len (by rfl) T.z_set (pv 7) hr.units) (pe_op op_mul pe_int (pe_callB (kx_len K) (by rfl) T.z_len (by decide +kernel) (pa_cons (DO.pe_propD PR_cells (hr.mono (by decide)) (pv 2) (by rfl)) pa_nil))) (nomark _)) (pss_one (ps_ret pe_bl)) pss_nil)))))) pss_nil) (pss_cons (ps_set (i := 10) SC.nd rfl (Or.inr rfl) (pe_callD D_some_one.d (hr.mono (by decide)) hg (pa_cons (pv 0) (pa_cons (pe_lst (pa_cons (pe_tup (pa_cons (pe_callB (kx_len K) (by rfl) T.z_len (by decide +kernel) (pa_cons (DO.pe_propD PR_cells (hr.mono (by decide)) (pv 2) (by rfl)) pa_nil)) (pa_cons pe_int (pa_cons pe_int (pa_cons pe_int (pa_cons pe_int pa_nil)))))) (pa_cons (pe_tup (pa_cons pe_int (pa_cons pe_int (pa_cons (pe_op op_mul pe_int (pe_callB (kx_len K) (by rfl) T.z_len (by decide +kernel) (pa_cons (DO.pe_propD PR_cells (hr.mono (by decide)) (pv 2) (by rfl)) pa_nil))) (pa_cons pe_int (pa_cons pe_int pa_nil)))))) (pa_cons (pe_callD D_value.d (hr.mono (by decide)) hg (pa_cons (pv 0) pa_nil)) pa_nil)))) pa_nil)))) (pss_one (ps_if (pt_cmpR (kx_neD K hr.units) (LamG.pe_lam (k := 37) (T := DL.TabsT.T) Di_outcome (by rfl) sc_outcome rfl (Or.inl rfl) (gv_outcome T U lo o21 o22 o23 D_word hg) LA (hr.mono (by decide)) (LamX.lamS_by (sc := defScope s_right) (by decide +kernel)) rfl (fun _ _ _ _ _ => rfl) (fun g1 cd1 s1 H1 E1 f1 cl1 t1 J1 r1 => (DE.pe_callG D_floor_copy (r1.mono (by decide)) hg (takes_of rfl rfl rfl rfl) (pa_cons (pv 2) (pa_cons (pv 10) (pa_cons (pe_tup (pa_cons pe_int (pa_cons pe_int pa_nil))) pa_nil))))) (by decide) (by decide) (by decide)) (pe_lst (pa_cons pe_str (pa_cons (pe_callB (kx_repr K hg hr.units) (by rfl) T.z_repr (by decide +kernel) (pa_cons (pv 10) pa_nil)) pa_nil))) (nomark _)) (pss_one (ps_ret pe_bl)) pss_nil))))))) (pss_one (ps_ret pe_bl))), (s_seq (s_for (i_rng1 (a_cons e_int a_nil)) g_name (s_seq (s_asg (DO.e_mk (a_cons (e_cb c_tupleOf (a_cons (e_call (a_cons e_var (a_cons e_int a_nil))) a_nil)) a_nil)) g_name) (s_seq (s_asg (e_call (a_cons e_var a_nil)) g_name) (s_seq (s_if (t_test (e_op o_neD e_var (e_tup a_nil))) (s_seq (s_asg (e_call (a_cons e_var (a_cons e_var a_nil))) g_name) (s_seq (s_for (i_rng1 (a_cons e_int a_nil)) g_name (s_seq (s_asg (e_call (a_cons e_var a_nil)) g_name) (s_seq (s_asg (DE.e_call0 (a_cons e_var (a_cons e_var (a_cons e_var a_nil)))) g_name) (s_seq (s_if (t_not (t_B (e_call (a_cons e_var (a_cons e_var (a_cons e_var (a_cons e_var a_nil))))))) (s_ret e_bl) s_next) (s_if (t_test (e_op o_neS (e_cb c_repr (a_cons (DE.e_callK0 RA.g210 (a_cons e_var (a_cons e_var (a_cons e_var a_nil)))) a_nil)) (e_cb c_repr (a_cons e_var a_nil)))) (s_ret e_bl) s_next))))) (s_seq (s_asg (e_f (f_lst a_nil)) g_name) (s_seq (s_for (i_rng1 (a_cons (e_op o_ixT e_var e_int) a_nil)) g_name (s_asg (e_f (f_cat e_var (e_f (f_lc (i_rng1 (a_cons (e_op o_ixT e_var e_int) a_nil)) g_name t_yes (DO.e_slA (DE.e_call0 (a_cons e_var (a_cons e_var (a_cons (e_tup (a_cons e_var (a_cons e_var a_nil))) a_nil)))) p_none (p_some e_int)))))) g_name)) (s_if (t_test (e_op o_neS (DL.e_lsetM DL.e_var) (e_op o_mul e_int (e_cb c_len (a_cons (DO.e_prop1 e_var) a_nil))))) (s_ret e_bl) s_next))))) s_next) (s_seq (s_asg (e_call (a_cons e_var (a_cons (e_f (f_lst (a_cons (e_tup (a_cons (e_cb c_len (a_cons (DO.e_prop1 e_var) a_nil)) (a_cons e_int (a_cons e_int (a_cons e_int (a_cons e_int a_nil)))))) (a_cons (e_tup (a_cons e_int (a_cons e_int (a_cons (e_op o_mul e_int (e_cb c_len (a_cons (DO.e_prop1 e_var) a_nil))) (a_cons e_int (a_cons e_int a_nil)))))) (a_cons (e_call (a_cons e_var a_nil)) a_nil))))) a_nil))) g_name) (s_if (t_test (e_op o_neD (OutL.e_lam (Sb := Sb) (Se := Se C) (a_cons e_var (a_cons e_var (a_cons (e_tup (a_cons e_int (a_cons e_int a_nil))) a_nil)))) (e_f (f_lst (a_cons e_str (a_cons (e_cb c_repr (a_cons e_var a_nil)) a_nil)))))) (s_ret e_bl) s_next)))))) (s_ret e_bl)), ?_⟩)
  clear hr hg
  intro ds Q h
  unfold S_right at h
  split at h
  · rw [show startG N_right.length [.p 0] = [.d (.p 0), .u, .u, .u, .u, .u, .u, .u, .u, .u, .u] from rfl]
    refine ⟨⟨by decide, by decide⟩, fun _ Γ => ∃ a1 a2 a3 a4 a5 a6 a7 a8 a9 b1, Γ = [.d (.p 0), a1, a2, a3, a4, a5, a6, a7, a8, a9, b1], ⟨_, _, _, _, _, _, _, _, _, _, rfl⟩, ?_, fun Γ' _ => h⟩
    rintro k z Γ' _ ⟨a1, a2, a3, a4, a5, a6, a7, a8, a9, b1, rfl⟩
    dsimp only [wgName, put]
    refine ⟨⟨by decide, by decide⟩, fun M ne l nd bd => ⟨M, rfl, ne, ⟨nd, fun p hp => by have := bd p hp; exact ⟨by omega, by omega, by omega, by omega⟩, by omega⟩, fun L hz => ?_⟩⟩
    have bL := zero_bd hz bd
    have lL : L.length = M.length := by
      obtain ⟨_, _, pm, _⟩ := hz
      rw [pm.length_eq, List.length_map]
    have l0 : 0 < L.length := by
      rw [lL]
      exact List.length_pos_iff.mpr ne
    have l7 : L.length ≤ 7 := by omega
    clear bd nd l ne hz lL
    dsimp only [wgName, put]
    refine ⟨L, rfl, l0, l7, ?_⟩
    dsimp only [wgName, put]
    refine seq6 (fun a b c d e g => [.d (.p 0), .d z, .d (shp CS L), .d (.t ((due L).map t5)), a, b, c, d, e, g, b1]) (fun nx => ?_) (fun a4 a5 a6 a7 a8 a9 => ?_)
    · have dl : (due L).length < 1000000 := by
        have := canon7 _ l7
        have := List.length_filter_le (okB L) (canon (2 * (L.length : Int)))
        unfold due
        omega
      refine ⟨by show 0 ≤ 100000; decide, neD_of (k := 2) (m := 1) (.t fun x hx => ?_) (.t fun x hx => by cases hx) (fun _ => ⟨(fun z => nomatch z), fun _ => nx _ _ _ _ _ _⟩) (fun nn => ⟨fun _ => ?_, fun z => nomatch z⟩)⟩
      · obtain ⟨f, _, rfl⟩ := List.mem_map.mp hx
        exact .t fun x hx => by
          simp only [List.mem_cons, List.not_mem_nil, or_false] at hx
          rcases hx with rfl | rfl | rfl | rfl | rfl <;> exact .i _
      have d0 : 0 < ((due L).map t5).length := List.length_pos_iff.mpr fun e => nn (by rw [e])
      refine ⟨⟨d0, by rw [List.length_map]; exact dl⟩, fun x hx => ?_⟩
      obtain ⟨f, hf, rfl⟩ := List.mem_map.mp hx
      obtain ⟨w, s, h', c, d, rfl, I, F, fD, nv, cm, c0, c1, e0, e1⟩ := due_floor l0 l7 hf
      have A := I.isL
      clear hx hf d0 dl nn
      dsimp only [wgName, put]
      have copy : ∀ (x y : Int) (Q : D → Prop), (∀ k : Nat, k < 2 * L.length → ShM.rest w s h' ((dbl c d L).getD k (0, 0)) = ShM.rest w s h' (x, y) → Q (.t [.i ((k : Int) % (L.length : Int)), .b (decide ((L.length : Int) ≤ (k : Int))), pt (x - ((dbl c d L).getD k (0, 0)).1, y - ((dbl c d L).getD k (0, 0)).2)])) → S_floor_copy C CS [shp CS L, t5 (w, s, h', c, d), pt (x, y)] Q fun _ _ => False := fun x y Q hq =>
        ⟨L, rfl, l0, l7, nv, cm, (fun z => by rw [fD] at z; cases z), fun _ => ⟨w, s, h', c, d, x, y, rfl, I, F, rfl, hq⟩⟩
      refine ⟨⟨by decide, by decide⟩, fun _ Γ => ∃ b5 b6 b7, Γ = [.d (.p 0), .d z, .d (shp CS L), .d (.t ((due L).map t5)), .d (t5 (w, s, h', c, d)), b5, b6, b7, a8, a9, b1], ⟨_, _, _, rfl⟩, ?_, fun Γ' hΓ => ?_⟩
      · rintro k2 z2 Γ' _ ⟨b5, b6, b7, rfl⟩
        dsimp only [wgName, put]
        intro px py hx hy
        dsimp only [wgName, put]
        refine copy px py _ fun k kl er => ?_
        dsimp only [wgName, put]
        obtain ⟨n, en, nl, ow⟩ := own_of (c := c) (d := d) kl
        obtain ⟨u1, u2⟩ := dbl_bd (w := w) (s := s) (h := h') kl c0 c1 e0 e1 bL
        refine ⟨L, n, rfl, l7, I, en, nl, rest_sub A er, ?_, ⟨(fun z => nomatch z), fun _ => ?_⟩⟩
        · split
          · rename_i zb
            rw [if_pos zb] at ow
            rw [ow]
            exact ⟨by show c - (L.getD n (0, 0)).1 + (px - (c - (L.getD n (0, 0)).1)) = px; omega, by show d - (L.getD n (0, 0)).2 + (py - (d - (L.getD n (0, 0)).2)) = py; omega⟩
          · rename_i zb
            rw [if_neg zb] at ow
            rw [ow]
            exact ⟨by omega, by omega⟩
        refine ⟨rfl, copy px py _ fun k3 kl3 er3 => ?_⟩
        obtain rfl : k3 = k := (spot_of F kl3 er3).trans (spot_of F kl er).symm
        have b2' : RD 2 (.t [.i ((k3 : Int) % (L.length : Int)), .b (decide ((L.length : Int) ≤ (k3 : Int))), pt (px - ((dbl c d L).getD k3 (0, 0)).1, py - ((dbl c d L).getD k3 (0, 0)).2)]) := copy_rd (by rw [en]; omega) (by omega) (by omega)
        refine reprD b2' (by simp [szD, szA, pt]) (reprD b2' (by simp [szD, szA, pt]) (neS_same ⟨(fun z => nomatch z), fun _ => ?_⟩))
        exact ⟨_, _, _, rfl⟩
      obtain ⟨b5, b6, b7, rfl⟩ := hΓ
      rw [show t5 (w, s, h', c, d) = .t [.i w, .i s, .i h', .i c, .i d] from rfl]
      refine ⟨by show 0 ≤ 100000; decide, ?_⟩
      dsimp only [wgName, put]
      obtain ⟨w0, w1, _, _, h0, h1⟩ := I
      refine ⟨_, rfl, ⟨by omega, by omega⟩, fun i Γ => ∃ b8 b9, Γ = [.d (.p 0), .d z, .d (shp CS L), .d (.t ((due L).map t5)), .d (.t [.i w, .i s, .i h', .i c, .i d]), b5, b6, .d (.l ((List.range i).flatMap fun (x : Nat) => (List.range h'.toNat).map fun (y : Nat) => tB (told L (spot w s h' c d L ((x : Int), (y : Int)))))), b8, b9, b1], ⟨_, _, rfl⟩, ?_, fun Γ' hΓ => ?_⟩
      · rintro i x Γ' hi ⟨b8, b9, rfl⟩
        obtain ⟨il, rfl⟩ := rngD_get' hi
        dsimp only [wgName, put]
        refine ⟨_, rfl, ⟨by omega, by omega⟩, by rw [rngD_len]; omega, fun _ => true, fun j e => e = tB (told L (spot w s h' c d L ((i : Int), (j : Int)))), fun j y hj => ?_, fun ys hs => ?_⟩
        · obtain ⟨jl, rfl⟩ := rngD_get' hj
          refine ⟨rfl, fun _ => ⟨by show 2 ≤ 100000; decide, copy _ _ _ fun k3 kl3 er3 => ?_⟩⟩
          simp only [Int.zero_add] at er3
          show DL.tB (told L k3) = DL.tB (told L (spot w s h' c d L ((i : Int), (j : Int))))
          rw [← spot_of F kl3 er3]
        · rw [rngD_len] at hs
          rw [hs.map]
          refine ⟨?_, ?_⟩
          · rw [flat_len, List.length_map, List.length_range]
            have : i * h'.toNat ≤ 100 * 100 := Nat.mul_le_mul (by omega) (by omega)
            omega
          · dsimp only [wgName, put]
            exact ⟨_, _, by rw [flat_more]⟩
      rw [rngD_len, flat_spots (f := fun p => DL.tB (told L (spot w s h' c d L p)))] at hΓ
      obtain ⟨b8, b9, rfl⟩ := hΓ
      refine ⟨(spots w.toNat h'.toNat).map fun p => told L (spot w s h' c d L p), by rw [List.map_map]; rfl, told_few A F l7, fun U nd mem => ?_⟩
      rw [told_all A F nd mem]
      refine ⟨_, rfl, .inl ⟨by decide, by decide⟩, ?_⟩
      refine neI_same (by rw [List.length_map]; omega) ⟨(fun z => nomatch z), fun _ => nx _ _ _ _ _ _⟩
    refine ⟨_, rfl, by show 5 ≤ 100000; decide, _, rfl, .inl ⟨by decide, by decide⟩, by show 5 ≤ 100000; decide, fun v hv => ⟨by show 3 ≤ 100000; decide, ⟨by show 0 < 3; decide, by show 3 < 1000000; decide⟩, fun x hx => ?_⟩⟩
    have o : NV x ∧ CM x ∧ floorD L x = false ∧ OutL.chkR x = true := by
      rw [List.length_map] at hx
      simp only [List.mem_cons, List.not_mem_nil, or_false] at hx
      rcases hx with rfl | rfl | rfl
      · exact odd1 l0 l7
      · exact odd2 l0 l7
      · exact ⟨hv.1, hv.2.1, hv.2.2.1 L l0, hv.2.2.2⟩
    obtain ⟨nv, cm, fD, ch⟩ := o
    obtain ⟨zt, zo, rp⟩ := OutL.repr_chk ch
    clear hx hv ch
    dsimp only [wgName, put]
    refine ⟨by show 2 ≤ 100000; decide, fun _ => False, fun a y => a = C 7 ∧ y = some (("given" : Str), x), ⟨L, rfl, l0, l7, nv, cm, (fun _ => ⟨rfl, rfl⟩), fun z => by rw [fD] at z; cases z⟩, (fun _ z => z.elim), fun a y hay => ?_⟩
    obtain ⟨rfl, rfl⟩ := hay
    refine ⟨7, x, by decide, rfl, rfl, rp _ ⟨by show 2 ≤ 100000; decide, rp _ ⟨by show 2 ≤ 100000; decide, ?_⟩⟩⟩
    refine neD_of (k := 1) (m := 1) (.l fun y hy => ?_) (.l fun y hy => ?_) (fun _ => ⟨(fun z => nomatch z), fun _ => ⟨_, _, _, _, _, _, _, _, _, _, rfl⟩⟩) (fun ne => absurd rfl ne)
    · simp only [List.mem_cons, List.not_mem_nil, or_false] at hy
      rcases hy with rfl | rfl
      · exact .s _ (by decide +kernel)
      · exact .s _ zo
    · simp only [List.mem_cons, List.not_mem_nil, or_false] at hy
      rcases hy with rfl | rfl
      · exact .s _ (by decide +kernel)
      · exact .s _ zo
  · exact h.elim
def S_law : List D → (D → Prop) → Prop := fun ds Q => match ds with
  | [.c ns] => (ns.length ≤ 63 ∧ ∀ z ∈ ns, Builtin.Int.intBits z ≤ 1048576) ∧ Q (.b true)
  | _ => False
theorem len_law : ∀ ds P, S_law ds P → ds.length = P_law.length := fun ds P h => by
  unfold S_law at h
  split at h <;> first | rfl | exact h.elim
theorem d_law (Df : DefIn K mg "law" s_law P_law) (T : Txt mg) (D_right : DOk P w K mg base "_law_right" s_right 60 P_right S_right) (D_origin : DefOk P w K mg base "_law_origin" 1 P_origin (spD K S_origin)) : DOk P w K mg base "law" s_law 61 P_law S_law := by
  have SC := sc_law
  refine dok (k := 60) Df sc_law (len_law) (body := fun f cdv A outer s H E hr hg => ⟨_, _, (pss_one (ps_ret (pe_callB (kx_all K rfl) (by rfl) T.z_all (by decide +kernel) (pa_cons (pe_lc (own := [("_law_turn", 1)]) (g := (gName 1)) (tt := tYes) (by rfl) SC.nd (pi_range1 (by rfl) T.z_range (pa_cons (pe_callB (call_max2 rfl) (by rfl) T.z_max (by decide +kernel) (pa_cons pe_int (pa_cons (pe_callB (call_min2 rfl) (by rfl) T.z_min (by decide +kernel) (pa_cons (pe_callB (kx_len K) (by rfl) T.z_len (by decide +kernel) (pa_cons (pv 0) pa_nil)) (pa_cons pe_int pa_nil))) pa_nil))) pa_nil)) (blkOk_by (own := [("_law_turn", 1)]) (N := N_law) (sc := defScope s_law) (by decide +kernel)) (fun _ _ _ _ _ => (pg_name (i := 1) SC.nd rfl (Or.inl rfl))) (fun _ _ _ _ _ => pts_nil) (fun _ _ _ _ _ => (pe_callD D_right.d (hr.mono (by decide)) hg (pa_cons (pe_callD D_origin.d (hr.mono (by decide)) hg (pa_cons (pv 0) (pa_cons (pv 1) pa_nil))) pa_nil)))) pa_nil)))), (s_ret (e_cb c_all (a_cons (e_f (f_lc (i_rng1 (a_cons (e_cb c_max2 (a_cons e_int (a_cons (e_cb c_min2 (a_cons (e_cb c_len (a_cons e_var a_nil)) (a_cons e_int a_nil))) a_nil))) a_nil)) g_name t_yes (e_call (a_cons (e_call (a_cons e_var (a_cons e_var a_nil))) a_nil)))) a_nil))), ?_⟩)
  clear hr hg
  intro ds Q h
  unfold S_law at h
  split at h
  · rename_i ns
    obtain ⟨l, h⟩ := h
    have b1 : ∃ n : Int, (if (if (4 : Int) < (ns.length : Int) then (4 : Int) else (ns.length : Int)) > 2 then (if (4 : Int) < (ns.length : Int) then (4 : Int) else (ns.length : Int)) else 2) = n ∧ 0 ≤ n ∧ n ≤ 6 := by
      refine ⟨_, rfl, ?_, ?_⟩
      · split <;> (try split) <;> omega
      · split <;> (try split) <;> omega
    obtain ⟨n, e, n1, n2⟩ := b1
    show ((-1000000 ≤ (if (if (4 : Int) < (ns.length : Int) then (4 : Int) else (ns.length : Int)) > 2 then (if (4 : Int) < (ns.length : Int) then (4 : Int) else (ns.length : Int)) else 2)) ∧ _) ∧ _
    rw [e]
    refine ⟨⟨by omega, by omega⟩, ⟨by rw [rngD_len]; omega, fun _ => true, fun _ d => d = .b true, fun k x hx => ?_, fun ys hs => ?_⟩⟩
    · obtain ⟨hk, rfl⟩ := rngD_get' hx
      exact ⟨rfl, fun _ => ⟨⟨l, by omega, by omega⟩, rfl⟩⟩
    · rw [rngD_len] at hs
      have := hs.map
      subst this
      refine ⟨List.replicate n.toNat true, by simp [List.map_const'], ?_⟩
      rw [show (List.replicate n.toNat true).all id = true from by simp]
      exact h
  · exact h.elim
end
end K40
namespace DO
open PySem PySem.Spec PyProof.Rows L2 Evl Lay ErrX DL
end DO
namespace DO
open PySem PySem.Spec PyProof.Rows L2 Evl Lay ErrX DL
end DO
namespace DO
open PySem PySem.Spec PyProof.Rows L2 Evl Lay ErrX DL
end DO
namespace Lay
open PySem PySem.Spec PyProof.Rows L2 Evl
end Lay
namespace DO
variable [DL.TabsT]
open PySem PySem.Spec PyProof.Rows L2 Evl Lay ErrX DL
open PySem.W (Frag nsIn codeIn keepIn)
structure ShIn (K : Frag) (mg : Str → Option Value) (C : Addr) (x fld pn : Str) (sI sC : Stmt) (q1 q2 : Str) : Prop where
  mg : mg x = some (.ref C)
  cl : Cl K C
  na : NoAttr K C fld
  init : ∃ f fd, Fun K "__init__" q1 sI f fd ∧ Mk K C f
  prop : ∃ p g fd, PropOf K C pn p g ∧ Fun K pn q2 sC g fd
def chkNo (K : Frag) (C : Addr) : Bool := ["NoneType", "bool", "int", "str", "tuple", "list", "dict"].all fun n => PySem.W.kitOne K (.type n) (.ref C) == some false
theorem startB {S : List D → (D → Prop) → Prop} (h : ∀ ns : List Int, ns.length ≤ 63 → (∀ z ∈ ns, Builtin.Int.intBits z ≤ 1048576) → S [.c ns] (fun d => d = .b true)) (K : Frag) (H : Hp) (kt : LamX.Tabs TabsT.T H) (a : Addr) (ns : List Int) (hl : ns.length ≤ 63) (hb : ∀ z ∈ ns, Builtin.Int.intBits z ≤ 1048576) (hS : SqL K H a (ns.map V.int)) : spD K S [.ref a] H (fun v _ => v = .bl true) E0 :=
  ⟨noTbl H, [.c ns], _, ⟨noTbl_ex H, noTbl_nt H, kt⟩, .cons (.c (noTbl_l hS)) .nil, h ns hl hb, fun v d F' H' e _ r => by
    subst e
    cases r
    rfl⟩
end DO
namespace HF
variable [DL.TabsT]
open PySem PySem.Spec PyProof.Rows L2 Evl Lay ErrX DL
open PySem.W (Frag nsIn codeIn keepIn findIn)
abbrev FnR : Type := Option ((Str × Str × Addr × Addr) × Arguments × FuncBody × Scope × List (Str × Addr) × Value)
def fnR (K : Frag) (a : Addr) : FnR := match K.lookup a with
  | some ⟨_, _, .func u, _⟩ => some ((u.name, u.qualname, u.globals, u.builtins), u.params, u.body, u.scope, u.closure, u.defaults)
  | _ => none
structure Fd where
  at_ : Frag → Addr
  name : Str
  qual : Str
  st : Stmt
def Fd.val (d : Fd) : FnR := some ((d.name, d.qual, mainGlobals, builtinsNs), defArgs d.st, .stmts (defBody d.st), defScope d.st, [], .none)
def Fd.ok (K : Frag) (d : Fd) : Bool := keepIn K (.ref (d.at_ K)) && (match K.lookup (d.at_ K) with
  | some ⟨_, _, .func u, _⟩ => codeIn K u.code d.qual
  | _ => false)
theorem Fd.fun_ {K : Frag} {d : Fd} (e : fnR K (d.at_ K) = d.val) (c : d.ok K = true) : ∃ fd, Fun K d.name d.qual d.st (d.at_ K) fd := by
  obtain ⟨c1, c2⟩ := Bool.and_eq_true_iff.mp c
  unfold fnR at e
  cases q : K.lookup (d.at_ K) with
  | none =>
    rw [q] at c2
    cases c2
  | some o =>
    obtain ⟨oc, od, dt, osl⟩ := o
    rw [q] at c2 e
    cases dt with
    | func u =>
      obtain ⟨a1, a2, a3, a4, a5, a6, a7, a8, a9, b1, b2, b3, b4, b5, b6⟩ := u
      have e2 : (some ((a1, a2, a6, b6), a3, a4, a5, a7, a8) : FnR) = some ((d.name, d.qual, mainGlobals, builtinsNs), defArgs d.st, .stmts (defBody d.st), defScope d.st, [], .none) := e
      simp only [Option.some.injEq, Prod.mk.injEq] at e2
      obtain ⟨⟨h1, h2, h3, h4⟩, h5, h6, h7, h8, h9⟩ := e2
      subst h1 h2 h3 h4 h5 h6 h7 h8 h9
      exact ⟨_, fun_mk (st := d.st) q c2 c1⟩
    | _ => cases c2
def refs1 : Value → List Addr
  | .ref a => [a]
  | _ => []
def valsAt (g : Addr → Option Obj) (a : Addr) : List Addr := match g a with
  | some ⟨_, _, .dict es _, _⟩ => es.toList.flatMap fun e => refs1 e.val
  | _ => []
def stepAt (g : Addr → Option Obj) (a : Addr) : List Addr := match g a with
  | some ⟨_, _, .func u, _⟩ => refs1 u.code
  | some ⟨_, _, .cls cd, _⟩ => [cd.ns]
  | some ⟨_, _, .fields vs, _⟩ => vs.toList.flatMap refs1
  | _ => []
/-- the module's values, their code and namespaces, what stands in these, its getters and code -/
def asP (g : Addr → Option Obj) : List Addr :=
  let l1 := valsAt g mainGlobals
  let l2 := l1.flatMap (stepAt g)
  let l3 := l2.flatMap (valsAt g)
  let l4 := l3.flatMap (stepAt g)
  let l5 := (l4.filter fun a => match g a with
    | some ⟨_, _, .func _, _⟩ => true
    | _ => false).flatMap (stepAt g)
  mainGlobals :: (l1 ++ (l2 ++ (l3 ++ (l4 ++ l5))))
abbrev AlP : Type := List FnR × (Bool × List (Option (List (Option (Str × Int)))))
def obsP (ds : List Fd) (ex : Frag → Bool) (ts : List He.Tab) (K : Frag) : AlP := (ds.map fun d => fnR K (d.at_ K), (ex K && ds.all (Fd.ok K), ts.map fun t => He.dicW K (t.1 K)))
def valP (ds : List Fd) (ts : List He.Tab) (w : World) : AlP := (ds.map Fd.val, (true, ts.map fun t => some (He.keysIn w.params t.2)))
section
variable {ds : List Fd} {ex : Frag → Bool} {ts : List He.Tab} {K : Frag} {w : World}
theorem says_ex (c : obsP ds ex ts K = valP ds ts w) : ex K = true := (Bool.and_eq_true_iff.mp (show (ex K && ds.all (Fd.ok K)) = true from congrArg (fun z : AlP => z.2.1) c)).1
theorem says_fn (c : obsP ds ex ts K = valP ds ts w) (i : Nat) {d : Fd} (h : ds[i]? = some d := by rfl) : ∃ fd, Fun K d.name d.qual d.st (d.at_ K) fd := by
  have c2 := (Bool.and_eq_true_iff.mp (show (ex K && ds.all (Fd.ok K)) = true from congrArg (fun z : AlP => z.2.1) c)).2
  have e : ds.map (fun d => fnR K (d.at_ K)) = ds.map Fd.val := congrArg (fun z : AlP => z.1) c
  have e2 := congrArg (fun l => l[i]?) e
  simp only [List.getElem?_map, h, Option.map_some, Option.some.injEq] at e2
  exact Fd.fun_ e2 (List.all_eq_true.mp c2 d (List.mem_of_getElem? h))
end
def gloB (K : Frag) (x : Str) : Bool := match nsIn K mainGlobals x with
  | some (some (.ref _)) => true
  | _ => false
theorem gloB_ok {K : Frag} {x : Str} (c : gloB K x = true) : nsIn K mainGlobals x = some (some (.ref (He.ga K x))) := by
  unfold gloB at c
  unfold He.ga
  split at c
  · rename_i a e
    rw [e]
  · cases c
/-- a def of the module -/
abbrev gFd (x : Str) (st : Stmt) : Fd := ⟨fun K => He.ga K x, x, x, st⟩
theorem defIn_of {K : Frag} {h : Heap} {mg : Str → Option Value} {x : Str} {st : Stmt} {ps : List Str} (X : K.In h) (G : h.Ns mainGlobals mg) (c : gloB K x = true) (F : ∃ fd, Fun K x x st (He.ga K x) fd) (b : ∀ fd, Fun K x x st (He.ga K x) fd → Binds K fd ps []) : DefIn K mg x st ps := by
  obtain ⟨fd, F⟩ := F
  exact ⟨_, fd, F, PySem.W.mg_of X G (gloB_ok c), b fd F⟩
def freeB (K : Frag) (x : Str) : Bool := match nsIn K mainGlobals x with
  | some none => true
  | _ => false
theorem freeB_ok {K : Frag} {x : Str} (c : freeB K x = true) : nsIn K mainGlobals x = some none := by
  unfold freeB at c
  split at c
  · assumption
  · cases c
/-- the method (or the property) m of the class x -/
def methB (K : Frag) (C : Addr) (m : Str) : Bool := match findIn K (.ref C) m with
  | some (some (.ref _)) => true
  | _ => false
theorem methB_ok {K : Frag} {C : Addr} {m : Str} (c : methB K C m = true) : findIn K (.ref C) m = some (some (.ref (He.ma K C m))) := by
  unfold methB at c
  unfold He.ma
  split at c
  · rename_i a e
    rw [e]
  · cases c
def getter (K : Frag) (p : Addr) : Addr := match PySem.W.recIn K p "property" with
  | some (.ref g :: _) => g
  | _ => 0
def recB (K : Frag) (p : Addr) : Bool := match PySem.W.recIn K p "property" with
  | some (.ref _ :: _) => true
  | _ => false
theorem recB_ok {K : Frag} {p : Addr} (c : recB K p = true) : ∃ r, PySem.W.recIn K p "property" = some (.ref (getter K p) :: r) := by
  unfold recB at c
  unfold getter
  split at c
  · rename_i a r e
    exact ⟨r, by rw [e]⟩
  · cases c
def propB (K : Frag) (C : Addr) (m : Str) : Bool := methB K C m && (decide (PySem.W.specialIn K (.ref (He.ma K C m)) "__get__" = some (some (.builtin "property.__get__"))) && (decide (PySem.W.takesIn K (.ref (He.ma K C m)) = some true) && recB K (He.ma K C m)))
theorem propB_ok {K : Frag} {C : Addr} {m : Str} (c : propB K C m = true) : PropOf K C m (He.ma K C m) (getter K (He.ma K C m)) := by
  obtain ⟨c1, c⟩ := Bool.and_eq_true_iff.mp c
  obtain ⟨c2, c⟩ := Bool.and_eq_true_iff.mp c
  obtain ⟨c3, c4⟩ := Bool.and_eq_true_iff.mp c
  exact ⟨methB_ok c1, of_decide_eq_true c2, of_decide_eq_true c3, recB_ok c4⟩
/-- the getter of a property, a method -/
abbrev pFd (x m : Str) (q : Str) (st : Stmt) : Fd := ⟨fun K => getter K (He.ma K (He.ga K x) m), m, q, st⟩
abbrev mFd (x m : Str) (q : Str) (st : Stmt) : Fd := ⟨fun K => He.ma K (He.ga K x) m, m, q, st⟩
/-- what is asked of a class -/
def clsB (K : Frag) (C : Addr) (fld : Str) : Bool :=
  (PySem.W.plainGet K C Str.empty && (PySem.W.hasDictIn K C && (PySem.W.plainOver K C && decide (findIn K (.ref C) "__setattr__" = some (some (.builtin "object.__setattr__")))))) &&
  ((decide (findIn K (.ref C) "__class__" = some (some (.builtin "object.__class__"))) && (decide (PySem.W.specialIn K (.builtin "object.__class__") "__get__" = some (some (.builtin "getset_descriptor.__get__"))) &&
    (decide (PySem.W.takesIn K (.builtin "object.__class__") = some true) && (decide (PySem.W.mroIn K C (.type "object") = some true) && DO.chkNo K C)))) &&
  (decide (findIn K (.ref C) fld = some none) && (PySem.W.makesIn K C && (keepIn K (.ref C) && (methB K C "__init__" && PySem.W.isFn K (.ref (He.ma K C "__init__")))))))
theorem sh_of {K : Frag} {h : Heap} {mg : Str → Option Value} {x fld pn q1 q2 : Str} {sI sC : Stmt} (X : K.In h) (G : h.Ns mainGlobals mg) (g : gloB K x = true) (c : clsB K (He.ga K x) fld = true) (p : propB K (He.ga K x) pn = true) (FI : ∃ fd, Fun K "__init__" q1 sI (He.ma K (He.ga K x) "__init__") fd) (FC : ∃ fd, Fun K pn q2 sC (getter K (He.ma K (He.ga K x) pn)) fd) : DO.ShIn K mg (He.ga K x) x fld pn sI sC q1 q2 := by
  obtain ⟨ca, c⟩ := Bool.and_eq_true_iff.mp c
  obtain ⟨a1, ca⟩ := Bool.and_eq_true_iff.mp ca
  obtain ⟨a2, ca⟩ := Bool.and_eq_true_iff.mp ca
  obtain ⟨a3, a4⟩ := Bool.and_eq_true_iff.mp ca
  obtain ⟨cb, c⟩ := Bool.and_eq_true_iff.mp c
  obtain ⟨b1, cb⟩ := Bool.and_eq_true_iff.mp cb
  obtain ⟨b2, cb⟩ := Bool.and_eq_true_iff.mp cb
  obtain ⟨b3, cb⟩ := Bool.and_eq_true_iff.mp cb
  obtain ⟨b4, b5⟩ := Bool.and_eq_true_iff.mp cb
  obtain ⟨d1, c⟩ := Bool.and_eq_true_iff.mp c
  obtain ⟨d2, c⟩ := Bool.and_eq_true_iff.mp c
  obtain ⟨d3, c⟩ := Bool.and_eq_true_iff.mp c
  obtain ⟨d4, d5⟩ := Bool.and_eq_true_iff.mp c
  obtain ⟨fi, FI⟩ := FI
  obtain ⟨fc, FC⟩ := FC
  refine ⟨PySem.W.mg_of X G (gloB_ok g), ⟨⟨a1, a2, a3, of_decide_eq_true a4⟩, of_decide_eq_true b1, of_decide_eq_true b2, of_decide_eq_true b3, of_decide_eq_true b4, fun n hn => beq_iff_eq.mp (List.all_eq_true.mp b5 n hn)⟩, show findIn K _ fld = some none from of_decide_eq_true d1, ⟨_, fi, FI, ⟨d2, methB_ok d4, d5, d3⟩⟩, ⟨_, _, fc, propB_ok p, FC⟩⟩
end HF
namespace HT
open PySem PySem.Spec PyProof.Rows L2 Evl Lay LamX
def tellT (a : Addr) (o : Obj) (xs : List V) (on : Bool) (ts : List Addr) : Hp := fun b => if on = true ∧ b = a then some (.frz o (.lst xs)) else if b ∈ ts then some (.tbl #[]) else none
theorem tellT_some {a b : Addr} {o : Obj} {xs : List V} {on : Bool} {ts : List Addr} {u : HO} (h : tellT a o xs on ts b = some u) : (on = true ∧ b = a ∧ u = .frz o (.lst xs)) ∨ (b ∈ ts ∧ u = .tbl #[]) := by
  unfold tellT at h
  split at h
  · rename_i z
    cases h
    exact .inl ⟨z.1, z.2, rfl⟩
  · split at h
    · rename_i z
      cases h
      exact .inr ⟨z, rfl⟩
    · cases h
theorem tellT_tab {a b : Addr} {o : Obj} {xs : List V} {on : Bool} {ts : List Addr} (ne : b ≠ a) (h : b ∈ ts) : tellT a o xs on ts b = some (.tbl #[]) := by
  unfold tellT
  rw [if_neg (fun z => ne z.2), if_pos h]
theorem law_callGT {P : Program} {w : World} {K : PySem.W.Frag} {mg mb : Str → Option Value} {k : Nat} {fa a : Addr} {ps : List Str} {sp : Sp} {s : Shared} {vs : List Value} {ns : List Int} {cs : List (Addr × Addr)}
    (KX : K.In s.heap) (hg : s.heap.Ns mainGlobals mg) (hb : s.heap.Ns builtinsNs mb) (hbb : ∀ x : Str, x ≠ "__name__" → mb x = bootBuiltins x) (hlim : s.heap.NoLimit) (hgens : s.gens = #[])
    (hT : ∀ p ∈ cs, s.heap.get? p.2 = some { cls := .none, data := .fields #[] }) (nT : ∀ p ∈ cs, K.lookup p.2 = none) (C : ∀ p ∈ cs, PySem.W.codeHdIn K p.1 p.2 = true)
    (hbm : ∃ (bm : Addr) (ob : Obj), mg "__builtins__" = some (.ref bm) ∧ bm ≠ builtinsNs ∧ s.heap.get? bm = some ob ∧ ob.cls = .type "module" ∧ ob.dict = some builtinsNs ∧ ob.data = .plain)
    (ha : s.heap.get? a = some { cls := .type "list", data := .seq vs.toArray }) (hi : IntsAre vs ns) (hl : ns.length ≤ sizeLine) (hr : Room k callerA)
    (F : ∀ base : Heap, K.In base → base.Ns mainGlobals mg → (∀ p ∈ cs, TabB base mg p.1 p.2) → ∃ fd, FnG P w K mg base CX0 k fa fd ps sp ∧ BindsTo s fd ⟨[.ref a], []⟩ (ps.zip [.ref a]))
    (hsp : ∀ H : Hp, (∀ p ∈ cs, H p.2 = some (.tbl #[])) → SqL K H a (ns.map V.int) → sp [.ref a] H (fun v _ => v = .bl true) E0) :
    codeAny (model P w) callerA (.call (.ref fa) ⟨[.ref a], []⟩) (fun r s' => r = .ok (.ret (.bool true)) ∧ OldK s.heap s'.heap ∧ s'.os = s.os ∧ AllBare s'.gens) s := by
  have rv := vals_ints hi
  have lenV := hi.length
  have isT : ∀ b : Addr, b ∈ cs.map (·.2) → s.heap.get? b = some { cls := .none, data := .fields #[] } := fun b h => by
    obtain ⟨p, hp, rfl⟩ := List.mem_map.mp h
    exact hT p hp
  have aT : ∀ b, b ∈ cs.map (·.2) → b ≠ a := fun b h z => by
    have q := isT b h
    rw [z, ha] at q
    cases (congrArg Obj.data (Option.some.inj q) : Data.seq vs.toArray _ = Data.fields #[])
  let on := (K.lookup a).isNone
  let oa : Obj := { cls := .type "list", data := .seq vs.toArray }
  let H : Hp := tellT a oa (ns.map V.int) on (cs.map (·.2))
  have tabH : ∀ p ∈ cs, H p.2 = some (.tbl #[]) := fun p hp => tellT_tab (aT _ (List.mem_map.mpr ⟨p, hp, rfl⟩)) (List.mem_map.mpr ⟨p, hp, rfl⟩)
  have old : ∀ {b o}, s.heap.get? b = some o → H b = none → (hidT s.heap H).get? b = some o := fun e n => hidT_get e n
  have offK : ∀ {b o}, K.lookup b = some o → H b = none := fun {b o} e => by
    cases q : H b with
    | none => rfl
    | some u =>
      rcases tellT_some q with ⟨q1, rfl, _⟩ | ⟨q1, _⟩
      · have q2 : (K.lookup b).isNone = true := q1
        rw [e] at q2
        cases q2
      · obtain ⟨p, hp, rfl⟩ := List.mem_map.mp q1
        rw [nT p hp] at e
        cases e
  have offO : ∀ {b o}, s.heap.get? b = some o → (∀ x n, o.data ≠ .seq x n) → (∀ x, o.data ≠ .fields x) → H b = none := fun {b o} e d1 d2 => by
    cases q : H b with
    | none => rfl
    | some u =>
      rcases tellT_some q with ⟨_, rfl, _⟩ | ⟨q1, _⟩
      · rw [ha] at e
        cases e
        exact (d1 _ _ rfl).elim
      · rw [isT b q1] at e
        cases e
        exact (d2 _ rfl).elim
  have offD : ∀ {b o es ep}, s.heap.get? b = some o → o.data = .dict es ep → H b = none := fun {b o es ep} e d => offO e (fun x n z => by rw [d] at z; cases z) fun x z => by rw [d] at z; cases z
  have ns_base : ∀ {b : Addr} {m : Str → Option Value}, s.heap.Ns b m → (hidT s.heap H).Ns b m := fun {b m} ⟨o, es, ep, e, d, r⟩ => ⟨o, es, ep, old e (offD e d), d, r⟩
  have kb : K.In (hidT s.heap H) := fun b o e => old (KX b o e) (offK e)
  have hM : Mod K mg (hidT s.heap H) := ⟨kb, ns_base hg, ⟨mb, ns_base hb, hbb⟩, let ⟨mc, h1, h2⟩ := hlim; ⟨mc, ns_base h1, h2⟩⟩
  have TB : ∀ p ∈ cs, TabB (hidT s.heap H) mg p.1 p.2 := fun p hp => by
    have noG : mainGlobals ≠ p.2 := fun z => by
      obtain ⟨o, es, ep, e, d, _⟩ := hg
      rw [z, hT p hp] at e
      cases e
      cases d
    refine ⟨PySem.W.codeHd_of_K kb (C p hp), ?_, noG⟩
    obtain ⟨bm, ob, b1, b2, b3, b4, b5, b6⟩ := hbm
    have nG : bm ≠ mainGlobals := fun q => by
      obtain ⟨o, es, ep, e, d, _⟩ := hg
      rw [q, e] at b3
      cases b3
      rw [d] at b6
      cases b6
    have nP : bm ≠ p.2 := fun q => by
      rw [q, hT p hp] at b3
      cases b3
      cases b6
    exact ⟨bm, ob, b1, b2, nG, nP, old b3 (offO b3 (fun x n z => by rw [b6] at z; cases z) fun x z => by rw [b6] at z; cases z), b4, b5, b6⟩
  have hok : HOk P w H s.heap := fun b u q => by
    rcases tellT_some q with ⟨_, rfl, rfl⟩ | ⟨q1, rfl⟩
    · exact ⟨ha, by rw [List.length_map]; exact hl, vs, _, rv, ha⟩
    · exact isT b q1
  have e0 : Env0 P w K mg (hidT s.heap H) callerA [] s H := ⟨rfl, hM, fun b o e => of_hidT e, Nat.le_of_eq (hidT_size _ _), trivial, fun b hb => absurd (show b ∈ ([] : List Addr) from hb) (by simp), hok, .of_eq hgens⟩
  have hS : SqL K H a (ns.map V.int) := by
    cases q : K.lookup a with
    | none =>
      have z : H a = some (.frz oa (.lst (ns.map V.int))) := if_pos ⟨by show (K.lookup a).isNone = true; rw [q]; rfl, rfl⟩
      exact .inl (.inr ⟨oa, z⟩)
    | some o =>
      have e := KX a o q
      rw [ha] at e
      cases e
      exact .inr ⟨_, vs.toArray, _, q, rfl, rfl, rfl, by rw [List.size_toArray, lenV]; exact hl, by simpa using rv⟩
  obtain ⟨fd, F0, hbind⟩ := F _ kb (ns_base hg) TB
  refine codeAny_mono (F0.run callerA [] s H ⟨[.ref a], []⟩ [.ref a] [.ref a] _ _ hr rfl e0 hbind (.cons rfl .nil) (hsp H tabH hS)) fun r s' h => ?_
  cases r with
  | error e => exact False.elim h
  | ok fl =>
    cases fl with
    | next => exact False.elim h
    | brk => exact False.elim h
    | cont => exact False.elim h
    | ret u =>
      obtain ⟨v, H', os, bare, un, hok', r', q⟩ := h
      obtain rfl : v = .bl true := q
      obtain rfl : u = Value.bool true := r'
      have stays : ∀ b o, b ∉ cs.map (·.2) → s.heap.get? b = some o → s'.heap.get? b = some o := fun b o nb e => by
        cases q : H b with
        | none => exact un.keep b o e q (by intro z; exact absurd (show b ∈ ([] : List Addr) from z) (by simp)) (by simp)
        | some u =>
          rcases tellT_some q with ⟨_, rfl, rfl⟩ | ⟨q1, _⟩
          · have e1 := (hok b _ q).1
            have e2 := (hok' b _ (un.frzs b oa _ q)).1
            rw [e] at e1
            cases e1
            exact e2
          · exact absurd q1 nb
      have grown : ∀ p ∈ cs, ∃ more : Array Value, s'.heap.get? p.2 = some { cls := .none, data := .fields more } := fun p hp => by
        obtain ⟨more, z⟩ := un.tbls p.2 #[] (tabH p hp)
        exact ⟨_, hok' p.2 _ z⟩
      refine ⟨rfl, ⟨fun b o e => ?_, fun b o e => ?_⟩, os, bare⟩
      · by_cases hb : b ∈ cs.map (·.2)
        · obtain ⟨p, hp, rfl⟩ := List.mem_map.mp hb
          obtain ⟨more, hm⟩ := grown p hp
          rw [hT p hp] at e
          cases e
          exact .inr (.inl ⟨((PySem.W.codeHd_of_K KX (C p hp)).tab (hT p hp)).isCodeTable, rfl, #[], more, rfl, by rw [Array.empty_append]; exact hm⟩)
        · exact .inl (stays b o hb e)
      · by_cases hb : b ∈ cs.map (·.2)
        · obtain ⟨p, hp, rfl⟩ := List.mem_map.mp hb
          obtain ⟨more, hm⟩ := grown p hp
          exact ⟨_, hm⟩
        · exact ⟨o, stays b o hb e⟩
end HT
namespace HT
open PySem PySem.Spec PyProof.Rows L2 Evl Lay LamX DL HF ErrX
open PySem.W (Frag nsIn codeIn keepIn findIn)
def cellsAt (g : Addr → Option Obj) (a : Addr) : List Addr := match g a with
  | some ⟨_, _, .func u, _⟩ => u.closure.map (·.2)
  | _ => []
/-- as HF's, with the cells of the methods and the models' own facts -/
def asQ (g : Addr → Option Obj) : List Addr :=
  let l3 := ((valsAt g mainGlobals).flatMap (stepAt g)).flatMap (valsAt g)
  asP g ++ (cStatics :: l3.flatMap (cellsAt g))
structure Sd where
  at_ : Frag → Addr
  cls : Frag → Addr
  qual : Str
  st : Stmt
abbrev FnS : Type := Option ((Str × Str × Addr × Addr) × Arguments × FuncBody × Scope × List Str × Value)
def fnS (K : Frag) (a : Addr) : FnS := match K.lookup a with
  | some ⟨_, _, .func u, _⟩ => some ((u.name, u.qualname, u.globals, u.builtins), u.params, u.body, u.scope, u.closure.map (·.1), u.defaults)
  | _ => none
def Sd.val (d : Sd) : FnS := some (("__init__", d.qual, mainGlobals, builtinsNs), defArgs d.st, .stmts (defBody d.st), defScope d.st, ["__class__"], .none)
def cellB (K : Frag) (c D : Addr) : Bool := match K.lookup c with
  | some ⟨_, _, .cell (some (.ref d)), _⟩ => d == D
  | _ => false
def fileB (K : Frag) (file : Str) (c : Addr) : Bool := match K.lookup c with
  | some ⟨_, _, .fields vs, _⟩ => (match (vs[2]? : Option Value) with
    | some (.str f _) => file == f
    | _ => false)
  | _ => false
theorem cellB_ok {K : Frag} {c D : Addr} (h : cellB K c D = true) : ∃ cl cld csl, K.lookup c = some ⟨cl, cld, .cell (some (.ref D)), csl⟩ := by
  unfold cellB at h
  split at h
  · rename_i e
    rw [eq_of_beq h] at e
    exact ⟨_, _, _, e⟩
  · cases h
theorem fileB_ok {K : Frag} {file : Str} {c : Addr} (h : fileB K file c = true) : ∃ cl cld vs csl f tf, K.lookup c = some ⟨cl, cld, .fields vs, csl⟩ ∧ vs[2]? = some (.str f tf) ∧ (file == f) = true := by
  unfold fileB at h
  split at h
  · rename_i e
    split at h
    · rename_i e2
      exact ⟨_, _, _, _, _, _, e, e2, h⟩
    · cases h
  · cases h
def Sd.ok (K : Frag) (file : Str) (d : Sd) : Bool := PySem.W.isClsIn K (d.cls K) && (match K.lookup (d.at_ K) with
  | some ⟨_, _, .func u, _⟩ => codeIn K u.code d.qual && ((match u.code with
    | .ref c => fileB K file c
    | _ => false) && (match u.closure with
    | [(_, c)] => cellB K c (d.cls K)
    | _ => false))
  | _ => false)
theorem Sd.sup {prog : Program} {K : Frag} {d : Sd} (e : fnS K (d.at_ K) = d.val) (c : d.ok K prog.main.file = true) (top : (prog.main.scope.names.lookup ("super" : Str)).isSome = false) :
    SupFn prog K (d.at_ K) (d.cls K) d.qual (defArgs d.st) (defBody d.st) (defScope d.st) := by
  obtain ⟨c1, c2⟩ := Bool.and_eq_true_iff.mp c
  unfold fnS at e
  cases q : K.lookup (d.at_ K) with
  | none =>
    rw [q] at c2
    cases c2
  | some o =>
    obtain ⟨oc, od, dt, osl⟩ := o
    rw [q] at c2 e
    cases dt with
    | func u =>
      obtain ⟨a1, a2, a3, a4, a5, a6, a7, a8, a9, b1, b2, b3, b4, b5, b6⟩ := u
      have e2 : (some ((a1, a2, a6, b6), a3, a4, a5, a7.map (·.1), a8) : FnS) = d.val := e
      unfold Sd.val at e2
      simp only [Option.some.injEq, Prod.mk.injEq] at e2
      obtain ⟨⟨h1, h2, h3, h4⟩, h5, h6, h7, h8, h9⟩ := e2
      subst h1 h2 h3 h4 h5 h6 h7 h9
      obtain ⟨c3, c4⟩ := Bool.and_eq_true_iff.mp c2
      obtain ⟨c4, c5⟩ := Bool.and_eq_true_iff.mp c4
      cases a7 with
      | nil => cases h8
      | cons z zs =>
        simp only [List.map_cons, List.cons.injEq, List.map_eq_nil_iff] at h8
        obtain ⟨hn, rfl⟩ := h8
        obtain ⟨zn, zc⟩ := z
        obtain rfl : zn = ("__class__" : Str) := hn
        obtain ⟨cl, cld, csl, hcell⟩ := cellB_ok c5
        cases b4 with
        | ref cda =>
          obtain ⟨ccl, cdd, vs, ccs, f, tf, hcode, hvs, hf⟩ := fileB_ok c4
          exact E24.sup_mk2 q c3 hcode hvs hf hcell c1 top
        | _ => cases c4
    | _ => cases c2
end HT
namespace HT
open PySem PySem.Spec PyProof.Rows L2 Evl Lay LamX DL HF ErrX
open PySem.W (Frag nsIn codeIn keepIn findIn)
abbrev AlQ : Type := AlP × ((List FnS × Bool) × Bool)
structure TabsOk (tf : List He.Defn) (K : Frag) (h : Heap) : Prop where
  hd : ∀ p ∈ tf, PySem.W.codeHdIn K (He.cT K p).1 (He.cT K p).2 = true
  out : ∀ p ∈ tf, K.lookup (He.cT K p).2 = none
  empty : ∀ p ∈ tf, h.get? (He.cT K p).2 = some { cls := .none, data := .fields #[] }
def supP (ss : List Sd) (file : Str) (K : Frag) : List FnS × Bool := (ss.map fun d => fnS K (d.at_ K), ss.all (Sd.ok K file))
def supV (ss : List Sd) : List FnS × Bool := (ss.map Sd.val, true)
def obsQ (ds : List Fd) (ss : List Sd) (ex : Frag → Bool) (ts : List He.Tab) (tf : List He.Defn) (file : Str) (g : Addr → Option Obj) : AlQ :=
  (obsP ds ex ts (He.frT g (asQ g)), (supP ss file (He.frT g (asQ g)), He.tabsB g tf (He.frT g (asQ g))))
def valQ (ds : List Fd) (ss : List Sd) (ts : List He.Tab) (w : World) : AlQ := (valP ds ts w, (supV ss, true))
theorem tabs_of {tf : List He.Defn} {h : Heap} (e : He.tabsB h.get? tf (He.frT h.get? (asQ h.get?)) = true) : TabsOk tf (He.frT h.get? (asQ h.get?)) h := by
  have key : ∀ p ∈ tf, PySem.W.codeHdIn (He.frT h.get? (asQ h.get?)) (He.cT (He.frT h.get? (asQ h.get?)) p).1 (He.cT (He.frT h.get? (asQ h.get?)) p).2 = true ∧ ∃ o, h.get? (He.cT (He.frT h.get? (asQ h.get?)) p).2 = some o ∧ He.emptyTab o = true := fun p hp => by
    obtain ⟨h3, h4⟩ := Bool.and_eq_true_iff.mp (List.all_eq_true.mp e p hp)
    refine ⟨h3, ?_⟩
    split at h4
    · rename_i o q
      exact ⟨o, q, h4⟩
    · cases h4
  exact ⟨fun p hp => (key p hp).1, fun p hp => let ⟨_, _, q, z⟩ := key p hp; He.frT_none q z, fun p hp => by
    obtain ⟨_, o, q, z⟩ := key p hp
    rw [q, He.emptyTab_eq z]⟩
def Says (ds : List Fd) (ss : List Sd) (ex : Frag → Bool) (ts : List He.Tab) (tf : List He.Defn) (file : Str) (w : World) (h : Heap) (K : Frag) : Prop := obsP ds ex ts K = valP ds ts w ∧ supP ss file K = supV ss ∧ TabsOk tf K h
def hookQ (ds : List Fd) (ss : List Sd) (ex : Frag → Bool) (ts : List He.Tab) (tf : List He.Defn) (file : Str) : PySem.W.Hook where
  α := AlQ
  obs := fun s => obsQ ds ss ex ts tf file s.heap.get?
  val := valQ ds ss ts
  says := fun w h => ∃ K : Frag, K.In h ∧ Says ds ss ex ts tf file w h K
  of := fun _ _ e => ⟨_, He.frT_in, congrArg (fun z : AlQ => z.1) e, congrArg (fun z : AlQ => z.2.1) e, tabs_of (congrArg (fun z : AlQ => z.2.2) e)⟩
  keeps := fun _ _ _ ⟨K, hK, c⟩ k => ⟨K, PySem.W.Frag.In.keeps hK k, c.1, c.2.1, ⟨c.2.2.hd, c.2.2.out, fun p hp => k _ _ (c.2.2.empty p hp)⟩⟩
theorem obsQ_eq {ds : List Fd} {ss : List Sd} {ex : Frag → Bool} {ts : List He.Tab} {tf : List He.Defn} {file : Str} {g : Addr → Option Obj} {s : Shared} (h : ∀ a, g a = s.heap.get? a) : obsQ ds ss ex ts tf file g = (hookQ ds ss ex ts tf file).obs s := by
  rw [funext h]
  rfl
section
variable {K : Frag} {ss : List Sd}
theorem says_sup {prog : Program} (c : supP ss prog.main.file K = supV ss) (top : (prog.main.scope.names.lookup ("super" : Str)).isSome = false) (i : Nat) {d : Sd} (h : ss[i]? = some d := by rfl) : SupFn prog K (d.at_ K) (d.cls K) d.qual (defArgs d.st) (defBody d.st) (defScope d.st) := by
  have e : ss.map (fun d => fnS K (d.at_ K)) = ss.map Sd.val := congrArg (fun z : List FnS × Bool => z.1) c
  have e2 := congrArg (fun l => l[i]?) e
  simp only [List.getElem?_map, h, Option.map_some, Option.some.injEq] at e2
  exact Sd.sup e2 (List.all_eq_true.mp (congrArg (fun z : List FnS × Bool => z.2) c) d (List.mem_of_getElem? h)) top
/-- the tables of the defs of tf, what is made at them -/
abbrev lamT (tf : List He.Defn) (K : Frag) : DL.TabsT := ⟨tf.map fun p => ((He.cT K p).2, p.1 ++ ".<locals>." ++ "<lambda>")⟩
theorem lamIn_of {tf : List He.Defn} {mg : Str → Option Value} {base : Heap} {x : Str} {st : Stmt} (hx : (x, none) ∈ tf) (hm : mg x = some (.ref (He.ga K x))) (B : TabB base mg (He.cT K (x, none)).1 (He.cT K (x, none)).2)
    (one : ∀ p ∈ tf, (He.cT K p).2 = (He.cT K (x, none)).2 → p.1 = x) : @OutL.LamIn (lamT tf K) mg base K x st := by
  intro f fd hf F
  rw [hm] at hf
  obtain rfl : He.ga K x = f := by
    cases hf
    rfl
  obtain ⟨⟨oc, od, kV, doc, pm, an, cdv, ct, osl, rfl, lk, hc⟩, _⟩ := F
  obtain ⟨c, rfl⟩ := He.codeIn_ref hc
  have ec : He.codeOf K (x, none) = c := He.codeOf_eq (p := (x, none)) lk rfl
  refine ⟨c, (He.cT K (x, none)).2, rfl, ?_, List.mem_map.mpr ⟨(x, none), hx, rfl⟩, fun p hp e => ?_⟩
  · rw [← ec]
    exact B
  · obtain ⟨q, hq, rfl⟩ := List.mem_map.mp hp
    show q.1 ++ _ ++ _ = _
    rw [one q hq e]
end
theorem walk_ofHT {l : PySem.W.OpenLaw} {n k : Nat} {q : Program} {loose : List Str} {XP : (Str → Option Value) → Heap → Prop} {YP : World → Heap → Prop} {d : DefRec} {ps : List Str} {sp : Frag → Sp} {tf : List He.Defn}
    (hn : l.most = some n) (hn2 : n ≤ sizeLine) (hdf : d.params.defaults = []) (hr : Room k callerA) (h1 : ps.length = 1)
    (F : ∀ (w : World) (mg : Str → Option Value) (h : Heap), YP w h → h.Ns mainGlobals mg → ∃ K : Frag, K.In h ∧ TabsOk tf K h ∧ ∀ base : Heap, (∀ p ∈ tf, TabB base mg (He.cT K p).1 (He.cT K p).2) → DefOk l.prog w K mg base d.name k ps (sp K))
    (hsp : ∀ (K : Frag) (H : Hp) (a : Addr) (ns : List Int), ns.length ≤ n → (∀ z ∈ ns, Builtin.Int.intBits z ≤ 1048576) → (∀ p ∈ tf, H (He.cT K p).2 = some (.tbl #[])) → SqL K H a (ns.map V.int) → sp K [.ref a] H (fun v _ => v = .bl true) E0) :
    PySem.W.WalkO q loose XP YP l.row.toRowW d [] (fun f vs => PySem.call f vs) := by
  refine Att.attach_callB hn hdf fun w s₀ s₁ mg mb fa o pm cd doc a vs ns G Y ho hd hcd hmg hobj hints hlen hbits hg => ?_
  obtain ⟨K, KX, TK, D⟩ := F w mg _ Y G.T.g
  have cs : ∀ {R : Addr × Addr → Prop}, (∀ p ∈ tf, R (He.cT K p)) → ∀ p ∈ tf.map (He.cT K), R p := fun {R} h p hp => by
    obtain ⟨q, hq, rfl⟩ := List.mem_map.mp hp
    exact h q hq
  refine law_callGT (cs := tf.map (He.cT K)) (K := K) (ps := ps) (sp := sp K) (k := k) KX G.T.g G.T.b G.T.builtins G.T.nolimit hg (cs TK.empty) (cs TK.out) (cs TK.hd) G.T.bmain hobj hints (Nat.le_trans hlen hn2) hr (fun base kb gb tb => ?_) fun H tH hS => hsp _ H a ns hlen hbits (fun p hp => tH _ (List.mem_map.mpr ⟨p, hp, rfl⟩)) hS
  obtain ⟨f0, fd0, F0, m0, kp0, b0⟩ := (D base fun p hp => tb _ (List.mem_map.mpr ⟨p, hp, rfl⟩)).ex
  obtain rfl : f0 = fa := by
    rw [hmg] at m0
    cases m0
    rfl
  have bz := b0 s₁ [.ref a] KX (by rw [h1]; rfl)
  rw [List.append_nil] at bz
  exact ⟨fd0, F0, bz⟩
end HT
namespace K40
variable [DL.TabsT]
open PySem PySem.Spec PyProof.Rows L2 Evl Lay ErrX DL TE DO
open PySem.W (Frag nsIn codeIn keepIn)
abbrev s_cells : Stmt := clsFn (top 31) 2
abbrev N_cells : List Str := ["self"]
theorem sc_cells : FnScope N_cells ["self"] (defScope s_cells) := ⟨rfl, rfl, rfl, by decide +kernel, rfl, by decide +kernel, by decide +kernel⟩
theorem bd_init {K : PySem.W.Frag} {f : Addr} (fd : FuncData) (F : Fun K "__init__" "Shape.__init__" s_init f fd) : Binds K fd ["self", "cells"] [] := F.binds (ps := ["self", "cells"]) fun _ _ _ _ _ _ us hl => match us, hl with | [_, _], _ => rfl
theorem bd_cells {K : PySem.W.Frag} {f : Addr} (fd : FuncData) (F : Fun K "cells" "Shape.cells" s_cells f fd) : Binds K fd ["self"] [] := F.binds (ps := ["self"]) fun _ _ _ _ _ _ us hl => match us, hl with | [_], _ => rfl
structure Mths (K : Frag) (C : Addr) : Prop where
  len : ∃ g fd, PySem.W.findIn K (.ref C) "__len__" = some (some (.ref g)) ∧ PySem.W.isFn K (.ref g) = true ∧ Fun K "__len__" "Shape.__len__" s_m_len g fd
theorem bd_is_int {K : PySem.W.Frag} {f : Addr} (fd : FuncData) (F : Fun K "is_int" "is_int" s_is_int f fd) : Binds K fd P_is_int [] := F.binds (ps := P_is_int) fun _ _ _ _ _ _ us hl => match us, hl with | [_], _ => rfl
theorem bd_is_ints {K : PySem.W.Frag} {f : Addr} (fd : FuncData) (F : Fun K "is_ints" "is_ints" s_is_ints f fd) : Binds K fd P_is_ints [] := F.binds (ps := P_is_ints) fun _ _ _ _ _ _ us hl => match us, hl with | [_, _], _ => rfl
theorem bd_is_pair {K : PySem.W.Frag} {f : Addr} (fd : FuncData) (F : Fun K "is_pair" "is_pair" s_is_pair f fd) : Binds K fd P_is_pair [] := F.binds (ps := P_is_pair) fun _ _ _ _ _ _ us hl => match us, hl with | [_], _ => rfl
theorem bd_is_place {K : PySem.W.Frag} {f : Addr} (fd : FuncData) (F : Fun K "is_place" "is_place" s_is_place f fd) : Binds K fd P_is_place [] := F.binds (ps := P_is_place) fun _ _ _ _ _ _ us hl => match us, hl with | [_], _ => rfl
theorem bd_is_lattice {K : PySem.W.Frag} {f : Addr} (fd : FuncData) (F : Fun K "is_lattice" "is_lattice" s_is_lattice f fd) : Binds K fd P_is_lattice [] := F.binds (ps := P_is_lattice) fun _ _ _ _ _ _ us hl => match us, hl with | [_], _ => rfl
theorem bd_first_wrong {K : PySem.W.Frag} {f : Addr} (fd : FuncData) (F : Fun K "first_wrong" "first_wrong" s_first_wrong f fd) : Binds K fd P_first_wrong [] := F.binds (ps := P_first_wrong) fun _ _ _ _ _ _ us hl => match us, hl with | [_, _], _ => rfl
theorem bd_is_nonempty {K : PySem.W.Frag} {f : Addr} (fd : FuncData) (F : Fun K "is_nonempty" "is_nonempty" s_is_nonempty f fd) : Binds K fd P_is_nonempty [] := F.binds (ps := P_is_nonempty) fun _ _ _ _ _ _ us hl => match us, hl with | [_], _ => rfl
theorem bd_check_cells {K : PySem.W.Frag} {f : Addr} (fd : FuncData) (F : Fun K "check_cells" "check_cells" s_check_cells f fd) : Binds K fd P_check_cells [] := F.binds (ps := P_check_cells) fun _ _ _ _ _ _ us hl => match us, hl with | [_], _ => rfl
theorem bd_check_cell {K : PySem.W.Frag} {f : Addr} (fd : FuncData) (F : Fun K "check_cell" "check_cell" s_check_cell f fd) : Binds K fd P_check_cell [] := F.binds (ps := P_check_cell) fun _ _ _ _ _ _ us hl => match us, hl with | [_], _ => rfl
theorem bd_from_zero {K : PySem.W.Frag} {f : Addr} (fd : FuncData) (F : Fun K "from_zero" "from_zero" s_from_zero f fd) : Binds K fd P_from_zero [] := F.binds (ps := P_from_zero) fun _ _ _ _ _ _ us hl => match us, hl with | [_], _ => rfl
theorem bd_check_shape {K : PySem.W.Frag} {f : Addr} (fd : FuncData) (F : Fun K "check_shape" "check_shape" s_check_shape f fd) : Binds K fd P_check_shape [] := F.binds (ps := P_check_shape) fun _ _ _ _ _ _ us hl => match us, hl with | [_], _ => rfl
theorem bd_rest_of {K : PySem.W.Frag} {f : Addr} (fd : FuncData) (F : Fun K "rest_of" "rest_of" s_rest_of f fd) : Binds K fd P_rest_of [] := F.binds (ps := P_rest_of) fun _ _ _ _ _ _ us hl => match us, hl with | [_, _], _ => rfl
theorem bd_holds_each_once {K : PySem.W.Frag} {f : Addr} (fd : FuncData) (F : Fun K "holds_each_once" "holds_each_once" s_holds_each_once f fd) : Binds K fd P_holds_each_once [] := F.binds (ps := P_holds_each_once) fun _ _ _ _ _ _ us hl => match us, hl with | [_, _], _ => rfl
theorem bd_holder {K : PySem.W.Frag} {f : Addr} (fd : FuncData) (F : Fun K "holder" "holder" s_holder f fd) : Binds K fd P_holder [] := F.binds (ps := P_holder) fun _ _ _ _ _ _ us hl => match us, hl with | [_, _, _], _ => rfl
theorem bd_lattices_with {K : PySem.W.Frag} {f : Addr} (fd : FuncData) (F : Fun K "lattices_with" "lattices_with" s_lattices_with f fd) : Binds K fd P_lattices_with [] := F.binds (ps := P_lattices_with) fun _ _ _ _ _ _ us hl => match us, hl with | [_], _ => rfl
theorem bd_both_cells {K : PySem.W.Frag} {f : Addr} (fd : FuncData) (F : Fun K "both_cells" "both_cells" s_both_cells f fd) : Binds K fd P_both_cells [] := F.binds (ps := P_both_cells) fun _ _ _ _ _ _ us hl => match us, hl with | [_, _], _ => rfl
theorem bd_is_floor {K : PySem.W.Frag} {f : Addr} (fd : FuncData) (F : Fun K "is_floor" "is_floor" s_is_floor f fd) : Binds K fd P_is_floor [] := F.binds (ps := P_is_floor) fun _ _ _ _ _ _ us hl => match us, hl with | [_, _], _ => rfl
theorem bd_has_form {K : PySem.W.Frag} {f : Addr} (fd : FuncData) (F : Fun K "has_form" "has_form" s_has_form f fd) : Binds K fd P_has_form [] := F.binds (ps := P_has_form) fun _ _ _ _ _ _ us hl => match us, hl with | [_], _ => rfl
theorem bd_turned_floors {K : PySem.W.Frag} {f : Addr} (fd : FuncData) (F : Fun K "turned_floors" "turned_floors" s_turned_floors f fd) : Binds K fd P_turned_floors [] := F.binds (ps := P_turned_floors) fun _ _ _ _ _ _ us hl => match us, hl with | [_], _ => rfl
theorem bd_is_turned_floor {K : PySem.W.Frag} {f : Addr} (fd : FuncData) (F : Fun K "is_turned_floor" "is_turned_floor" s_is_turned_floor f fd) : Binds K fd P_is_turned_floor [] := F.binds (ps := P_is_turned_floor) fun _ _ _ _ _ _ us hl => match us, hl with | [_, _], _ => rfl
theorem bd_floor_copy {K : PySem.W.Frag} {f : Addr} (fd : FuncData) (F : Fun K "floor_copy" "floor_copy" s_floor_copy f fd) : Binds K fd P_floor_copy [] := F.binds (ps := P_floor_copy) fun _ _ _ _ _ _ us hl => match us, hl with | [_, _, _], _ => rfl
theorem bd_origin {K : PySem.W.Frag} {f : Addr} (fd : FuncData) (F : Fun K "_law_origin" "_law_origin" s_origin f fd) : Binds K fd P_origin [] := F.binds (ps := P_origin) fun _ _ _ _ _ _ us hl => match us, hl with | [_, _], _ => rfl
theorem bd_sip {K : PySem.W.Frag} {f : Addr} (fd : FuncData) (F : Fun K "_law_sip" "_law_sip" s_sip f fd) : Binds K fd P_sip [] := F.binds (ps := P_sip) fun _ _ _ _ _ _ us hl => match us, hl with | [_, _], _ => rfl
theorem bd_some_one {K : PySem.W.Frag} {f : Addr} (fd : FuncData) (F : Fun K "_law_some_one" "_law_some_one" s_some_one f fd) : Binds K fd P_some_one [] := F.binds (ps := P_some_one) fun _ _ _ _ _ _ us hl => match us, hl with | [_, _], _ => rfl
theorem bd_beside {K : PySem.W.Frag} {f : Addr} (fd : FuncData) (F : Fun K "_law_beside" "_law_beside" s_beside f fd) : Binds K fd P_beside [] := F.binds (ps := P_beside) fun _ _ _ _ _ _ us hl => match us, hl with | [_], _ => rfl
theorem bd_remainder {K : PySem.W.Frag} {f : Addr} (fd : FuncData) (F : Fun K "_law_remainder" "_law_remainder" s_remainder f fd) : Binds K fd P_remainder [] := F.binds (ps := P_remainder) fun _ _ _ _ _ _ us hl => match us, hl with | [_, _], _ => rfl
theorem bd_grid {K : PySem.W.Frag} {f : Addr} (fd : FuncData) (F : Fun K "_law_grid" "_law_grid" s_grid f fd) : Binds K fd P_grid [] := F.binds (ps := P_grid) fun _ _ _ _ _ _ us hl => match us, hl with | [_, _], _ => rfl
theorem bd_fit {K : PySem.W.Frag} {f : Addr} (fd : FuncData) (F : Fun K "_law_fit" "_law_fit" s_fit f fd) : Binds K fd P_fit [] := F.binds (ps := P_fit) fun _ _ _ _ _ _ us hl => match us, hl with | [_, _], _ => rfl
theorem bd_grown {K : PySem.W.Frag} {f : Addr} (fd : FuncData) (F : Fun K "_law_grown" "_law_grown" s_grown f fd) : Binds K fd P_grown [] := F.binds (ps := P_grown) fun _ _ _ _ _ _ us hl => match us, hl with | [_, _], _ => rfl
theorem bd_small_tiles {K : PySem.W.Frag} {f : Addr} (fd : FuncData) (F : Fun K "_law_small_tiles" "_law_small_tiles" s_small_tiles f fd) : Binds K fd P_small_tiles [] := F.binds (ps := P_small_tiles) fun _ _ _ _ _ _ us hl => match us, hl with | [_, _], _ => rfl
theorem bd_half_turn {K : PySem.W.Frag} {f : Addr} (fd : FuncData) (F : Fun K "_law_half_turn" "_law_half_turn" s_half_turn f fd) : Binds K fd P_half_turn [] := F.binds (ps := P_half_turn) fun _ _ _ _ _ _ us hl => match us, hl with | [_, _], _ => rfl
theorem bd_is_of {K : PySem.W.Frag} {f : Addr} (fd : FuncData) (F : Fun K "_law_is_of" "_law_is_of" s_is_of f fd) : Binds K fd P_is_of [] := F.binds (ps := P_is_of) fun _ _ _ _ _ _ us hl => match us, hl with | [_, _], _ => rfl
theorem bd_far_spot {K : PySem.W.Frag} {f : Addr} (fd : FuncData) (F : Fun K "_law_far_spot" "_law_far_spot" s_far_spot f fd) : Binds K fd P_far_spot [] := F.binds (ps := P_far_spot) fun _ _ _ _ _ _ us hl => match us, hl with | [_], _ => rfl
theorem bd_word {K : PySem.W.Frag} {f : Addr} (fd : FuncData) (F : Fun K "_law_word" "_law_word" s_word f fd) : Binds K fd P_word [] := F.binds (ps := P_word) fun _ _ _ _ _ _ us hl => match us, hl with | [_], _ => rfl
theorem bd_value {K : PySem.W.Frag} {f : Addr} (fd : FuncData) (F : Fun K "_law_value" "_law_value" s_value f fd) : Binds K fd P_value [] := F.binds (ps := P_value) fun _ _ _ _ _ _ us hl => match us, hl with | [_], _ => rfl
theorem bd_is_held {K : PySem.W.Frag} {f : Addr} (fd : FuncData) (F : Fun K "_law_is_held" "_law_is_held" s_is_held f fd) : Binds K fd P_is_held [] := F.binds (ps := P_is_held) fun _ _ _ _ _ _ us hl => match us, hl with | [_, _, _, _], _ => rfl
theorem bd_right {K : PySem.W.Frag} {f : Addr} (fd : FuncData) (F : Fun K "_law_right" "_law_right" s_right f fd) : Binds K fd P_right [] := F.binds (ps := P_right) fun _ _ _ _ _ _ us hl => match us, hl with | [_], _ => rfl
theorem bd_law {K : PySem.W.Frag} {f : Addr} (fd : FuncData) (F : Fun K "law" "law" s_law f fd) : Binds K fd P_law [] := F.binds (ps := P_law) fun _ _ _ _ _ _ us hl => match us, hl with | [_], _ => rfl
theorem bd_outcome {K : PySem.W.Frag} {f : Addr} (fd : FuncData) (F : Fun K "_law_outcome" "_law_outcome" s_outcome f fd) : Binds K fd P_outcome [] := F.binds (ps := P_outcome) fun _ _ _ _ _ _ us hl => match us, hl with | [_], _ => rfl
theorem bd_m_len {K : PySem.W.Frag} {f : Addr} (fd : FuncData) (F : Fun K "__len__" "Shape.__len__" s_m_len f fd) : Binds K fd ["self"] [] := F.binds (ps := ["self"]) fun _ _ _ _ _ _ us hl => match us, hl with | [_], _ => rfl
def zl : List Str := ["ArithmeticError", "LookupError", "ValueError", "abs", "all", "bool", "divmod", "enumerate", "int", "isinstance", "len", "list", "max", "min", "range", "repr", "set", "sorted", "tuple"]
def chkT (K : Frag) : Bool := (zl.all (HF.freeB K)) && chkM K "MOST_CELLS" 24 && chkM K "MOST_PLACE" 1000 && chkM K "MOST_TO_TURN" 12
theorem txt_of {K : Frag} {h : Heap} {mg : Str → Option Value} (X : K.In h) (G : h.Ns mainGlobals mg) (hc : chkT K = true) : Txt mg := by
  unfold chkT at hc
  simp only [Bool.and_eq_true] at hc
  obtain ⟨⟨⟨hz, h0⟩, h1⟩, h2⟩ := hc
  have z : ∀ {n : Str}, n ∈ zl → mg n = none := fun {n} hn => PySem.W.mg_none_of X G (HF.freeB_ok (List.all_eq_true.mp hz n hn))
  exact { z_ArithmeticError := z (.head _), z_LookupError := z (.tail _ (.head _)), z_ValueError := z (.tail _ (.tail _ (.head _))), z_abs := z (.tail _ (.tail _ (.tail _ (.head _)))), z_all := z (.tail _ (.tail _ (.tail _ (.tail _ (.head _))))), z_bool := z (.tail _ (.tail _ (.tail _ (.tail _ (.tail _ (.head _)))))), z_divmod := z (.tail _ (.tail _ (.tail _ (.tail _ (.tail _ (.tail _ (.head _))))))), z_enumerate := z (.tail _ (.tail _ (.tail _ (.tail _ (.tail _ (.tail _ (.tail _ (.head _)))))))), z_int := z (.tail _ (.tail _ (.tail _ (.tail _ (.tail _ (.tail _ (.tail _ (.tail _ (.head _))))))))), z_isinstance := z (.tail _ (.tail _ (.tail _ (.tail _ (.tail _ (.tail _ (.tail _ (.tail _ (.tail _ (.head _)))))))))), z_len := z (.tail _ (.tail _ (.tail _ (.tail _ (.tail _ (.tail _ (.tail _ (.tail _ (.tail _ (.tail _ (.head _))))))))))), z_list := z (.tail _ (.tail _ (.tail _ (.tail _ (.tail _ (.tail _ (.tail _ (.tail _ (.tail _ (.tail _ (.tail _ (.head _)))))))))))), z_max := z (.tail _ (.tail _ (.tail _ (.tail _ (.tail _ (.tail _ (.tail _ (.tail _ (.tail _ (.tail _ (.tail _ (.tail _ (.head _))))))))))))), z_min := z (.tail _ (.tail _ (.tail _ (.tail _ (.tail _ (.tail _ (.tail _ (.tail _ (.tail _ (.tail _ (.tail _ (.tail _ (.tail _ (.head _)))))))))))))), z_range := z (.tail _ (.tail _ (.tail _ (.tail _ (.tail _ (.tail _ (.tail _ (.tail _ (.tail _ (.tail _ (.tail _ (.tail _ (.tail _ (.tail _ (.head _))))))))))))))), z_repr := z (.tail _ (.tail _ (.tail _ (.tail _ (.tail _ (.tail _ (.tail _ (.tail _ (.tail _ (.tail _ (.tail _ (.tail _ (.tail _ (.tail _ (.tail _ (.head _)))))))))))))))), z_set := z (.tail _ (.tail _ (.tail _ (.tail _ (.tail _ (.tail _ (.tail _ (.tail _ (.tail _ (.tail _ (.tail _ (.tail _ (.tail _ (.tail _ (.tail _ (.tail _ (.head _))))))))))))))))), z_sorted := z (.tail _ (.tail _ (.tail _ (.tail _ (.tail _ (.tail _ (.tail _ (.tail _ (.tail _ (.tail _ (.tail _ (.tail _ (.tail _ (.tail _ (.tail _ (.tail _ (.tail _ (.head _)))))))))))))))))), z_tuple := z (.tail _ (.tail _ (.tail _ (.tail _ (.tail _ (.tail _ (.tail _ (.tail _ (.tail _ (.tail _ (.tail _ (.tail _ (.tail _ (.tail _ (.tail _ (.tail _ (.tail _ (.tail _ (.head _))))))))))))))))))), m_MOST_CELLS := m_of X G h0, m_MOST_PLACE := m_of X G h1, m_MOST_TO_TURN := m_of X G h2 }
theorem all_of {P : Program} {w : World} {K : Frag} {mg : Str → Option Value} (T : Txt mg) {C fI : Nat → Addr} {on : Nat → Bool} (U : E24.Errs P K mg C fI on) (lo : ∀ i, lf i = true → i < 24 ∧ on i = true) (o0 : on 0 = true) (o2 : on 2 = true) (o6 : on 6 = true) (o7 : on 7 = true) (o8 : on 8 = true) (o9 : on 9 = true) (o10 : on 10 = true) (o12 : on 12 = true) (o15 : on 15 = true) (o18 : on 18 = true) (o19 : on 19 = true) (o21 : on 21 = true) (o22 : on 22 = true) (o23 : on 23 = true) {CS : Addr} (Z : DO.ShIn K mg CS "Shape" "_cells" "cells" s_init s_cells "Shape.__init__" "Shape.cells") (Y : Mths K CS) (b_is_int : DefIn K mg "is_int" s_is_int P_is_int) (b_is_ints : DefIn K mg "is_ints" s_is_ints P_is_ints) (b_is_pair : DefIn K mg "is_pair" s_is_pair P_is_pair) (b_is_place : DefIn K mg "is_place" s_is_place P_is_place) (b_is_lattice : DefIn K mg "is_lattice" s_is_lattice P_is_lattice) (b_first_wrong : DefIn K mg "first_wrong" s_first_wrong P_first_wrong) (b_is_nonempty : DefIn K mg "is_nonempty" s_is_nonempty P_is_nonempty) (b_check_cells : DefIn K mg "check_cells" s_check_cells P_check_cells) (b_check_cell : DefIn K mg "check_cell" s_check_cell P_check_cell) (b_from_zero : DefIn K mg "from_zero" s_from_zero P_from_zero) (b_check_shape : DefIn K mg "check_shape" s_check_shape P_check_shape) (b_rest_of : DefIn K mg "rest_of" s_rest_of P_rest_of) (b_holds_each_once : DefIn K mg "holds_each_once" s_holds_each_once P_holds_each_once) (b_holder : DefIn K mg "holder" s_holder P_holder) (b_lattices_with : DefIn K mg "lattices_with" s_lattices_with P_lattices_with) (b_both_cells : DefIn K mg "both_cells" s_both_cells P_both_cells) (b_is_floor : DefIn K mg "is_floor" s_is_floor P_is_floor) (b_has_form : DefIn K mg "has_form" s_has_form P_has_form) (b_turned_floors : DefIn K mg "turned_floors" s_turned_floors P_turned_floors) (b_is_turned_floor : DefIn K mg "is_turned_floor" s_is_turned_floor P_is_turned_floor) (b_floor_copy : DefIn K mg "floor_copy" s_floor_copy P_floor_copy) (b_origin : DefIn K mg "_law_origin" s_origin P_origin) (b_sip : DefIn K mg "_law_sip" s_sip P_sip) (b_some_one : DefIn K mg "_law_some_one" s_some_one P_some_one) (b_beside : DefIn K mg "_law_beside" s_beside P_beside) (b_remainder : DefIn K mg "_law_remainder" s_remainder P_remainder) (b_grid : DefIn K mg "_law_grid" s_grid P_grid) (b_fit : DefIn K mg "_law_fit" s_fit P_fit) (b_grown : DefIn K mg "_law_grown" s_grown P_grown) (b_small_tiles : DefIn K mg "_law_small_tiles" s_small_tiles P_small_tiles) (b_half_turn : DefIn K mg "_law_half_turn" s_half_turn P_half_turn) (b_is_of : DefIn K mg "_law_is_of" s_is_of P_is_of) (b_far_spot : DefIn K mg "_law_far_spot" s_far_spot P_far_spot) (b_word : DefIn K mg "_law_word" s_word P_word) (b_value : DefIn K mg "_law_value" s_value P_value) (b_is_held : DefIn K mg "_law_is_held" s_is_held P_is_held) (b_right : DefIn K mg "_law_right" s_right P_right) (b_law : DefIn K mg "law" s_law P_law) (b_outcome : DefIn K mg "_law_outcome" s_outcome P_outcome) (base : Heap) (LI_right : OutL.LamIn mg base K "_law_right" s_right) : DefOk P w K mg base "law" 61 P_law (spD K S_law) := by
  have CL_Shape := Z.cl
  have mg_Shape := Z.mg
  have PR_cells : DO.PropD P w K mg base CS "cells" "_cells" 1 := by
    obtain ⟨p, g, fd, hp, F⟩ := Z.prop
    exact DO.propD_mk Z.cl.cls Z.na hp F sc_cells rfl rfl (bd_cells fd F)
  have SG_len : DO.SpG P w K mg base CS "__len__" 1 (S_m_len CS) := by
    obtain ⟨g, fd, hs, hf, F⟩ := Y.len
    exact ⟨g, d_m_len F (bd_m_len fd F) T Z.cl.cls Z.na, hs, hf⟩
  have e_is_int := d_is_int (P := P) (w := w) (base := base) b_is_int T
  have e_is_ints := d_is_ints (P := P) (w := w) (base := base) b_is_ints T e_is_int
  have e_is_pair := d_is_pair (P := P) (w := w) (base := base) b_is_pair T e_is_int
  have e_is_place := d_is_place (P := P) (w := w) (base := base) b_is_place T e_is_pair
  have e_is_lattice := d_is_lattice (P := P) (w := w) (base := base) b_is_lattice T e_is_ints
  have e_first_wrong := d_first_wrong (P := P) (w := w) (base := base) b_first_wrong T e_is_place
  have e_is_nonempty := d_is_nonempty (P := P) (w := w) (base := base) b_is_nonempty T
  have e_check_cells := d_check_cells (P := P) (w := w) (base := base) b_check_cells T e_is_nonempty e_first_wrong
  have e_check_cell := d_check_cell (P := P) (w := w) (base := base) b_check_cell T e_is_pair
  have e_from_zero := d_from_zero (P := P) (w := w) (base := base) b_from_zero T
  have e_check_shape := d_check_shape (P := P) (w := w) (base := base) b_check_shape T CL_Shape mg_Shape
  have e_rest_of := d_rest_of (P := P) (w := w) (base := base) b_rest_of T
  have e_holds_each_once := d_holds_each_once (P := P) (w := w) (base := base) b_holds_each_once T e_rest_of
  have e_holder := d_holder (P := P) (w := w) (base := base) b_holder T e_rest_of
  have e_lattices_with := d_lattices_with (P := P) (w := w) (base := base) b_lattices_with T
  have e_both_cells := d_both_cells (P := P) (w := w) (base := base) b_both_cells T PR_cells
  have e_is_floor := d_is_floor (P := P) (w := w) (base := base) b_is_floor T e_holds_each_once e_both_cells
  have e_has_form := d_has_form (P := P) (w := w) (base := base) b_has_form T e_is_lattice e_is_ints
  have e_turned_floors := d_turned_floors (P := P) (w := w) (base := base) b_turned_floors T SG_len e_check_shape e_lattices_with e_is_floor
  have e_is_turned_floor := d_is_turned_floor (P := P) (w := w) (base := base) b_is_turned_floor T e_check_shape e_is_floor e_has_form
  have e_floor_copy := d_floor_copy (P := P) (w := w) (base := base) b_floor_copy T U o7 SG_len e_is_turned_floor e_check_cell e_holder e_both_cells
  have e_origin := d_origin (P := P) (w := w) (base := base) b_origin T
  have e_sip := d_sip (P := P) (w := w) (base := base) b_sip T
  have e_some_one := d_some_one (P := P) (w := w) (base := base) b_some_one T e_sip
  have e_beside := d_beside (P := P) (w := w) (base := base) b_beside T
  have e_remainder := d_remainder (P := P) (w := w) (base := base) b_remainder T
  have e_grid := d_grid (P := P) (w := w) (base := base) b_grid T e_sip
  have e_fit := d_fit (P := P) (w := w) (base := base) b_fit T e_beside e_remainder e_some_one
  have e_grown := d_grown (P := P) (w := w) (base := base) b_grown T e_beside e_some_one
  have e_small_tiles := d_small_tiles (P := P) (w := w) (base := base) b_small_tiles T e_sip e_grown e_fit e_grid
  have e_half_turn := d_half_turn (P := P) (w := w) (base := base) b_half_turn T
  have e_is_of := d_is_of (P := P) (w := w) (base := base) b_is_of T
  have e_far_spot := d_far_spot (P := P) (w := w) (base := base) b_far_spot T e_some_one e_sip
  have e_word := q_word (P := P) (w := w) (base := base) b_word T U lo o0 o2 o6 o7 o8 o9 o10 o12 o15 o18 o19 o21 o22 o23
  have e_value := d_value (P := P) (w := w) (base := base) b_value T e_some_one
  have e_is_held := d_is_held (P := P) (w := w) (base := base) b_is_held T PR_cells e_is_of e_half_turn
  have MK_Shape : DO.MkOk P w K mg base "Shape" CS 6 ["self", "cells"] (DO.spMk K CS ["_cells"] S_ini) := by
    obtain ⟨f, fd, F, M⟩ := Z.init
    exact d_init Z.mg M F (bd_init fd F) Z.cl.cls Z.na T e_check_cells e_from_zero
  have e_right := d_right (P := P) (w := w) (base := base) b_right LI_right b_outcome T U lo o21 o22 o23 e_word MK_Shape PR_cells e_small_tiles e_turned_floors e_some_one e_far_spot e_floor_copy e_is_held e_value
  exact (d_law (P := P) (w := w) (base := base) b_law T e_right e_origin).d
def names0 : List PySem.Str := ["_wall", "WrongValue", "InvalidText", "InvalidNumber", "InvalidCell", "InvalidLattice", "InvalidCut", "NotAShape", "InvalidCells", "InvalidShapes", "WrongName", "NoAnswer", "NotWhole", "NotFilled", "TooGreat", "MOST_CELLS", "MOST_PLACE", "is_int", "is_ints", "is_pair"]
def names1 : List PySem.Str := ["is_place", "is_lattice", "first_wrong", "is_nonempty", "check_cells", "check_cell", "from_zero", "marked_cells", "Shape", "shape_from", "shape_with", "check_shape", "rest_of", "holds_each_once", "holder", "lattices_with", "MOST_TO_TURN", "both_cells", "is_floor", "has_form"]
def names2 : List PySem.Str := ["turned_floors", "is_turned_floor", "floor_copy", "_law_origin", "_law_sip", "_law_some_one", "_law_beside", "_law_remainder", "_law_grid", "_law_fit", "_law_grown", "_law_small_tiles", "_law_half_turn", "_law_is_of", "_law_far_spot", "_law_word", "_law_outcome", "_law_value", "_law_is_held", "_law_right"]
def names : List PySem.Str := names0 ++ (names1 ++ (names2))
def fds0 : List HF.Fd := [HF.gFd "is_int" s_is_int, HF.gFd "is_ints" s_is_ints, HF.gFd "is_pair" s_is_pair, HF.gFd "is_place" s_is_place, HF.gFd "is_lattice" s_is_lattice, HF.gFd "first_wrong" s_first_wrong, HF.gFd "is_nonempty" s_is_nonempty, HF.gFd "check_cells" s_check_cells, HF.gFd "check_cell" s_check_cell, HF.gFd "from_zero" s_from_zero, HF.gFd "check_shape" s_check_shape, HF.gFd "rest_of" s_rest_of, HF.gFd "holds_each_once" s_holds_each_once, HF.gFd "holder" s_holder, HF.gFd "lattices_with" s_lattices_with, HF.gFd "both_cells" s_both_cells, HF.gFd "is_floor" s_is_floor, HF.gFd "has_form" s_has_form, HF.gFd "turned_floors" s_turned_floors, HF.gFd "is_turned_floor" s_is_turned_floor]
def fds1 : List HF.Fd := [HF.gFd "floor_copy" s_floor_copy, HF.gFd "_law_origin" s_origin, HF.gFd "_law_sip" s_sip, HF.gFd "_law_some_one" s_some_one, HF.gFd "_law_beside" s_beside, HF.gFd "_law_remainder" s_remainder, HF.gFd "_law_grid" s_grid, HF.gFd "_law_fit" s_fit, HF.gFd "_law_grown" s_grown, HF.gFd "_law_small_tiles" s_small_tiles, HF.gFd "_law_half_turn" s_half_turn, HF.gFd "_law_is_of" s_is_of, HF.gFd "_law_far_spot" s_far_spot, HF.gFd "_law_word" s_word, HF.gFd "_law_value" s_value, HF.gFd "_law_is_held" s_is_held, HF.gFd "_law_right" s_right, HF.gFd "law" s_law, HF.gFd "_law_outcome" s_outcome, HF.mFd "Shape" "__init__" "Shape.__init__" s_init]
def fds2 : List HF.Fd := [HF.pFd "Shape" "cells" "Shape.cells" s_cells, HF.mFd "Shape" "__len__" "Shape.__len__" s_m_len]
def fds : List HF.Fd := fds0 ++ (fds1 ++ (fds2))
def gl0 : List Str := ["is_int", "is_ints", "is_pair", "is_place", "is_lattice", "first_wrong", "is_nonempty", "check_cells", "check_cell", "from_zero", "check_shape", "rest_of", "holds_each_once", "holder", "lattices_with", "both_cells", "is_floor", "has_form", "turned_floors", "is_turned_floor"]
def gl1 : List Str := ["floor_copy", "_law_origin", "_law_sip", "_law_some_one", "_law_beside", "_law_remainder", "_law_grid", "_law_fit", "_law_grown", "_law_small_tiles", "_law_half_turn", "_law_is_of", "_law_far_spot", "_law_word", "_law_value", "_law_is_held", "_law_right", "law", "_law_outcome"]
def gl : List Str := gl0 ++ (gl1)
def Ce (K : Frag) (i : Nat) : Addr := He.ga K (E24.errN i)
def Fe (K : Frag) (i : Nat) : Addr := He.ma K (He.ga K (E24.errN i)) "__init__"
def onE (i : Nat) : Bool := i == 0 || i == 2 || i == 6 || i == 7 || i == 8 || i == 9 || i == 10 || i == 12 || i == 15 || i == 18 || i == 19 || i == 21 || i == 22 || i == 23
theorem errs_of {P : Program} {K : Frag} {h : Heap} {mg : Str → Option Value} (X : K.In h) (G : h.Ns mainGlobals mg) (hc : E24.chk K (Ce K) (Fe K) onE = true) (hs : mg "super" = none) (s0 : E24.LeafS P K (Ce K 0) (Fe K 0) "given") (s2 : E24.LeafS P K (Ce K 2) (Fe K 2) "given") (s6 : E24.LeafS P K (Ce K 6) (Fe K 6) "given") (s7 : E24.LeafS P K (Ce K 7) (Fe K 7) "given") (s8 : E24.LeafS P K (Ce K 8) (Fe K 8) "given") (s9 : E24.LeafS P K (Ce K 9) (Fe K 9) "given") (s10 : E24.LeafS P K (Ce K 10) (Fe K 10) "index") (s12 : E24.LeafS P K (Ce K 12) (Fe K 12) "index") (s15 : E24.LeafS P K (Ce K 15) (Fe K 15) "given") (s18 : E24.Leaf0S P K (Ce K 18) (Fe K 18)) (s19 : E24.Leaf0S P K (Ce K 19) (Fe K 19)) (s21 : E24.BaseS P K (Ce K 21) (Fe K 21)) (s22 : E24.BaseS P K (Ce K 22) (Fe K 22)) (s23 : E24.BaseS P K (Ce K 23) (Fe K 23)) : E24.Errs P K mg (Ce K) (Fe K) onE :=
  E24.errs_mk X G hc hs (fun i hi o => match i, hi, o with
    | 0, _, _ => s21
    | 1, _, _ => s22
    | 2, _, _ => s23
    | n + 3, h, _ => absurd h (by omega)) (fun i hi o => match i, hi, o with
    | 0, _, _ => s0
    | 1, _, o => absurd o (by decide)
    | 2, _, _ => s2
    | 3, _, o => absurd o (by decide)
    | 4, _, o => absurd o (by decide)
    | 5, _, o => absurd o (by decide)
    | 6, _, _ => s6
    | 7, _, _ => s7
    | 8, _, _ => s8
    | 9, _, _ => s9
    | 10, _, _ => s10
    | 11, _, o => absurd o (by decide)
    | 12, _, _ => s12
    | 13, _, o => absurd o (by decide)
    | 14, _, o => absurd o (by decide)
    | 15, _, _ => s15
    | 16, _, o => absurd o (by decide)
    | 17, _, o => absurd o (by decide)
    | n + 18, h, _ => absurd h (by omega)) (fun i h1 h2 o => by
    have e : i = 18 ∨ i = 19 ∨ i = 20 := by omega
    rcases e with rfl | rfl | rfl
    · exact s18
    · exact s19
    · exact absurd o (by decide))
def sds : List HT.Sd := [⟨fun K => He.ma K (He.ga K "InvalidText") "__init__", fun K => He.ga K "InvalidText", "InvalidText.__init__", clsFn (top 3) 0⟩, ⟨fun K => He.ma K (He.ga K "InvalidNumber") "__init__", fun K => He.ga K "InvalidNumber", "InvalidNumber.__init__", clsFn (top 4) 0⟩, ⟨fun K => He.ma K (He.ga K "InvalidCell") "__init__", fun K => He.ga K "InvalidCell", "InvalidCell.__init__", clsFn (top 5) 0⟩, ⟨fun K => He.ma K (He.ga K "InvalidLattice") "__init__", fun K => He.ga K "InvalidLattice", "InvalidLattice.__init__", clsFn (top 6) 0⟩, ⟨fun K => He.ma K (He.ga K "InvalidCut") "__init__", fun K => He.ga K "InvalidCut", "InvalidCut.__init__", clsFn (top 7) 0⟩, ⟨fun K => He.ma K (He.ga K "NotAShape") "__init__", fun K => He.ga K "NotAShape", "NotAShape.__init__", clsFn (top 8) 0⟩, ⟨fun K => He.ma K (He.ga K "InvalidCells") "__init__", fun K => He.ga K "InvalidCells", "InvalidCells.__init__", clsFn (top 9) 0⟩, ⟨fun K => He.ma K (He.ga K "InvalidShapes") "__init__", fun K => He.ga K "InvalidShapes", "InvalidShapes.__init__", clsFn (top 10) 0⟩, ⟨fun K => He.ma K (He.ga K "TooGreat") "__init__", fun K => He.ga K "TooGreat", "TooGreat.__init__", clsFn (top 15) 0⟩, ⟨fun K => He.ma K (He.ga K "NotWhole") "__init__", fun K => He.ga K "NotWhole", "NotWhole.__init__", clsFn (top 13) 0⟩, ⟨fun K => He.ma K (He.ga K "NotFilled") "__init__", fun K => He.ga K "NotFilled", "NotFilled.__init__", clsFn (top 14) 0⟩, ⟨fun K => He.ma K (He.ga K "WrongValue") "__init__", fun K => He.ga K "WrongValue", "WrongValue.__init__", clsFn (top 2) 0⟩, ⟨fun K => He.ma K (He.ga K "WrongName") "__init__", fun K => He.ga K "WrongName", "WrongName.__init__", clsFn (top 11) 0⟩, ⟨fun K => He.ma K (He.ga K "NoAnswer") "__init__", fun K => He.ga K "NoAnswer", "NoAnswer.__init__", clsFn (top 12) 0⟩]
def tf : List He.Defn := [("_law_right", none)]
def fileQ : Str := PySem.Challenge.rw_shovefloors_k40_whole_copies_in_turned_f.prog.main.file
theorem lf_on : ∀ i, lf i = true → i < 24 ∧ onE i = true := fun i h => by
  have : i ∈ lfs := List.contains_iff_mem.mp h
  simp only [lfs, List.mem_cons, List.not_mem_nil, or_false] at this
  rcases this with rfl | rfl | rfl | rfl | rfl | rfl | rfl | rfl | rfl | rfl | rfl <;> decide
def exB (K : Frag) : Bool := (E24.chk K (Ce K) (Fe K) onE && HF.freeB K "super") && (chkT K && ((gl.all (HF.gloB K)) && (HF.gloB K "Shape" && (HF.clsB K (He.ga K "Shape") "_cells" && (HF.propB K (He.ga K "Shape") "cells" && ((HF.methB K (He.ga K "Shape") "__len__" && PySem.W.isFn K (.ref (He.ma K (He.ga K "Shape") "__len__")))))))))
def tabs : List He.Tab := []
theorem facts {P : Program} {w : World} {K : Frag} {h : Heap} {mg : Str → Option Value} (X : K.In h) (G : h.Ns mainGlobals mg) (c : HF.obsP fds exB tabs K = HF.valP fds tabs w) (cs : HT.supP sds P.main.file K = HT.supV sds) (tp : (P.main.scope.names.lookup ("super" : Str)).isSome = false) (base : Heap) (LI_right : OutL.LamIn mg base K "_law_right" s_right) : DefOk P w K mg base "law" 61 P_law (spD K S_law) := by
  have e := HF.says_ex c
  obtain ⟨ee, e⟩ := Bool.and_eq_true_iff.mp e
  obtain ⟨ee1, ee2⟩ := Bool.and_eq_true_iff.mp ee
  have s0 : E24.LeafS P K (Ce K 0) (Fe K 0) "given" := E24.leafS_mk (HT.says_sup cs tp 0) (fun env => ⟨_, rfl⟩) (fun env => rfl)
  have s2 : E24.LeafS P K (Ce K 2) (Fe K 2) "given" := E24.leafS_mk (HT.says_sup cs tp 1) (fun env => ⟨_, rfl⟩) (fun env => rfl)
  have s6 : E24.LeafS P K (Ce K 6) (Fe K 6) "given" := E24.leafS_mk (HT.says_sup cs tp 2) (fun env => ⟨_, rfl⟩) (fun env => rfl)
  have s7 : E24.LeafS P K (Ce K 7) (Fe K 7) "given" := E24.leafS_mk (HT.says_sup cs tp 3) (fun env => ⟨_, rfl⟩) (fun env => rfl)
  have s8 : E24.LeafS P K (Ce K 8) (Fe K 8) "given" := E24.leafS_mk (HT.says_sup cs tp 4) (fun env => ⟨_, rfl⟩) (fun env => rfl)
  have s9 : E24.LeafS P K (Ce K 9) (Fe K 9) "given" := E24.leafS_mk (HT.says_sup cs tp 5) (fun env => ⟨_, rfl⟩) (fun env => rfl)
  have s10 : E24.LeafS P K (Ce K 10) (Fe K 10) "index" := E24.leafS_mk (HT.says_sup cs tp 6) (fun env => ⟨_, rfl⟩) (fun env => rfl)
  have s12 : E24.LeafS P K (Ce K 12) (Fe K 12) "index" := E24.leafS_mk (HT.says_sup cs tp 7) (fun env => ⟨_, rfl⟩) (fun env => rfl)
  have s15 : E24.LeafS P K (Ce K 15) (Fe K 15) "given" := E24.leafS_mk (HT.says_sup cs tp 8) (fun env => ⟨_, rfl⟩) (fun env => rfl)
  have s18 : E24.Leaf0S P K (Ce K 18) (Fe K 18) := E24.leaf0S_mk (HT.says_sup cs tp 9) (fun env => ⟨_, rfl⟩)
  have s19 : E24.Leaf0S P K (Ce K 19) (Fe K 19) := E24.leaf0S_mk (HT.says_sup cs tp 10) (fun env => ⟨_, rfl⟩)
  have s21 : E24.BaseS P K (Ce K 21) (Fe K 21) := E24.baseS_mk (HT.says_sup cs tp 11) (fun env => ⟨_, rfl⟩)
  have s22 : E24.BaseS P K (Ce K 22) (Fe K 22) := E24.baseS_mk (HT.says_sup cs tp 12) (fun env => ⟨_, rfl⟩)
  have s23 : E24.BaseS P K (Ce K 23) (Fe K 23) := E24.baseS_mk (HT.says_sup cs tp 13) (fun env => ⟨_, rfl⟩)
  have U := errs_of X G ee1 (PySem.W.mg_none_of X G (HF.freeB_ok ee2)) s0 s2 s6 s7 s8 s9 s10 s12 s15 s18 s19 s21 s22 s23
  obtain ⟨e0, e⟩ := Bool.and_eq_true_iff.mp e
  obtain ⟨e1, e⟩ := Bool.and_eq_true_iff.mp e
  obtain ⟨e2, e⟩ := Bool.and_eq_true_iff.mp e
  obtain ⟨e3, e⟩ := Bool.and_eq_true_iff.mp e
  obtain ⟨e4, e⟩ := Bool.and_eq_true_iff.mp e
  have e5 := e
  have gg : ∀ i x, gl[i]? = some x → HF.gloB K x = true := fun i x q => List.all_eq_true.mp e1 x (List.mem_of_getElem? q)
  have Z := HF.sh_of (x := "Shape") (fld := "_cells") (pn := "cells") (q1 := "Shape.__init__") (q2 := "Shape.cells") (sI := s_init) (sC := s_cells) X G e2 e3 e4 (HF.says_fn c 39) (HF.says_fn c 40)
  have Y : Mths K (He.ga K "Shape") := by
    obtain ⟨f41, F41⟩ := HF.says_fn c 41
    obtain ⟨i41, j41⟩ := Bool.and_eq_true_iff.mp e5
    exact ⟨⟨_, f41, HF.methB_ok i41, j41, F41⟩⟩
  exact all_of (txt_of X G e0) U lf_on rfl rfl rfl rfl rfl rfl rfl rfl rfl rfl rfl rfl rfl rfl Z Y (HF.defIn_of X G (gg 0 _ rfl) (HF.says_fn c 0) bd_is_int) (HF.defIn_of X G (gg 1 _ rfl) (HF.says_fn c 1) bd_is_ints) (HF.defIn_of X G (gg 2 _ rfl) (HF.says_fn c 2) bd_is_pair) (HF.defIn_of X G (gg 3 _ rfl) (HF.says_fn c 3) bd_is_place) (HF.defIn_of X G (gg 4 _ rfl) (HF.says_fn c 4) bd_is_lattice) (HF.defIn_of X G (gg 5 _ rfl) (HF.says_fn c 5) bd_first_wrong) (HF.defIn_of X G (gg 6 _ rfl) (HF.says_fn c 6) bd_is_nonempty) (HF.defIn_of X G (gg 7 _ rfl) (HF.says_fn c 7) bd_check_cells) (HF.defIn_of X G (gg 8 _ rfl) (HF.says_fn c 8) bd_check_cell) (HF.defIn_of X G (gg 9 _ rfl) (HF.says_fn c 9) bd_from_zero) (HF.defIn_of X G (gg 10 _ rfl) (HF.says_fn c 10) bd_check_shape) (HF.defIn_of X G (gg 11 _ rfl) (HF.says_fn c 11) bd_rest_of) (HF.defIn_of X G (gg 12 _ rfl) (HF.says_fn c 12) bd_holds_each_once) (HF.defIn_of X G (gg 13 _ rfl) (HF.says_fn c 13) bd_holder) (HF.defIn_of X G (gg 14 _ rfl) (HF.says_fn c 14) bd_lattices_with) (HF.defIn_of X G (gg 15 _ rfl) (HF.says_fn c 15) bd_both_cells) (HF.defIn_of X G (gg 16 _ rfl) (HF.says_fn c 16) bd_is_floor) (HF.defIn_of X G (gg 17 _ rfl) (HF.says_fn c 17) bd_has_form) (HF.defIn_of X G (gg 18 _ rfl) (HF.says_fn c 18) bd_turned_floors) (HF.defIn_of X G (gg 19 _ rfl) (HF.says_fn c 19) bd_is_turned_floor) (HF.defIn_of X G (gg 20 _ rfl) (HF.says_fn c 20) bd_floor_copy) (HF.defIn_of X G (gg 21 _ rfl) (HF.says_fn c 21) bd_origin) (HF.defIn_of X G (gg 22 _ rfl) (HF.says_fn c 22) bd_sip) (HF.defIn_of X G (gg 23 _ rfl) (HF.says_fn c 23) bd_some_one) (HF.defIn_of X G (gg 24 _ rfl) (HF.says_fn c 24) bd_beside) (HF.defIn_of X G (gg 25 _ rfl) (HF.says_fn c 25) bd_remainder) (HF.defIn_of X G (gg 26 _ rfl) (HF.says_fn c 26) bd_grid) (HF.defIn_of X G (gg 27 _ rfl) (HF.says_fn c 27) bd_fit) (HF.defIn_of X G (gg 28 _ rfl) (HF.says_fn c 28) bd_grown) (HF.defIn_of X G (gg 29 _ rfl) (HF.says_fn c 29) bd_small_tiles) (HF.defIn_of X G (gg 30 _ rfl) (HF.says_fn c 30) bd_half_turn) (HF.defIn_of X G (gg 31 _ rfl) (HF.says_fn c 31) bd_is_of) (HF.defIn_of X G (gg 32 _ rfl) (HF.says_fn c 32) bd_far_spot) (HF.defIn_of X G (gg 33 _ rfl) (HF.says_fn c 33) bd_word) (HF.defIn_of X G (gg 34 _ rfl) (HF.says_fn c 34) bd_value) (HF.defIn_of X G (gg 35 _ rfl) (HF.says_fn c 35) bd_is_held) (HF.defIn_of X G (gg 36 _ rfl) (HF.says_fn c 36) bd_right) (HF.defIn_of X G (gg 37 _ rfl) (HF.says_fn c 37) bd_law) (HF.defIn_of X G (gg 38 _ rfl) (HF.says_fn c 38) bd_outcome) base LI_right
end K40
namespace K40
open PySem PySem.Spec PyProof.Rows L2 Evl Lay ErrX DL TE DO
open PySem.W (Frag nsIn codeIn keepIn)
theorem gl_at {w : World} {K : Frag} {h : Heap} (X : K.In h) (c : HF.obsP fds exB tabs K = HF.valP fds tabs w) (x : Str) (hx : gl.contains x = true) : nsIn K mainGlobals x = some (some (.ref (He.ga K x))) := by
  haveI : DL.TabsT := ⟨[]⟩
  have e := HF.says_ex c
  unfold exB at e
  simp only [Bool.and_eq_true] at e
  exact HF.gloB_ok (List.all_eq_true.mp e.2.2.1 x (List.contains_iff_mem.mp hx))
theorem start_law (K : Frag) (H : Hp) (a : Addr) (ns : List Int) (hl : ns.length ≤ 63) (hb : ∀ z ∈ ns, Builtin.Int.intBits z ≤ 1048576) (tH : ∀ p ∈ tf, H (He.cT K p).2 = some (.tbl #[])) (hS : SqL K H a (ns.map V.int)) : @DL.spD (HT.lamT tf K) K S_law [.ref a] H (fun v _ => v = .bl true) E0 :=
  @DO.startB (HT.lamT tf K) S_law (fun ns l b => ⟨⟨l, b⟩, rfl⟩) K H (fun p hp => by
    obtain ⟨q, hq, rfl⟩ := List.mem_map.mp hp
    exact LamX.TabS.nil (tH q hq)) a ns hl hb hS
abbrev RowQ : PySem.W.OpenRow := PySem.W.OpenLaw.row PySem.Challenge.rw_shovefloors_k40_whole_copies_in_turned_f
abbrev hk : PySem.W.Hook := HT.hookQ fds sds exB tabs tf fileQ
def ob (s : PySem.W.SharedT) : HT.AlQ := HT.obsQ fds sds exB tabs tf fileQ (HandSHeadRun.getT s)
theorem ob_eq (s : PySem.W.SharedT) : ob s = hk.obs s.abs := HT.obsQ_eq (HandSHeadRun.getT_eq s)
theorem run_f (w : World) : HandSHeadRun.RunEq RowQ (PySem.W.view RowQ.prog [66]) hk ob 9000 names (w.withFollow "special-get-raises" false) := by
  intro os
  kernel_rfl
theorem run_t (w : World) : HandSHeadRun.RunEq RowQ (PySem.W.view RowQ.prog [66]) hk ob 9000 names (w.withFollow "special-get-raises" true) := by
  intro os
  kernel_rfl
theorem run (w : World) : HandSHeadRun.RunEq RowQ (PySem.W.view RowQ.prog [66]) hk ob 9000 names w := PySem.W.byRow2 "special-get-raises" (P := fun w => HandSHeadRun.RunEq RowQ (PySem.W.view RowQ.prog [66]) hk ob 9000 names w) run_f run_t w
end K40
open PySem PySem.W PySem.Calls PyProof.Rows
theorem PySem.Challenge.cw_shovefloors_k40_whole_copies_in_turned_f_holds : PySem.Challenge.rw_shovefloors_k40_whole_copies_in_turned_f.Holds := by
  w_on; o_law
  refine HandSHeadRun.head_any (r := OpenLaw.row PySem.Challenge.rw_shovefloors_k40_whole_copies_in_turned_f) (q := view (OpenLaw.row PySem.Challenge.rw_shovefloors_k40_whole_copies_in_turned_f).prog [66]) (H := K40.hk) (ob := K40.ob) (M := 9000) (loose := K40.names) (d := HandSHeadRun.topDef (OpenLaw.row PySem.Challenge.rw_shovefloors_k40_whole_copies_in_turned_f).prog 66) (kwd := []) K40.ob_eq
    (by kernel_rfl) (fun s => by kernel_rfl) K40.run (by kernel_rfl) (by kernel_rfl) (by kernel_rfl) (by rfl) (by first | assumption | decide +kernel) (by decide +kernel) ⟨rfl, rfl, rfl, rfl, rfl, by decide +kernel⟩ ?hw ?hc
  case hw => w_witness2
  case hc =>
    refine HT.walk_ofHT (l := PySem.Challenge.rw_shovefloors_k40_whole_copies_in_turned_f) (n := 63) (k := 61) (ps := K40.P_law) (tf := K40.tf) (sp := fun K => @DL.spD (HT.lamT K40.tf K) K K40.S_law) rfl (by decide) (by kernel_rfl) ⟨rfl, by decide, by decide⟩ rfl ?F (fun K H a ns hl hb tH hS => K40.start_law K H a ns hl hb tH hS)
    rintro w mg h ⟨K, KX, c1, c2, c3⟩ G
    refine ⟨K, KX, c3, fun base tb => ?_⟩
    have e : (HandSHeadRun.topDef (OpenLaw.row PySem.Challenge.rw_shovefloors_k40_whole_copies_in_turned_f).prog 66).name = ("law" : PySem.Str) := by kernel_rfl
    rw [e]
    exact @K40.facts (HT.lamT K40.tf K) _ w K h mg KX G c1 c2 (by kernel_rfl) base (HT.lamIn_of (tf := K40.tf) (x := "_law_right") (st := K40.s_right) (by first | exact .head _ | decide) (PySem.W.mg_of KX G (K40.gl_at KX c1 "_law_right" (by decide))) (tb _ (by first | exact .head _ | decide)) (fun p hp _ => by rw [List.mem_singleton.mp hp]))
#print axioms PySem.Challenge.cw_shovefloors_k40_whole_copies_in_turned_f_holds
