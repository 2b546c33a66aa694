import PyProof.Rows.All
import Wide.All
import OpenK.AllK
import Wide.FinOn
import KE.KExcLine
import KE.KIsAll
import HandS.ForExc
import HandS.ForMost
import HandS.ExcInit
import HandS.IsInst
import KE.KExcIs
import HandS.Evl
import HandS.WordsExc
import HandS.WideBits
import HandS.Wide
import HandS.ExcOwn
import HandS.Walk
import HandS.TupSets
import HandS.Lambda
import HandS.DictSubView
import KE.DataMinMax
import PyProof.ReprBulk
import PyProof.Rows.RegStrFacts
import KE.GoesEnum
import KE.GoesMore
import HandS.SetBool
import HandS.Ends
import HandS.Gcd
import HandS.Deep
import KE.KMathGC
import HandS.Style
import HandS.Property
import HandS.SortRule
import KE.DatumIndex
import PyProof.Rows.InDataRows
import HandS.Conv
import HandS.TupAny
import PyProof.EnumMake
import PyProof.StrLawsTight
import KE.KCallOwn
import HandS.Zip
import KE.KRevSl
import PyProof.TupleOfSeq
import KE.LtSeq
import HandS.SortOrd
import HandS.Comp
import HandS.SortInts
import KE.OsArith
import HandS.Star
import PySem.Challenge.RW_shovefloors_k74_whole_floors_certified
import HandS.EndBits
import KE.KStateDown
import HandS.Head0
import HandS.Head1
import HandS.Head2
import HandS.HeadHook3
import HandS.ForSpec
set_option Elab.async false
set_option linter.all false
set_option maxRecDepth 100000
set_option maxHeartbeats 0
namespace ErrX
open PySem PySem.W PySem.Calls PyProof.Rows PySem.Spec
end ErrX
namespace ErrX
open PySem PySem.W PySem.Calls PyProof.Rows PySem.Spec PySem.HandSPX
end ErrX
namespace ErrX
open PySem PySem.Spec PyProof.Rows L2
open PySem.W (Frag)
section
variable {X : Cx} {pins : List (Addr × Obj)} {σ : L2.St} {H : Hp} {s : Shared} {C f : Addr} {cn fld : Str}
/-- an error stands at e, of the class C -/
def ErrAt (H : Hp) (e C : Addr) : Prop := ∃ d, H e = some (exo e C d) ∧ ∀ dx, d = some dx → ∃ fs, H dx = some (exd dx fs)
end
end ErrX
namespace Lay
open PySem PySem.Spec PyProof.Rows L2 Evl
/-- as FnOk, for a call around which no container is being written out -/
structure FnG (P : Program) (w : World) (K : PySem.W.Frag) (mg : Str → Option Value) (base : Heap) (CX : CXT) (k : Nat) (f : Addr) (fd : FuncData) (ps : List Str) (sp : Sp) : Prop where
  len : ∀ vs H Q E, sp vs H Q E → vs.length = ps.length
  run : ∀ (A : Around) (outer : List Env) (s : Shared) (H : Hp) (args : Args) (us : List Value) (vs : List V) (Q : VK) (E : XK), Room k A → A.guards = some [] → Env0 P w K mg base A outer s H → BindsTo s fd args (ps.zip us) → Vals vs us → sp vs H Q E →
    codeAny (model P w) A (.call (.ref f) args) (CR CX outer P w H s Q E) s
section
variable {P : Program} {w : World} {K : PySem.W.Frag} {mg : Str → Option Value} {base : Heap} {CX : CXT}
theorem FnG.mono {j k : Nat} {f : Addr} {fd : FuncData} {ps : List Str} {sp : Sp} (F : FnG P w K mg base CX j f fd ps sp) (h : j ≤ k) : FnG P w K mg base CX k f fd ps sp :=
  ⟨F.len, fun A outer s H args us vs Q E hr => F.run A outer s H args us vs Q E (hr.mono h)⟩
theorem FnG.imp {k : Nat} {f : Addr} {fd : FuncData} {ps : List Str} {sp sp' : Sp} (F : FnG P w K mg base CX k f fd ps sp) (h : ∀ vs H Q E, sp' vs H Q E → sp vs H Q E) : FnG P w K mg base CX k f fd ps sp' :=
  ⟨fun vs H Q E q => F.len vs H Q E (h _ _ _ _ q), fun A outer s H args us vs Q E hr hg he hb hv hs => F.run A outer s H args us vs Q E hr hg he hb hv (h _ _ _ _ hs)⟩
/-- a def by its body -/
theorem fng {x qual : Str} {st : Stmt} {f : Addr} {fd : FuncData} {N ps : List Str} {k : Nat} {sp : Sp} (F : Fun K x qual st f fd) (S : FnScope N ps (defScope st)) (len : ∀ vs H Q E, sp vs H Q E → vs.length = ps.length)
    (body : ∀ (cdv : Value) (A : Around) (outer : List Env) (s : Shared) (H : Hp) (vs : List V) (Q : VK) (E : XK), Room k (A.deeper (envOfC qual (defScope st) s.heap.objs.size f cdv)) → (cxOf CX P w K mg base N qual (defScope st) f cdv A outer s H E).A.guards = some [] → sp vs H Q E →
      ∃ t, PSs (cxOf CX P w K mg base N qual (defScope st) f cdv A outer s H E) (defBody st) t ∧ t { nx := fun _ H' => Q .non H', rt := Q } (start N vs) H) : FnG P w K mg base CX (k + 1) f fd ps sp := by
  obtain ⟨oc, od, kV, doc, pm, an, cdv, ct, osl, rfl, lk, code⟩ := F.ex
  refine ⟨len, fun A outer s H args us vs Q E hr hg e0 hb r hsp => ?_⟩
  have many := len _ _ _ _ hsp
  have up : ∀ b o, base.get? b = some o → s.heap.get? b = some o := fun b o e => (e0.bs b o e).1
  have KX : K.In s.heap := e0.mod.kin.keeps up
  refine codeAny_call_function hr.depth (KX _ _ lk) rfl S.co S.gen rfl (PySem.W.codeRec_of KX code) (hb _ _ _ _ ?_)
  refine wpAny_newFunctionEnv_cells S.kind (fun y hy => ?_) fun env he s1 x => ?_
  · obtain ⟨n, v⟩ := y
    rcases S.par n (List.of_mem_zip hy).1 with q | q
    · exact .inl q
    · exact .inr ⟨q, PySem.W.cellsFrom_some _ _ _ (.inl q)⟩
  · subst he
    refine ⟨(e0.mod.nolimit.keeps up).keeps x.toInCall.keep, codeAny_func ?_⟩
    obtain ⟨t, ht, hq⟩ := body cdv A outer s H vs Q E (hr.deeper _) (by show A.guards = _; exact hg) hsp
    have I := inv_start (CX := CX) (E := E) S hr.hd e0 many r x
    refine wpAny_mono (ht.run [] s1 (start N vs) H _ I hq) (fun fl s' hs => ?_) fun e s' z => z
    cases fl with
    | ret u =>
      obtain ⟨v, σ', H', J, rv, q⟩ := hs
      exact ⟨v, H', J.os, J.bare, J.base, J.hok, rv, q⟩
    | next =>
      obtain ⟨σ', H', J, q⟩ := hs
      exact ⟨V.non, H', J.os, J.bare, J.base, J.hok, rfl, q⟩
    | brk =>
      obtain ⟨_, _, _, q⟩ := hs
      exact q.elim
    | cont =>
      obtain ⟨_, _, _, q⟩ := hs
      exact q.elim
/-- where a def of the module stands -/
structure DefIn (K : PySem.W.Frag) (mg : Str → Option Value) (x : Str) (st : Stmt) (ps : List Str) : Prop where
  ex : ∃ f fd, Fun K x x st f fd ∧ mg x = some (.ref f) ∧ Binds K fd ps []
/-- a def and its promise (nothing is raised) -/
structure DefOk (P : Program) (w : World) (K : PySem.W.Frag) (mg : Str → Option Value) (base : Heap) (x : Str) (k : Nat) (ps : List Str) (sp : Sp) : Prop where
  ex : ∃ f fd, FnG P w K mg base CX0 k f fd ps sp ∧ mg x = some (.ref f) ∧ PySem.W.keepIn K (.ref f) = true ∧ Binds K fd ps []
theorem DefOk.mono {x : Str} {j k : Nat} {ps : List Str} {sp : Sp} (D : DefOk P w K mg base x j ps sp) (h : j ≤ k) : DefOk P w K mg base x k ps sp :=
  let ⟨f, fd, F, r⟩ := D.ex
  ⟨f, fd, F.mono h, r⟩
theorem DefOk.imp {x : Str} {k : Nat} {ps : List Str} {sp sp' : Sp} (D : DefOk P w K mg base x k ps sp) (h : ∀ vs H Q E, sp' vs H Q E → sp vs H Q E) : DefOk P w K mg base x k ps sp' :=
  let ⟨f, fd, F, r⟩ := D.ex
  ⟨f, fd, F.imp h, r⟩
/-- THE RULE: a def's body as a term of rules, and what it reads -/
theorem defok {x : Str} {st : Stmt} {N ps : List Str} {k : Nat} {sp : Sp} (D : DefIn K mg x st ps) (S : FnScope N ps (defScope st)) (len : ∀ vs H Q E, sp vs H Q E → vs.length = ps.length)
    (body : ∀ (f : Addr) (cdv : Value) (A : Around) (outer : List Env) (s : Shared) (H : Hp) (vs : List V) (Q : VK) (E : XK), Room k (cxOf CX0 P w K mg base N x (defScope st) f cdv A outer s H E).A → (cxOf CX0 P w K mg base N x (defScope st) f cdv A outer s H E).A.guards = some [] → sp vs H Q E →
      ∃ t, PSs (cxOf CX0 P w K mg base N x (defScope st) f cdv A outer s H E).nox (defBody st) t ∧ t { nx := fun _ H' => Q .non H', rt := Q } (start N vs) H) : DefOk P w K mg base x (k + 1) ps sp := by
  obtain ⟨f, fd, F, hm, hb⟩ := D.ex
  refine ⟨f, fd, fng F S len fun cdv A outer s H vs Q E hr hg h => ?_, hm, F.kp, hb⟩
  obtain ⟨t, ht, q⟩ := body f cdv A outer s H vs Q E hr hg h
  exact ⟨t, ht.nox, q⟩
end
section
variable {X : Cx} {x : Str} {p pos : Pos} {e : Expr} {es : List Expr} {t : TA} {k : Nat} {ps : List Str} {sp : Sp}
theorem run_g {f : Addr} {fd : FuncData} {pins : List (Addr × Obj)} {σ : L2.St} {H : Hp} {s : Shared} {Q : VK} {us : List Value} {vs : List V} (F : FnG X.prog X.w X.K X.mg X.base CX0 k f fd ps sp) (hr : Room k X.A) (hg : X.A.guards = some []) (hb : Binds X.K fd ps [])
    (I : Inv X pins σ H s) (r : Vals vs us) (h : sp vs H Q E0) : wpAny (model X.prog X.w) X.A (call (.ref f) us) (EP X pins σ Q) X.xe s := by
  have many : (us ++ []).length = ps.length := by
    rw [List.append_nil, ← r.length]
    exact F.len _ _ _ _ h
  have b := hb s us I.kIn many
  rw [List.append_nil] at b
  refine wpAny_call (codeAny_mono (F.run X.A X.stack s H ⟨us, []⟩ us vs Q E0 hr hg I.env0 b r h) fun res s' z => ?_)
  cases res with
  | error err => exact False.elim z
  | ok fl =>
    cases fl with
    | ret u => exact I.after z
    | next => exact False.elim z
    | brk => exact False.elim z
    | cont => exact False.elim z
/-- f(e, ..) -/
def tCallD (sp : Sp) (t : TA) : TE := fun σ H Q => t σ H fun vs H1 => sp vs H1 Q E0
theorem pe_callD (D : DefOk X.prog X.w X.K X.mg X.base x k ps sp) (hr : Room k X.A) (hg : X.A.guards = some []) (ha : PA X (e :: es) t) (gl : Gl X x := by rfl) (hdb : (x == ("__debug__" : Str)) = false := by decide)
    (he : starEach (e :: es) X.env = (false, eval e X.env) :: starEach es X.env := by rfl) (hpl : (backTo pos (starEach es X.env)).any (·.1) = false := by rfl) : PE X (.Call (.Name x p) (e :: es) [] pos) (tCallD sp t) := by
  obtain ⟨f, fd, F, hm, hk, hb⟩ := D.ex
  refine ⟨fun pins s σ H Q I h => ?_⟩
  refine wpAny_Call_Name_kw (ld_glob I gl hm ?_ hdb)
  refine PySem.W.callWith_K (h₀ := X.base) I.ok.mod.kin hk (thn (ha.run pos pins s σ H _ I h) fun us s1 ⟨vs, H1, I1, r, q⟩ => ⟨I1.kIn, ?_⟩) he hpl
  exact run_g F hr hg hb I1 r q
end
def scalV : V → Bool
  | .non => true
  | .bl _ => true
  | .int _ => true
  | .str _ => true
  | _ => false
/-- scalars, lists and tuples of data; a dict of written keys with scalars -/
def Dr (K : PySem.W.Frag) (H : Hp) (v : V) (d : PyData) : Prop := Dp K H v d ∨ ∃ (a : Addr) (kvs : List (Key × V)) (ds : List (PyData × PyData)), v = .ref a ∧ H a = some (.dK kvs) ∧ d = .dict ds ∧ (∀ p ∈ kvs, scalV p.2 = true) ∧ Paired (fun (p : Key × V) (q : PyData × PyData) => Dp K H (kV p.1) q.1 ∧ Dp K H p.2 q.2) kvs ds
def rRepr (K : PySem.W.Frag) : List V → Hp → VK → Prop := fun xs H Q => ∃ x d, xs = [x] ∧ Dr K H x d ∧ d.showable = true ∧ d.depth ≤ 32 ∧ d.shown.length ≤ sizeLine ∧ Q (.str d.shown) H
mutual
theorem dp_nodict {K : PySem.W.Frag} {H : Hp} : ∀ {d : PyData} {v : V}, Dp K H v d → d.hasDict = false
  | .none, _, _ => by simp only [PyData.hasDict]
  | .bool _, _, _ => by simp only [PyData.hasDict]
  | .int _, _, _ => by simp only [PyData.hasDict]
  | .str _, _, _ => by simp only [PyData.hasDict]
  | .list xs, _, h => by
    simp only [PyData.hasDict]
    cases h with
    | lst h1 h2 => exact dp_nodictA h2
  | .tuple xs, _, h => by
    simp only [PyData.hasDict]
    cases h with
    | tup h1 h2 => exact dp_nodictA h2
  | .dict _, _, h => by cases h
theorem dp_nodictA {K : PySem.W.Frag} {H : Hp} : ∀ {ds : List PyData} {vs : List V}, DpAll K H vs ds → PyData.hasDictAll ds = false
  | [], _, _ => by simp only [PyData.hasDictAll]
  | d :: ds, _, h => by
    cases h with
    | cons h1 h2 =>
      simp only [PyData.hasDictAll, Bool.or_eq_false_iff]
      exact ⟨dp_nodict h1, dp_nodictA h2⟩
end
section
variable {X : Cx}
theorem rel_ref {a : Addr} {u : Value} (r : L2.RelV (.ref a) u) : u = .ref a := r
theorem sc_reads {K : PySem.W.Frag} {H : Hp} {h : Heap} {v : V} {d : PyData} {u : Value} (hs : scalV v = true) (hd : Dp K H v d) (r : L2.RelV v u) : Reads h u d [] := by
  cases hd with
  | non =>
    cases (show u = Value.none from r)
    exact .none
  | bl b =>
    cases (show u = Value.bool b from r)
    exact .bool b
  | int i =>
    obtain ⟨t, rfl⟩ := (show ∃ t, u = Value.int i t from r)
    exact .int i t
  | str y =>
    obtain ⟨t, rfl⟩ := (show ∃ t, u = Value.str y t from r)
    exact .str y t
  | lst h1 h2 => cases hs
  | tup h1 h2 => cases hs
theorem key_rel {k : Key} {u : Value} (h : keyIs k u = true) : L2.RelV (kV k) u ∧ scalV (kV k) = true := by
  rcases keyIs_shape h with ⟨i, t, rfl, rfl⟩ | ⟨x, t, rfl, rfl⟩
  · exact ⟨⟨t, rfl⟩, rfl⟩
  · exact ⟨⟨t, rfl⟩, rfl⟩
/-- a dict of scalars reads as one -/
theorem dr_dict {pins : List (Addr × Obj)} {σ : L2.St} {H : Hp} {s : Shared} {a : Addr} {kvs : List (Key × V)} {ds : List (PyData × PyData)} (I : L2.Inv X pins σ H s) (ha : H a = some (.dK kvs))
    (hp : Paired (fun (p : Key × V) (q : PyData × PyData) => Dp X.K H (kV p.1) q.1 ∧ Dp X.K H p.2 q.2) kvs ds) (hsc : ∀ p ∈ kvs, scalV p.2 = true) : Reads s.heap (.ref a) (.dict ds) [a] ∧ (a == sysModules) = false := by
  obtain ⟨_, hsys, vs, hkv, o, es, ep, ho, hex, hd, _, prs, _⟩ := (show ObjOk X.prog X.w H s.heap a (.dK kvs) from I.hok a _ ha)
  have key : ∀ (l : List DictEntry) (vs : List (Key × Value)) (kvs : List (Key × V)) (ds : List (PyData × PyData)), Pairs (mixKind X.prog X.w) l vs → KV kvs vs → (∀ p ∈ kvs, scalV p.2 = true) →
      Paired (fun (p : Key × V) (q : PyData × PyData) => Dp X.K H (kV p.1) q.1 ∧ Dp X.K H p.2 q.2) kvs ds → ReadsAll s.heap (l.map (·.key)) (ds.map (·.1)) [] ∧ ReadsAll s.heap (l.map (·.val)) (ds.map (·.2)) [] := by
    intro l
    induction l with
    | nil =>
      intro vs kvs ds h1 h2 h3 h4
      cases h1
      cases h2
      cases h4
      exact ⟨.nil, .nil⟩
    | cons e l ih =>
      intro vs kvs ds h1 h2 h3 h4
      cases h1 with
      | cons p1 pv p2 =>
        cases h2 with
        | cons q1 q2 =>
          cases h4 with
          | cons r1 r2 =>
            obtain ⟨i1, i2⟩ := ih _ _ _ p2 q2 (fun p hp => h3 p (List.mem_cons_of_mem _ hp)) r2
            have ek := q1.1
            have kr := key_rel (show keyIs _ e.key = true from p1)
            have vr := q1.2
            rw [← pv] at vr
            rw [← ek] at kr
            exact ⟨.cons (sc_reads kr.2 r1.1 kr.1) i1, .cons (sc_reads (h3 _ (List.mem_cons_self ..)) r1.2 vr) i2⟩
  obtain ⟨r1, r2⟩ := key _ _ _ _ prs hkv hsc hp
  exact ⟨Reads.dict ho hex.1 hd r1 r2, hsys⟩
theorem call_repr (hg : X.A.guards = some []) (hu : X.A.units + 64 < cLine) : CallR X (.builtin "repr") (rRepr X.K) := by
  intro pins s σ H xs us Q I r h
  obtain ⟨x, d, rfl, hd, hs, hdep, hl, q⟩ := h
  cases r with
  | cons rx rr =>
    cases rr
    have fin : ∀ h' (u : Tok) tk, (∀ b o, s.heap.get? b = some o → h'.get? b = some o) → EP X pins σ Q (.str d.shown u) { s with heap := h', toks := tk } := fun h' u tk k => ⟨.str d.shown, H, I.kept k, ⟨u, rfl⟩, q⟩
    rcases hd with hd | ⟨a, kvs, ds, rfl, ha, rfl, hsc, hp⟩
    · cases hd with
      | non =>
        cases (show _ = Value.none from rx)
        exact P.repr_of_none (fin s.heap _ _ fun _ _ e => e)
      | bl b =>
        cases (show _ = Value.bool b from rx)
        exact P.repr_of_bool (fin s.heap _ _ fun _ _ e => e)
      | int i =>
        obtain ⟨t, rfl⟩ := (show ∃ t, _ = Value.int i t from rx)
        exact P.repr_of_int (by simpa [PyData.showable] using hs) (fin s.heap _ _ fun _ _ e => e)
      | str y =>
        obtain ⟨t, rfl⟩ := (show ∃ t, _ = Value.str y t from rx)
        exact P.repr_of_str (fin s.heap _ _ fun _ _ e => e) hl
      | @lst a ys ds h1 h2 =>
        cases rel_ref rx
        obtain ⟨as, rd⟩ := Dp.reads I _ _ _ (Dp.lst h1 h2) rx
        exact repr_of_reads' rd hs (PyData.noDict_hsm (dp_nodict (Dp.lst h1 h2))) hg (by omega) (fun _ _ e => e) fin hl
      | @tup a ys ds h1 h2 =>
        cases rel_ref rx
        obtain ⟨as, rd⟩ := Dp.reads I _ _ _ (Dp.tup h1 h2) rx
        exact repr_of_reads' rd hs (PyData.noDict_hsm (dp_nodict (Dp.tup h1 h2))) hg (by omega) (fun _ _ e => e) fin hl
    · cases rel_ref rx
      obtain ⟨rd, hsys⟩ := dr_dict I ha hp hsc
      refine repr_of_reads' rd hs (fun _ hm => ?_) hg (by omega) (fun _ _ e => e) fin hl
      have e : sysModules = a := by simpa using hm
      subst e
      simp at hsys
end
end Lay
namespace Lay
open PySem PySem.Spec PyProof.Rows L2 Evl
/-- the abstract heap H may be told as H' over the heap hp -/
structure Gst (P : Program) (w : World) (hp : Heap) (H H' : Hp) : Prop where
  ok : HOk P w H hp → HOk P w H' hp
  none : ∀ b, H b = none ↔ H' b = none
  tups : ∀ b xs, H b = some (.tup xs) → H' b = some (.tup xs)
  frzs : ∀ b o u, H b = some (.frz o u) → H' b = some (.frz o u)
  tbls : ∀ b ps, H b = some (.tbl ps) → H' b = some (.tbl ps)
theorem Gst.refl {P : Program} {w : World} {hp : Heap} (H : Hp) : Gst P w hp H H := ⟨fun h => h, fun _ => Iff.rfl, fun _ _ h => h, fun _ _ _ h => h, fun _ _ h => h⟩
section
variable {P : Program} {w : World} {K : PySem.W.Frag} {mg : Str → Option Value} {base : Heap}
/-- one object told anew -/
theorem Gst.at {h : Heap} {H : Hp} {a : Addr} {o o' : HO} (ha : H a = some o) (h1 : ∀ x, o ≠ .own x) (h2 : ∀ xs, o ≠ .tup xs) (h3 : ∀ ob u, o ≠ .frz ob u) (h4 : ∀ ps, o ≠ .tbl ps) (ok : HOk P w H h → ObjOk P w (upd H a o') h a o') : Gst P w h H (upd H a o') where
  ok := fun hk b u q => by
    by_cases hb : b = a
    · subst hb
      rw [upd_same] at q
      cases q
      exact ok hk
    · rw [upd_ne hb] at q
      refine (hk b u q).stay (fun c v _ z => z) (fun c z => ?_) fun c xs z => ?_
      · rw [upd_ne fun e => ?_]
        · exact z
        · rw [e, ha] at z
          exact h1 b (Option.some.inj z)
      · rw [upd_ne fun e => ?_]
        · exact z
        · rw [e, ha] at z
          exact h2 xs (Option.some.inj z)
  none := fun b => by
    by_cases hb : b = a
    · subst hb
      rw [upd_same, ha]
      exact ⟨fun z => (by cases z), fun z => (by cases z)⟩
    · rw [upd_ne hb]
  tups := fun b xs q => by
    rw [upd_ne fun e => ?_]
    · exact q
    · rw [e, ha] at q
      exact h2 xs (Option.some.inj q)
  frzs := fun b ob u q => by
    rw [upd_ne fun e => ?_]
    · exact q
    · rw [e, ha] at q
      exact h3 ob u (Option.some.inj q)
  tbls := fun b ps q => by
    rw [upd_ne fun e => ?_]
    · exact q
    · rw [e, ha] at q
      exact h4 ps (Option.some.inj q)
theorem un_gst {fs : List Addr} {H H1 H2 H3 : Hp} {h h' : Heap} (g : Gst P w h H H1) (u : Un fs [] H1 H2 h h') (g' : Gst P w h' H2 H3) : Un fs [] H H3 h h' where
  keep := fun b o q n => u.keep b o q ((g.none b).mp n)
  slot := fun b o q n => u.slot b o q ((g.none b).mp n)
  free := fun b o q n x => (g'.none b).mp (u.free b o q ((g.none b).mp n) x)
  there := u.there
  tups := fun b xs q => g'.tups b xs (u.tups b xs (g.tups b xs q))
  frzs := fun b o x q => g'.frzs b o x (u.frzs b o x (g.frzs b o x q))
  tbls := fun b ps q => by
    obtain ⟨more, z⟩ := u.tbls b ps (g.tbls b ps q)
    exact ⟨more, g'.tbls b _ z⟩
/-- a promise told over other abstract heaps -/
theorem FnG.gst {k : Nat} {f : Addr} {fd : FuncData} {ps : List Str} {sp sp' : Sp} (F : FnG P w K mg base CX0 k f fd ps sp) (len : ∀ vs H Q E, sp' vs H Q E → vs.length = ps.length)
    (h : ∀ vs H Q E hp, sp' vs H Q E → HOk P w H hp → ∃ H1, Gst P w hp H H1 ∧ sp vs H1 (fun v H2 => ∃ H3, (∀ hp', Gst P w hp' H2 H3) ∧ Q v H3) E0) : FnG P w K mg base CX0 k f fd ps sp' := by
  refine ⟨len, fun A outer s H args us vs Q E hr hg e0 hb r q => ?_⟩
  obtain ⟨H1, g, q1⟩ := h vs H Q E s.heap q e0.hok
  have e1 : Env0 P w K mg base A outer s H1 := ⟨e0.frames, e0.mod, fun b o e => ⟨(e0.bs b o e).1, (g.none b).mp (e0.bs b o e).2⟩, e0.bsz, e0.funs, fun b hb => (g.none b).mp (e0.frf b hb), g.ok e0.hok, e0.bare⟩
  refine codeAny_mono (F.run A outer s H1 args us vs _ E0 hr hg e1 hb r q1) fun res s' z => ?_
  cases res with
  | error err => exact z
  | ok fl =>
    cases fl with
    | ret u =>
      obtain ⟨v, H2, hos, bare, un, hok, rv, H3, g3, q3⟩ := z
      exact ⟨v, H3, hos, bare, un_gst g un (g3 _), (g3 _).ok hok, rv, q3⟩
    | next => exact z
    | brk => exact z
    | cont => exact z
theorem DefOk.gst {x : Str} {k : Nat} {ps : List Str} {sp sp' : Sp} (D : DefOk P w K mg base x k ps sp) (len : ∀ vs H Q E, sp' vs H Q E → vs.length = ps.length)
    (h : ∀ vs H Q E hp, sp' vs H Q E → HOk P w H hp → ∃ H1, Gst P w hp H H1 ∧ sp vs H1 (fun v H2 => ∃ H3, (∀ hp', Gst P w hp' H2 H3) ∧ Q v H3) E0) : DefOk P w K mg base x k ps sp' :=
  let ⟨f, fd, F, r⟩ := D.ex
  ⟨f, fd, F.gst len h, r⟩
/-- at j: a list of three ints, the first one not below 0 -/
def jarO (j : Addr) : HO := .ext fun h => ∃ (a b c : Int) (its : List Value) (n : Nat), 0 ≤ a ∧ Vals [V.int a, V.int b, V.int c] its ∧ h.get? j = some { cls := .type "list", data := .seq its.toArray n }
theorem lst_ne {xs : List V} : (∀ x, HO.lst xs ≠ .own x) ∧ (∀ ys, HO.lst xs ≠ .tup ys) ∧ (∀ ob u, HO.lst xs ≠ .frz ob u) ∧ (∀ ps, HO.lst xs ≠ .tbl ps) :=
  ⟨fun _ z => (by cases z), fun _ z => (by cases z), fun _ _ z => (by cases z), fun _ z => (by cases z)⟩
end
section
variable {K : PySem.W.Frag} {σ : L2.St} {H H' : Hp} {ta tb te tx : TE} {t u : TT} {x y z v : V} {Q : L2.St → Hp → Prop}
theorem g_tup {n : Nat} {g : TGs} {p : Addr} {xs : List V} (h : SqT K H p xs) (hl : xs.length = n) (k : g xs σ H Q) : gTup K n g (.ref p) σ H Q := ⟨p, xs, rfl, h, hl, k⟩
theorem g_cons {g : TG} {gs : TGs} {r : List V} (k : g v σ H fun σ' H' => gs r σ' H' Q) : gCons g gs (v :: r) σ H Q := ⟨v, r, rfl, k⟩
theorem g_nil (k : Q σ H) : gNil [] σ H Q := ⟨rfl, k⟩
theorem g_name {i : Nat} (k : Q (σ.set i (some v)) H) : gName i v σ H Q := k
theorem g_setL {l : Addr} {xs : List V} {j : Nat} (hl : H l = some (.lst xs)) (ho : Ev ta σ H (.ref l)) (hi : Ev tb σ H (.int (j : Int))) (hj : j < xs.length) (k : ∀ H1, Ex H H1 → Q σ (upd H1 l (.lst (xs.set j v)))) : gSub ta tb rSetL v σ H Q :=
  ho H (Ex.refl H) _ fun H1 e1 => hi H1 e1 _ fun H2 e2 => ⟨l, xs, (j : Int), j, rfl, rfl, (e1.trans e2) l _ hl, ixN_nat hj, k H2 (e1.trans e2)⟩
theorem s_asgGU {g : TG} {D : Ends} {xs : List V} (h : EvU te σ H xs) (k : ∀ p H1, H p = none → Ex H H1 → H1 p = some (.tup xs) → g (.ref p) σ H1 D.nx) : tAsg te g D σ H := h H (Ex.refl H) _ fun p H1 hp e h1 => k p H1 hp e h1
theorem q_asgGU {g : TG} {D : Ends} {tz : TS} {xs : List V} (h : EvU te σ H xs) (k : ∀ p H1, H p = none → Ex H H1 → H1 p = some (.tup xs) → g (.ref p) σ H1 (tz D)) : tSeq (tAsg te g) tz D σ H := s_asgGU (D := { D with nx := tz D }) h k
/-- divmod: a new tuple -/
theorem eu_divmod {i j : Int} (h : EvA (tCons ta (tCons tb tNil)) σ H [.int i, .int j]) (hc : CDiv i j) :
    EvU (tCB (fun xs H Q => ∃ i j, xs = [V.int i, V.int j] ∧ CDiv i j ∧ ∀ p, H p = none → Q (V.ref p) (upd H p (HO.tup [V.int (i / j), V.int (i % j)]))) (tCons ta (tCons tb tNil))) σ H [.int (i / j), .int (i % j)] := fun H1 e Q q =>
  h H1 e _ fun H2 e2 => ⟨i, j, rfl, hc, fun p hp => q p _ (fresh_back e2 hp) (e2.trans (Ex.new hp)) upd_same⟩
theorem ev_int1 {i : Int} (h : Ev ta σ H (.int i)) : Ev (tCB (fun xs H Q => (∃ i, xs = [V.int i] ∧ Q (V.int i) H) ∨ ∃ k, xs = [V.bl k] ∧ Q (V.int (if k = true then 1 else 0)) H) (tCons ta tNil)) σ H (.int i) :=
  ev_cb (ea_cons h ea_nil) fun H1 _ Q q => .inl ⟨i, rfl, q H1 (Ex.refl H1)⟩
theorem rc_abs {i : Int} : RC (fun xs H Q => ∃ i, xs = [V.int i] ∧ Q (V.int (if i < 0 then -i else i)) H) [.int i] H (.int (if i < 0 then -i else i)) := fun H1 _ Q q => ⟨i, rfl, q H1 (Ex.refl H1)⟩
/-- len of a list or tuple -/
theorem rc_lenL {a : Addr} {xs : List V} (h : SqL K H a xs) : RC (fun ys H Q => ∃ x n, ys = [x] ∧ LenV K x H n ∧ Q (.int n) H) [.ref a] H (.int (xs.length : Nat)) := fun H1 e Q q => ⟨.ref a, xs.length, rfl, .inl ⟨xs, ex_l e h, rfl⟩, q H1 (Ex.refl H1)⟩
end
/-- all but what stands at j is as it was -/
def ExM (j : Addr) (H H' : Hp) : Prop := ∀ a o, a ≠ j → H a = some o → H' a = some o
theorem ExM.refl (j : Addr) (H : Hp) : ExM j H H := fun _ _ _ h => h
theorem ExM.trans {j : Addr} {H H1 H2 : Hp} (a : ExM j H H1) (b : ExM j H1 H2) : ExM j H H2 := fun x o n h => b x o n (a x o n h)
theorem Ex.m {j : Addr} {H H' : Hp} (e : Ex H H') : ExM j H H' := fun a o _ h => e a o h
theorem ExM.upd {j : Addr} {H H' : Hp} {o : HO} (e : ExM j H H') : ExM j H (upd H' j o) := fun a u n h => by
  rw [upd_ne n]
  exact e a u n h
theorem ExM.fin {j : Addr} {H H' : Hp} {o : HO} (e : ExM j H H') (hj : H' j = some o) : Ex (L2.upd H j o) H' := fun a u h => by
  by_cases n : a = j
  · subst n
    rw [upd_same] at h
    rw [hj, h]
  · rw [upd_ne n] at h
    exact e a u n h
abbrev VP := V → Hp → Prop
def EvP (te : TE) (σ : L2.St) (H : Hp) (P : VP) : Prop := ∀ H1, Ex H H1 → ∀ Q : VK, (∀ v H2, Ex H1 H2 → P v H2 → Q v H2) → te σ H1 Q
def EvAP (ta : TA) (σ : L2.St) (H : Hp) (P : List V → Hp → Prop) : Prop := ∀ H1, Ex H H1 → ∀ Q : List V → Hp → Prop, (∀ vs H2, Ex H1 H2 → P vs H2 → Q vs H2) → ta σ H1 Q
section
variable {K : PySem.W.Frag} {σ : L2.St} {H H' : Hp} {ta tb te tx : TE} {t u : TT} {x y z v : V} {P R : VP} {D : Ends} {tz : TS}
theorem EvP.mono (e : Ex H H') (h : EvP te σ H P) : EvP te σ H' P := fun H1 a Q q => h H1 (e.trans a) Q q
theorem EvP.imp (h : EvP te σ H P) (i : ∀ v H1, Ex H H1 → P v H1 → R v H1) : EvP te σ H R := fun H1 e Q q => h H1 e Q fun v H2 e2 p => q v H2 e2 (i v H2 (e.trans e2) p)
theorem Ev.p (h : Ev te σ H v) : EvP te σ H (fun u _ => u = v) := fun H1 e Q q => h H1 e Q fun H2 e2 => q v H2 e2 rfl
theorem Ev.pp (h : Ev te σ H v) (hp : ∀ H1, Ex H H1 → P v H1) : EvP te σ H P := fun H1 e Q q => h H1 e Q fun H2 e2 => q v H2 e2 (hp H2 (e.trans e2))
theorem EvL.p {xs : List V} (h : EvL te σ H xs) : EvP te σ H (fun u H => ∃ p, u = .ref p ∧ H p = some (.lst xs)) := fun H1 e Q q => h H1 e Q fun p H2 _ e2 h2 => q _ H2 e2 ⟨p, rfl, h2⟩
theorem EvU.p {xs : List V} (h : EvU te σ H xs) : EvP te σ H (fun u H => ∃ p, u = .ref p ∧ H p = some (.tup xs)) := fun H1 e Q q => h H1 e Q fun p H2 _ e2 h2 => q _ H2 e2 ⟨p, rfl, h2⟩
theorem EvA.p {ts : TA} {vs : List V} (h : EvA ts σ H vs) : EvAP ts σ H (fun us _ => us = vs) := fun H1 e Q q => h H1 e Q fun H2 e2 => q vs H2 e2 rfl
theorem s_asgP {i : Nat} (h : EvP te σ H P) (k : ∀ v H1, Ex H H1 → P v H1 → D.nx (σ.set i (some v)) H1) : tAsg te (gName i) D σ H := h H (Ex.refl H) _ fun v H1 e p => k v H1 e p
theorem q_asgP {i : Nat} (h : EvP te σ H P) (k : ∀ v H1, Ex H H1 → P v H1 → tz D (σ.set i (some v)) H1) : tSeq (tAsg te (gName i)) tz D σ H := s_asgP (D := { D with nx := tz D }) h k
end
section
variable {K : PySem.W.Frag} {σ : L2.St} {H H' : Hp} {ta tb te tx : TE} {t u : TT} {x y z v : V} {P R : VP} {D : Ends} {tz : TS}
/-- a if t else b -/
theorem evp_if {b : Bool} (h : EvT t σ H b) (h1 : b = true → EvP ta σ H P) (h2 : b = false → EvP tb σ H P) : EvP (tIf t ta tb) σ H P := fun H1 e Q q => h H1 e _ fun H2 e2 => by
  cases b with
  | true =>
    show ta σ H2 Q
    exact h1 rfl H2 (e.trans e2) Q fun v H3 e3 p => q v H3 (e2.trans e3) p
  | false =>
    show tb σ H2 Q
    exact h2 rfl H2 (e.trans e2) Q fun v H3 e3 p => q v H3 (e2.trans e3) p
theorem cutV_mem {xs : List V} {lo hi : Option Int} (h : v ∈ cutV xs lo hi) : v ∈ xs := by
  unfold cutV at h
  exact List.mem_of_mem_drop (List.mem_of_mem_take h)
end
theorem pe_gty {X : Cx} {x : Str} {n : String} {pos : Pos} (hm : X.mg x = none) (hv : bootBuiltins x = some (.type n)) (hg : Gl X x := by rfl) (hn : x ≠ "__name__" := by decide) (hd : (x == ("__debug__" : Str)) = false := by decide) : PE X (.Name x pos) (tC (.ty n)) := pe_bltn hg hm hv rfl hn hd
end Lay
namespace Lay
open PySem PySem.Spec PyProof.Rows L2 Evl
section
variable (K : PySem.W.Frag) {X : Cx} {pos p cpos apos : Pos} {l o e : Expr} {tl to : TE} {t : TA} {tg : Expr}
theorem kx_ixL (h : X.K = K := by rfl) : IxR X (rIxL K) := h ▸ ix_list
theorem kx_ixT (h : X.K = K := by rfl) : IxR X (rIxT K) := h ▸ ix_tup
theorem kx_len (h : X.K = K := by rfl) : CallR X (.builtin "len") (fun xs H Q => ∃ x n, xs = [x] ∧ LenV K x H n ∧ Q (.int n) H) := h ▸ call_len
theorem kx_eqD (hu : X.A.units + 64 < cLine) (h : X.K = K := by rfl) : OpR X (compareOp .Eq) (rEqD K) := h ▸ op_eqD hu
theorem kx_neD (hu : X.A.units + 64 < cLine) (h : X.K = K := by rfl) : OpR X (compareOp .NotEq) (rNeD K) := h ▸ op_neD hu
theorem kx_catT (h : X.K = K := by rfl) : OpR X (binaryOp .Add) (rCatT K) := h ▸ op_catT
theorem kx_repr (hg : X.A.guards = some []) (hu : X.A.units + 64 < cLine) (h : X.K = K := by rfl) : CallR X (.builtin "repr") (rRepr K) := h ▸ call_repr hg hu
theorem kx_all (hc : X.calm = true) (h : X.K = K := by rfl) : CallR X (.builtin "all") (rAll K) := h ▸ cr_all hc
theorem kx_piList (hl : PE X l tl) (h : X.K = K := by rfl) : PI X tg l (iList K tl) := h ▸ pi_list hl
theorem kx_pgTup {es : List Expr} {k : Nat} {t : TGs} {n : Nat} (hc : X.calm = true) (h1 : PGs X es t) (hn : (assignEach es X.env).length = n := by rfl) (hst : (assignEach es X.env).findIdx? (·.1) = none := by rfl) (h : X.K = K := by rfl) : PG X (.Tuple es k pos) (gTup K n t) := h ▸ pg_tup hc h1 hn hst
end
end Lay
namespace Lay
open PySem PySem.Spec PyProof.Rows L2 Evl ErrX
def ErrF (N : Addr → Prop) (H : Hp) (C : Addr) (fld : Str) (x : V) (e : Addr) : Prop := ∃ d, H e = some (exo e C (some d)) ∧ H d = some (exd d [(fld, x)]) ∧ N e ∧ N d
theorem ErrF.keep {N : Addr → Prop} {H H' : Hp} {C : Addr} {fld : Str} {x : V} {e : Addr} (k : ∀ b o, N b → H b = some o → H' b = some o) (h : ErrF N H C fld x e) : ErrF N H' C fld x e :=
  let ⟨d, h1, h2, n1, n2⟩ := h
  ⟨d, k _ _ n1 h1, k _ _ n2 h2, n1, n2⟩
theorem ErrF.imp {N M : Addr → Prop} {H : Hp} {C : Addr} {fld : Str} {x : V} {e : Addr} (k : ∀ b o, H b = some o → N b → M b) (h : ErrF N H C fld x e) : ErrF M H C fld x e :=
  let ⟨d, h1, h2, n1, n2⟩ := h
  ⟨d, h1, h2, k _ _ h1 n1, k _ _ h2 n2⟩
theorem ErrF.at {N : Addr → Prop} {H : Hp} {C : Addr} {fld : Str} {x : V} {e : Addr} (h : ErrF N H C fld x e) : ErrAt H e C :=
  let ⟨d, h1, h2, _⟩ := h
  ⟨some d, h1, fun dx q => by
    cases q
    exact ⟨_, h2⟩⟩
/-- a list of two new errors -/
def RowF (N : Addr → Prop) (H : Hp) (C : Addr) (fld : Str) (x : V) (u : V) : Prop := ∃ a e1 e2, u = .ref a ∧ H a = some (.lst [.ref e1, .ref e2]) ∧ N a ∧ ErrF N H C fld x e1 ∧ ErrF N H C fld x e2
theorem RowF.keep {N : Addr → Prop} {H H' : Hp} {C : Addr} {fld : Str} {x u : V} (k : ∀ b o, N b → H b = some o → H' b = some o) (h : RowF N H C fld x u) : RowF N H' C fld x u :=
  let ⟨a, e1, e2, h1, h2, n, h3, h4⟩ := h
  ⟨a, e1, e2, h1, k _ _ n h2, n, h3.keep k, h4.keep k⟩
theorem RowF.imp {N M : Addr → Prop} {H : Hp} {C : Addr} {fld : Str} {x u : V} (k : ∀ b o, H b = some o → N b → M b) (h : RowF N H C fld x u) : RowF M H C fld x u :=
  let ⟨a, e1, e2, h1, h2, n, h3, h4⟩ := h
  ⟨a, e1, e2, h1, h2, k _ _ h2 n, h3.imp k, h4.imp k⟩
def Rows (C : Nat → Addr) (fld : Str) (x : V) (N : Addr → Prop) (H : Hp) (rows : List V) (c : Nat) : Prop := ∀ i r, rows[i]? = some r → RowF N H (C (c + i)) fld x r
theorem Rows.nil {C : Nat → Addr} {fld : Str} {x : V} {N : Addr → Prop} {H : Hp} {c : Nat} : Rows C fld x N H [] c := fun i r h => by
  rw [List.getElem?_nil] at h
  cases h
theorem Rows.snoc {C : Nat → Addr} {fld : Str} {x : V} {N : Addr → Prop} {H : Hp} {rows : List V} {c n : Nat} {r : V} (h : Rows C fld x N H rows c) (hl : rows.length = n) (hr : RowF N H (C (c + n)) fld x r) : Rows C fld x N H (rows ++ [r]) c := fun i u q => by
  by_cases hi : i < rows.length
  · rw [List.getElem?_append_left hi] at q
    exact h i u q
  · rw [List.getElem?_append_right (by omega)] at q
    have e : i - rows.length = 0 := by
      by_cases z : i - rows.length = 0
      · exact z
      · rw [List.getElem?_eq_none (by show 1 ≤ _; omega)] at q
        cases q
    rw [e] at q
    cases q
    have e2 : i = n := by omega
    rw [e2]
    exact hr
theorem Rows.keep {C : Nat → Addr} {fld : Str} {x : V} {N : Addr → Prop} {H H' : Hp} {rows : List V} {c : Nat} (k : ∀ b o, N b → H b = some o → H' b = some o) (h : Rows C fld x N H rows c) : Rows C fld x N H' rows c := fun i r q => (h i r q).keep k
theorem Rows.imp {C : Nat → Addr} {fld : Str} {x : V} {N M : Addr → Prop} {H : Hp} {rows : List V} {c : Nat} (k : ∀ b o, H b = some o → N b → M b) (h : Rows C fld x N H rows c) : Rows C fld x M H rows c := fun i r q => (h i r q).imp k
/-- at p stands a list of n rows, p being none of theirs -/
def Grown (C : Nat → Addr) (fld : Str) (x : V) (c : Nat) (p : Addr) (H : Hp) (n : Nat) : Prop := ∃ rows, H p = some (.lst rows) ∧ rows.length = n ∧ Rows C fld x (· ≠ p) H rows c
theorem Grown.mono {C : Nat → Addr} {fld : Str} {x : V} {c : Nat} {p : Addr} {H H' : Hp} {n : Nat} (e : Ex H H') (h : Grown C fld x c p H n) : Grown C fld x c p H' n :=
  let ⟨rows, h1, h2, h3⟩ := h
  ⟨rows, e _ _ h1, h2, h3.keep fun b o _ z => e b o z⟩
/-- [e for x in xs], each a new list of its own -/
def LL (v : Nat → List V) (n : Nat) (u : V) (H : Hp) : Prop := ∃ D rs, u = .ref D ∧ H D = some (.lst rs) ∧ rs.length = n ∧ ∀ i r, rs[i]? = some r → ∃ q, r = .ref q ∧ q ≠ D ∧ H q = some (.lst (v i))
end Lay
namespace Lay
open PySem PySem.Spec PyProof.Rows L2 Evl
section
variable {P : Program} {w : World} {K : PySem.W.Frag} {mg : Str → Option Value} {base : Heap}
/-- a list of three ints of which R holds -/
def triO (R : Int → Int → Int → Prop) (j : Addr) : HO := .ext fun h => ∃ (a b c : Int) (its : List Value) (n : Nat), R a b c ∧ Vals [V.int a, V.int b, V.int c] its ∧ h.get? j = some { cls := .type "list", data := .seq its.toArray n }
theorem tri_ne {R : Int → Int → Int → Prop} {j : Addr} : (∀ x, triO R j ≠ .own x) ∧ (∀ xs, triO R j ≠ .tup xs) ∧ (∀ ob u, triO R j ≠ .frz ob u) ∧ (∀ ps, triO R j ≠ .tbl ps) := by
  unfold triO
  exact ⟨fun _ z => (by cases z), fun _ z => (by cases z), fun _ _ z => (by cases z), fun _ z => (by cases z)⟩
theorem tri_close {R : Int → Int → Int → Prop} {H : Hp} {j : Addr} {a b c : Int} (hj : H j = some (.lst [.int a, .int b, .int c])) (ha : R a b c) {h : Heap} : Gst P w h H (upd H j (triO R j)) := by
  obtain ⟨n1, n2, n3, n4⟩ := lst_ne (xs := [V.int a, V.int b, V.int c])
  refine Gst.at hj n1 n2 n3 n4 fun hk => ?_
  obtain ⟨_, its, n, rv, e⟩ := (show ObjOk P w H h j (.lst [.int a, .int b, .int c]) from hk j _ hj)
  exact ⟨⟨a, b, c, its, n, ha, rv, e⟩, ⟨_, e⟩, fun h1 h2 ⟨a, b, c, its, n, z1, z2, z3⟩ k => ⟨a, b, c, its, n, z1, z2, k _ z3⟩⟩
theorem tri_open {R : Int → Int → Int → Prop} {H : Hp} {j : Addr} {h : Heap} (hj : H j = some (triO R j)) (hk : HOk P w H h) : ∃ a b c : Int, R a b c ∧ Gst P w h H (upd H j (.lst [.int a, .int b, .int c])) := by
  obtain ⟨n1, n2, n3, n4⟩ := tri_ne (R := R) (j := j)
  have q := hk j _ hj
  unfold triO at q
  obtain ⟨⟨a, b, c, its, n, ha, rv, e⟩, _, _⟩ := q
  exact ⟨a, b, c, ha, Gst.at hj n1 n2 n3 n4 fun _ => ⟨by rw [sizeLine_eq]; exact (by decide : 3 ≤ 16777216), its, n, rv, e⟩⟩
theorem ex_tri {R : Int → Int → Int → Prop} {H H' : Hp} {j : Addr} {xs : List V} (hj : H j = some (triO R j)) (e : Ex (upd H j (.lst xs)) H') : Ex H (upd H' j (triO R j)) := fun a o q => by
  by_cases ha : a = j
  · subst ha
    rw [upd_same, ← hj]
    exact q
  · rw [upd_ne ha]
    refine e a o ?_
    rw [upd_ne ha]
    exact q
/-- a pool, a bag -/
abbrev RPool : Int → Int → Int → Prop := fun a b _ => 0 ≤ a ∧ 0 ≤ b ∧ b < 2147483648
abbrev RBag : Int → Int → Int → Prop := fun a b _ => 0 ≤ b ∧ 0 ≤ a ∧ a < 2147483648
abbrev bagO (j : Addr) : HO := triO RBag j
/-- a new list, one or the other -/
theorem el_if {σ : L2.St} {H : Hp} {t : TT} {ta tb : TE} {b : Bool} {xs : List V} (h : EvT t σ H b) (h1 : b = true → EvL ta σ H xs) (h2 : b = false → EvL tb σ H xs) : EvL (tIf t ta tb) σ H xs := fun H1 e Q q => h H1 e _ fun H2 e2 => by
  cases b with
  | true =>
    show ta σ H2 Q
    exact h1 rfl H2 (e.trans e2) Q fun p H3 hp e3 h3 => q p H3 (fresh_back e2 hp) (e2.trans e3) h3
  | false =>
    show tb σ H2 Q
    exact h2 rfl H2 (e.trans e2) Q fun p H3 hp e3 h3 => q p H3 (fresh_back e2 hp) (e2.trans e3) h3
end
end Lay
namespace ErrX
open PySem PySem.W PySem.Calls PyProof.Rows
end ErrX
namespace ErrX
open PySem PySem.Spec PyProof.Rows L2
open PySem.W (Frag)
end ErrX
namespace Lay
open PySem PySem.Spec PyProof.Rows L2 Evl
section
variable {P : Program} {w : World} {K : PySem.W.Frag} {mg : Str → Option Value} {base : Heap}
theorem fnok_g {CX : CXT} {k : Nat} {f : Addr} {fd : FuncData} {ps : List Str} {sp : Sp} (F : FnOk P w K mg base CX k f fd ps sp) : FnG P w K mg base CX k f fd ps sp := ⟨F.len, fun A outer s H args us vs Q E hr _ => F.run A outer s H args us vs Q E hr⟩
/-- where nothing is let out -/
theorem fnok_calm {k : Nat} {f : Addr} {fd : FuncData} {ps : List Str} {sp : Sp} (F : FnOk P w K mg base (L2.CX P w) k f fd ps sp) : FnOk P w K mg base CX0 k f fd ps (fun vs H Q _ => sp vs H Q E0) :=
  ⟨fun vs H Q E h => F.len vs H Q E0 h, fun A outer s H args us vs Q E hr he hb hv hs => codeAny_mono (F.run A outer s H args us vs Q E0 hr he hb hv hs) fun res s' z => by
    cases res with
    | error e =>
      obtain ⟨_, _, _, _, _, _, _, _, _, _, _, _, z⟩ := z
      exact z.elim
    | ok fl => cases fl <;> exact z⟩
/-- a def of the program and its promise: what it lets out is told -/
structure PkOk (P : Program) (w : World) (K : PySem.W.Frag) (mg : Str → Option Value) (base : Heap) (x : Str) (st : Stmt) (k : Nat) (ps : List Str) (sp : Sp) : Prop where
  ex : ∃ f fd, FnOk P w K mg base (L2.CX P w) k f fd ps sp ∧ mg x = some (.ref f) ∧ Fun K x x st f fd ∧ Binds K fd ps []
/-- as seen where it raises nothing -/
theorem PkOk.calm {x : Str} {st : Stmt} {k : Nat} {ps : List Str} {sp : Sp} (D : PkOk P w K mg base x st k ps sp) : DefOk P w K mg base x k ps (fun vs H Q _ => sp vs H Q E0) :=
  let ⟨f, fd, F, r1, r2, r3⟩ := D.ex
  ⟨f, fd, fnok_g (fnok_calm F), r1, r2.kp, r3⟩
theorem PkOk.mono {x : Str} {st : Stmt} {j k : Nat} {ps : List Str} {sp : Sp} (D : PkOk P w K mg base x st j ps sp) (h : j ≤ k) : PkOk P w K mg base x st k ps sp :=
  let ⟨f, fd, F, r⟩ := D.ex
  ⟨f, fd, ⟨F.len, fun A outer s H args us vs Q E hr => F.run A outer s H args us vs Q E (hr.mono h)⟩, r⟩
theorem PkOk.imp {x : Str} {st : Stmt} {k : Nat} {ps : List Str} {sp sp' : Sp} (D : PkOk P w K mg base x st k ps sp) (h : ∀ vs H Q E, sp' vs H Q E → sp vs H Q E) : PkOk P w K mg base x st k ps sp' :=
  let ⟨f, fd, F, r⟩ := D.ex
  ⟨f, fd, ⟨fun vs H Q E q => F.len vs H Q E (h _ _ _ _ q), fun A outer s H args us vs Q E hr he hb hv hs => F.run A outer s H args us vs Q E hr he hb hv (h _ _ _ _ hs)⟩, r⟩
end
/-- how a def takes its arguments by name: g puts them in the parameters' order -/
def KwB (K : PySem.W.Frag) (x : Str) (st : Stmt) (ks ps : List Str) (g : {α : Type} → List α → List α) : Prop := ∀ (f : Addr) (fd : FuncData), Fun K x x st f fd → ∀ (s : Shared) (ws : List Value), ws.length = ks.length → BindsTo s fd ⟨[], ks.zip ws⟩ (ps.zip (g ws))
section
variable {X : Cx} {x : Str} {st : Stmt} {p pos : Pos} {e : Expr} {es : List Expr} {t : TA} {k : Nat} {ps ks : List Str} {sp : Sp} {W : WX} {kws : List Keyword} {tk : TA}
/-- f(k = e, ..) -/
def tCallK (n : Nat) (sp : Sp) (g : List V → List V) (E : L2.St → XK) (tk : TA) : TE := fun σ H Q => tk σ H fun zs H1 => zs.length = n ∧ sp (g zs) H1 Q (E σ)
/-- orders of one, two, three names -/
def g1 {α : Type} : List α → List α := fun l => l
def g21 {α : Type} : List α → List α
  | [a, b] => [b, a]
  | l => l
theorem g1_vals {zs : List V} {ws : List Value} (h : Vals zs ws) : Vals (g1 zs) (g1 ws) := h
theorem g21_vals : ∀ {zs : List V} {ws : List Value}, Vals zs ws → Vals (g21 zs) (g21 ws)
  | _, _, .nil => .nil
  | _, _, .cons a .nil => .cons a .nil
  | _, _, .cons a (.cons b .nil) => .cons b (.cons a .nil)
  | _, _, .cons a (.cons b (.cons c d)) => .cons a (.cons b (.cons c d))
end
end Lay
namespace DL
open PySem PySem.Spec PyProof.Rows L2 Evl Lay ErrX
/-- data: scalars, tuples, lists, objects of the program (class, attributes), a jar -/
inductive D where
  | n | b (v : Bool) | i (v : Int) | s (v : Str) | t (xs : List D) | l (xs : List D) | o (C : Addr) (ns : List Str) (xs : List D) | j | p (k : Nat) | c (ns : List Int) | T (xs : List D) | q (k : Bool)
/-- the dicts {} and {'a': 1} -/
def kvQ : Bool → List (Key × V)
  | false => []
  | true => [(.inr "a", .int 1)]
/-- what is known of the three numbers of a pool, a bag -/
def RK : Nat → Int → Int → Int → Prop
  | 0 => RPool
  | _ => RBag
mutual
inductive R (K : PySem.W.Frag) (F : Hp) : V → D → Prop
  | n : R K F .non .n
  | b (v : Bool) : R K F (.bl v) (.b v)
  | i (v : Int) : R K F (.int v) (.i v)
  | s (v : Str) : R K F (.str v) (.s v)
  | t {p : Addr} {vs : List V} {xs : List D} : SqT K F p vs → RA K F vs xs → R K F (.ref p) (.t xs)
  | l {p : Addr} {vs : List V} {xs : List D} : F p = some (.lst vs) → RA K F vs xs → R K F (.ref p) (.l xs)
  | o {a C dx : Addr} {ns : List Str} {vs : List V} {xs : List D} : F a = some (.ins C dx (ns.zip vs)) → F dx = some (.own a) → ns.length = vs.length → RA K F vs xs → R K F (.ref a) (.o C ns xs)
  | j {a : Addr} : F a = some (jarO a) → R K F (.ref a) .j
  | p {a : Addr} (k : Nat) : F a = some (triO (RK k) a) → R K F (.ref a) (.p k)
  | c {p : Addr} {ns : List Int} : SqL K F p (ns.map V.int) → R K F (.ref p) (.c ns)
  | T {p : Addr} {ob : Obj} {vs : List V} {xs : List D} : F p = some (.frz ob (.tup vs)) → ob.dict = none → RA K F vs xs → R K F (.ref p) (.T xs)
  | q {p : Addr} (k : Bool) : F p = some (.dK (kvQ k)) → R K F (.ref p) (.q k)
inductive RA (K : PySem.W.Frag) (F : Hp) : List V → List D → Prop
  | nil : RA K F [] []
  | cons {v : V} {x : D} {vs : List V} {xs : List D} : R K F v x → RA K F vs xs → RA K F (v :: vs) (x :: xs)
end
section
variable {K : PySem.W.Frag} {F F' H H' : Hp}
mutual
theorem R.mono (e : Ex F F') : ∀ {v : V} {x : D}, R K F v x → R K F' v x
  | _, _, .n => .n
  | _, _, .b v => .b v
  | _, _, .i v => .i v
  | _, _, .s v => .s v
  | _, _, .t h r => .t (ex_t e h) (RA.mono e r)
  | _, _, .l h r => .l (e _ _ h) (RA.mono e r)
  | _, _, .o h1 h2 h3 r => .o (e _ _ h1) (e _ _ h2) h3 (RA.mono e r)
  | _, _, .j h => .j (e _ _ h)
  | _, _, .p k h => .p k (e _ _ h)
  | _, _, .c h => .c (ex_l e h)
  | _, _, .T h n r => .T (e _ _ h) n (RA.mono e r)
  | _, _, .q k h => .q k (e _ _ h)
theorem RA.mono (e : Ex F F') : ∀ {vs : List V} {xs : List D}, RA K F vs xs → RA K F' vs xs
  | _, _, .nil => .nil
  | _, _, .cons h r => .cons (R.mono e h) (RA.mono e r)
end
theorem RA.len : ∀ {vs : List V} {xs : List D}, RA K F vs xs → vs.length = xs.length
  | _, _, .nil => rfl
  | _, _, .cons _ r => by rw [List.length_cons, List.length_cons, RA.len r]
theorem RA.get : ∀ {vs : List V} {xs : List D} {k : Nat} {v : V}, RA K F vs xs → vs[k]? = some v → ∃ x, xs[k]? = some x ∧ R K F v x
  | _, _, _, _, .nil, h => by
    rw [List.getElem?_nil] at h
    cases h
  | _, _, 0, _, .cons a _, h => by
    cases h
    exact ⟨_, rfl, a⟩
  | _, _, k + 1, _, .cons _ r, h => RA.get (k := k) r h
theorem RA.get' : ∀ {vs : List V} {xs : List D} {k : Nat} {x : D}, RA K F vs xs → xs[k]? = some x → ∃ v, vs[k]? = some v ∧ R K F v x
  | _, _, _, _, .nil, h => by
    rw [List.getElem?_nil] at h
    cases h
  | _, _, 0, _, .cons a _, h => by
    cases h
    exact ⟨_, rfl, a⟩
  | _, _, k + 1, _, .cons _ r, h => RA.get' (k := k) r h
theorem RA.app : ∀ {vs ws : List V} {xs ys : List D}, RA K F vs xs → RA K F ws ys → RA K F (vs ++ ws) (xs ++ ys)
  | _, _, _, _, .nil, s => s
  | _, _, _, _, .cons a r, s => .cons a (RA.app r s)
theorem RA.snoc {vs : List V} {xs : List D} {v : V} {x : D} (h : RA K F vs xs) (r : R K F v x) : RA K F (vs ++ [v]) (xs ++ [x]) := h.app (.cons r .nil)
theorem RA.take : ∀ {vs : List V} {xs : List D} (k : Nat), RA K F vs xs → RA K F (vs.take k) (xs.take k)
  | _, _, 0, _ => .nil
  | _, _, _ + 1, .nil => .nil
  | _, _, k + 1, .cons a r => .cons a (RA.take k r)
theorem RA.drop : ∀ {vs : List V} {xs : List D} (k : Nat), RA K F vs xs → RA K F (vs.drop k) (xs.drop k)
  | _, _, 0, r => r
  | _, _, _ + 1, .nil => .nil
  | _, _, k + 1, .cons _ r => RA.drop k r
theorem RA.set : ∀ {vs : List V} {xs : List D} {v : V} {x : D} (k : Nat), RA K F vs xs → R K F v x → RA K F (vs.set k v) (xs.set k x)
  | _, _, _, _, _, .nil, _ => .nil
  | _, _, _, _, 0, .cons _ r, a => .cons a r
  | _, _, _, _, k + 1, .cons b r, a => .cons b (RA.set k r a)
theorem RA.ints : ∀ {ns : List Int}, RA K F (ns.map V.int) (ns.map D.i)
  | [] => .nil
  | _ :: _ => .cons (.i _) RA.ints
/-- a heap grown: all stays, but tables of code objects may have grown -/
def ExT (H H' : Hp) : Prop := ∀ a o, H a = some o → H' a = some o ∨ ((∃ ps, o = .tbl ps) ∧ ∃ ps, H' a = some (.tbl ps))
theorem ext_nt {φ : Heap → Prop} (ps : Array Value) : HO.ext φ ≠ .tbl ps := fun z => by cases z
theorem ExT.of (e : Ex H H') : ExT H H' := fun a o h => .inl (e a o h)
theorem ExT.refl (H : Hp) : ExT H H := fun _ _ h => .inl h
theorem ExT.trans {H H1 H2 : Hp} (a : ExT H H1) (b : ExT H1 H2) : ExT H H2 := fun x o h => by
  rcases a x o h with h1 | ⟨⟨ps, e⟩, ps1, h1⟩
  · exact b x o h1
  · rcases b x _ h1 with h2 | ⟨_, ps2, h2⟩
    · exact .inr ⟨⟨ps, e⟩, ps1, h2⟩
    · exact .inr ⟨⟨ps, e⟩, ps2, h2⟩
theorem ExT.back {p : Addr} (e : ExT H H') (h : H' p = none) : H p = none := by
  cases q : H p with
  | none => rfl
  | some o =>
    rcases e p o q with z | ⟨_, ps, z⟩ <;> (rw [h] at z; cases z)
theorem ExT.kp {a : Addr} {o : HO} (e : ExT H H') (h : H a = some o) (n : ∀ ps, o ≠ .tbl ps := by intro ps z; first | (cases z; done) | exact ext_nt ps z) : H' a = some o := by
  rcases e a o h with z | ⟨⟨ps, z⟩, _⟩
  · exact z
  · exact absurd z (n ps)
theorem ExT.mut {p : Addr} {o : HO} (e : ExT H H') (h : H p = none) : ExT H (upd H' p o) := fun a u ha => by
  have ne : a ≠ p := fun z => by rw [z, h] at ha; cases ha
  rw [upd_ne ne]
  exact e a u ha
/-- tables grow, and tell no other code objects than such of their name -/
def TabG (H H' : Hp) : Prop := ∀ P q, LamX.TabS H P q → LamX.TabS H' P q
theorem TabG.refl (H : Hp) : TabG H H := fun _ _ t => t
theorem TabG.of (h : Ex H H') : TabG H H' := fun _ _ t => t.ext h
theorem TabG.trans {H1 H2 : Hp} (a : TabG H H1) (b : TabG H1 H2) : TabG H H2 := fun P q t => b P q (a P q t)
/-- no table, no code object -/
def NoTab (p : Addr) (o : HO) : Prop := (∀ ps, o ≠ .tbl ps) ∧ ∀ q, o ≠ LamX.CodeO p q
theorem TabG.mut {p : Addr} {o u : HO} (a : TabG H H') (h : H' p = some u) (n : NoTab p u) : TabG H (upd H' p o) := fun P q t => by
  obtain ⟨ps, b, c, d⟩ := a P q t
  have n1 : P ≠ p := fun z => by
    rw [z, h] at b
    exact n.1 ps (Option.some.inj b)
  refine ⟨ps, by rw [upd_ne n1]; exact b, c, fun pos cv e => ?_⟩
  obtain ⟨k, e1, e2⟩ := d pos cv e
  have n2 : k ≠ p := fun z => by
    rw [z, h] at e2
    exact n.2 q (Option.some.inj e2)
  exact ⟨k, e1, by rw [upd_ne n2]; exact e2⟩
theorem noTab_lst {p : Addr} {xs : List V} : NoTab p (.lst xs) := ⟨(fun ps z => by cases z), fun q z => by
  unfold LamX.CodeO at z
  cases z⟩
theorem noTab_ins {p C dx : Addr} {fs : List (Str × V)} : NoTab p (.ins C dx fs) := ⟨(fun ps z => by cases z), fun q z => by
  unfold LamX.CodeO at z
  cases z⟩
/-- what stands at p is no record -/
theorem noTab_ext {p : Addr} {φ : Heap → Prop} (hφ : ∀ h, φ h → ∃ o, h.get? p = some o ∧ ∀ vs, o.data ≠ .fields vs) : NoTab p (.ext φ) := by
  refine ⟨fun ps => ext_nt ps, fun q z => ?_⟩
  unfold LamX.CodeO at z
  injection z with z
  have hp : (Heap.push ⟨Array.replicate p { cls := .none, data := .fields #[] }, {}⟩ { cls := .none, data := .fields #[.none, .str q default] }).get? p = some { cls := .none, data := .fields #[.none, .str q default] } := by
    have := Heap.get?_push_size ⟨Array.replicate p { cls := .none, data := .fields #[] }, {}⟩ (o := { cls := .none, data := .fields #[.none, .str q default] }) rfl
    rw [show (Heap.mk (Array.replicate p ({ cls := .none, data := .fields #[] } : Obj)) {}).objs.size = p from by simp] at this
    exact this
  have t : φ (Heap.push ⟨Array.replicate p { cls := .none, data := .fields #[] }, {}⟩ { cls := .none, data := .fields #[.none, .str q default] }) := by
    rw [z]
    exact ⟨_, _, _, hp, rfl, rfl⟩
  obtain ⟨o, ho, n⟩ := hφ _ t
  rw [hp] at ho
  cases ho
  exact n _ rfl
theorem noTab_set {P : Program} {w : World} {p : Addr} {L : List (Addr × List Int)} : NoTab p (SetTO P w p L) := noTab_ext fun h (R : SetT0 P w h p L) => by
  obtain ⟨es, ep, t, ⟨o, ho, ex, hd⟩, _⟩ := R.ex
  exact ⟨o, ho, fun vs z => by rw [hd] at z; cases z⟩
/-- what is known (F) and the heap (H) grown: what F has anew, H had not -/
structure Ext (F H F' H' : Hp) : Prop where
  ff : Ex F F'
  hh : ExT H H'
  fh : Ex F' H'
  tb : TabG H H'
  nw : ∀ p o, F' p = some o → F p = none → H p = none
theorem Ext.refl (e : Ex F H) : Ext F H F H := ⟨Ex.refl F, ExT.refl H, e, TabG.refl H, fun p o h n => by rw [n] at h; cases h⟩
theorem Ext.trans {F1 H1 F2 H2 : Hp} (a : Ext F H F1 H1) (b : Ext F1 H1 F2 H2) : Ext F H F2 H2 := ⟨a.ff.trans b.ff, a.hh.trans b.hh, b.fh, a.tb.trans b.tb, fun p o h n => by
  cases q : F1 p with
  | none => exact ExT.back a.hh (b.nw p o h q)
  | some u => exact a.nw p u q n⟩
/-- the heap alone grows -/
theorem Ext.heap (e : Ex F H) (x : Ex H H') : Ext F H F H' := ⟨Ex.refl F, ExT.of x, e.trans x, TabG.of x, fun p o h n => by rw [n] at h; cases h⟩
theorem ex_upd2 {p : Addr} {o : HO} (e : Ex F H) : Ex (upd F p o) (upd H p o) := fun a u h => by
  by_cases q : a = p
  · subst q
    rw [upd_same] at h ⊢
    exact h
  · rw [upd_ne q] at h ⊢
    exact e _ _ h
/-- a new object, known -/
theorem Ext.new {p : Addr} {o : HO} (e : Ex F H) (h : H p = none) : Ext F H (upd F p o) (upd H p o) :=
  ⟨Ex.new (fresh_back e h), ExT.of (Ex.new h), ex_upd2 e, TabG.of (Ex.new h), fun a u q n => by
    by_cases z : a = p
    · rw [z]
      exact h
    · rw [upd_ne z, n] at q
      cases q⟩
/-- an object that stands in H, not in F, and was not in H0, comes to be known -/
theorem ex_told {p : Addr} {o : HO} (e : Ex F H) (h : H p = some o) : Ex (upd F p o) H := fun a u q => by
  by_cases z : a = p
  · subst z
    rw [upd_same] at q
    rw [h]
    exact q
  · rw [upd_ne z] at q
    exact e _ _ q
end
/-- what is one's own, and may still change: a list; a set of tuples of ints -/
inductive Own where
  | l (xs : List D) | s (f : Addr → List (Addr × List Int) → HO) (ks : List (List Int)) (nt : ∀ p L, NoTab p (f p L)) | la (p : Addr) (vs : List V) (xs : List D)
def OwnOk (K : PySem.W.Frag) (F : Hp) (p : Addr) : Own → HO → Prop
  | .l xs, o => ∃ vs, o = .lst vs ∧ RA K F vs xs
  | .s f ks _, o => ∃ L : List (Addr × List Int), o = f p L ∧ (L.map (·.2)).Perm ks ∧ ∀ q ∈ L, SqT K F q.1 (q.2.map V.int)
  | .la q vs xs, o => q = p ∧ o = .lst vs ∧ RA K F vs xs
theorem OwnOk.mono {K : PySem.W.Frag} {F F' : Hp} {p : Addr} {o : Own} {ho : HO} (h : OwnOk K F p o ho) (e : Ex F F') : OwnOk K F' p o ho := by
  cases o with
  | l xs =>
    obtain ⟨vs, h1, h2⟩ := h
    exact ⟨vs, h1, h2.mono e⟩
  | s f ks nt =>
    obtain ⟨L, h1, h2, h3⟩ := h
    exact ⟨L, h1, h2, fun q hq => ex_t e (h3 q hq)⟩
  | la q vs xs => exact ⟨h.1, h.2.1, h.2.2.mono e⟩
theorem OwnOk.nt {K : PySem.W.Frag} {F : Hp} {p : Addr} {o : Own} {ho : HO} (h : OwnOk K F p o ho) : NoTab p ho := by
  cases o with
  | l xs =>
    obtain ⟨vs, rfl, _⟩ := h
    exact noTab_lst
  | s f ks nt =>
    obtain ⟨L, rfl, _⟩ := h
    exact nt p L
  | la q vs xs =>
    obtain ⟨_, rfl, _⟩ := h
    exact noTab_lst
/-- a slot: nothing told; data; a thing of one's own -/
inductive Sl where
  | u | d (x : D) | w (o : Own)
abbrev Sl.ol (xs : List D) : Sl := .w (.l xs)
abbrev Sl.os (f : Addr → List (Addr × List Int) → HO) (ks : List (List Int)) (nt : ∀ p L, NoTab p (f p L) := by exact fun _ _ => noTab_set) : Sl := .w (.s f ks nt)
abbrev G := List Sl
def nth : G → Nat → Sl
  | [], _ => .u
  | x :: _, 0 => x
  | _ :: r, k + 1 => nth r k
def put : G → Nat → Sl → G
  | [], _, _ => []
  | _ :: r, 0, y => y :: r
  | x :: r, k + 1, y => x :: put r k y
theorem nth_put_same : ∀ {Γ : G} {k : Nat} {y : Sl}, k < Γ.length → nth (put Γ k y) k = y
  | _ :: _, 0, _, _ => rfl
  | _ :: r, k + 1, _, h => nth_put_same (Γ := r) (k := k) (Nat.lt_of_succ_lt_succ h)
theorem nth_put_ne : ∀ {Γ : G} {k m : Nat} {y : Sl}, m ≠ k → nth (put Γ k y) m = nth Γ m
  | [], _, _, _, _ => rfl
  | _ :: _, 0, 0, _, h => absurd rfl h
  | _ :: _, 0, _ + 1, _, _ => rfl
  | _ :: _, _ + 1, 0, _, _ => rfl
  | _ :: r, k + 1, m + 1, _, h => nth_put_ne (Γ := r) fun e => h (by rw [e])
theorem put_length : ∀ {Γ : G} {k : Nat} {y : Sl}, (put Γ k y).length = Γ.length
  | [], _, _ => rfl
  | _ :: _, 0, _ => rfl
  | _ :: r, k + 1, _ => by
    show (put r k _).length + 1 = _
    rw [put_length]
    rfl
theorem nth_out : ∀ {Γ : G} {k : Nat}, Γ.length ≤ k → nth Γ k = .u
  | [], _, _ => rfl
  | _ :: r, 0, h => absurd h (by simp)
  | _ :: r, k + 1, h => nth_out (Γ := r) (Nat.le_of_succ_le_succ h)
theorem put_out : ∀ {Γ : G} {k : Nat} {y : Sl}, Γ.length ≤ k → put Γ k y = Γ
  | [], _, _, _ => rfl
  | _ :: r, 0, _, h => absurd h (by simp)
  | x :: r, k + 1, y, h => by
    show x :: put r k y = x :: r
    rw [put_out (Nat.le_of_succ_le_succ h)]
theorem nth_put {Γ : G} {k m : Nat} {y : Sl} : nth (put Γ k y) m = if m = k ∧ k < Γ.length then y else nth Γ m := by
  by_cases h : m = k
  · subst h
    by_cases l : m < Γ.length
    · rw [nth_put_same l, if_pos ⟨rfl, l⟩]
    · rw [put_out (Nat.le_of_not_lt l), if_neg (fun z => l z.2)]
  · rw [nth_put_ne h, if_neg (fun z => h z.1)]
/-- F0, H0: what was known at the entry -/
structure Rep (K : PySem.W.Frag) (F0 H0 F H : Hp) (σ : L2.St) (Γ : G) : Prop where
  f0 : Ex F0 F
  h0 : ExT H0 H
  fh : Ex F H
  tb : TabG H0 H
  nw : ∀ p o, F p = some o → F0 p = none → H0 p = none
  len : σ.length = Γ.length
  sl : ∀ k x, nth Γ k = .d x → ∃ v, σ[k]? = some (some v) ∧ R K F v x
  ow : ∀ k o, nth Γ k = .w o → ∃ p ho, σ[k]? = some (some (.ref p)) ∧ F p = none ∧ H0 p = none ∧ H p = some ho ∧ OwnOk K F p o ho
  inj : ∀ k m o o' p, k ≠ m → nth Γ k = .w o → nth Γ m = .w o' → σ[k]? = some (some (.ref p)) → σ[m]? = some (some (.ref p)) → False
section
variable {K : PySem.W.Frag} {F0 H0 F H F' H' : Hp} {σ : L2.St} {Γ : G}
theorem Rep.ext0 (r : Rep K F0 H0 F H σ Γ) : Ext F0 H0 F H := ⟨r.f0, r.h0, r.fh, r.tb, r.nw⟩
theorem Rep.ol (r : Rep K F0 H0 F H σ Γ) (k : Nat) (xs : List D) (h : nth Γ k = .ol xs) : ∃ p vs, σ[k]? = some (some (.ref p)) ∧ F p = none ∧ H0 p = none ∧ H p = some (.lst vs) ∧ RA K F vs xs := by
  obtain ⟨p, ho, a, b, c, d, vs, e, f⟩ := r.ow k _ h
  subst e
  exact ⟨p, vs, a, b, c, d, f⟩
theorem Rep.ext (r : Rep K F0 H0 F H σ Γ) (e : Ext F H F' H') : Rep K F0 H0 F' H' σ Γ :=
  let z := r.ext0.trans e
  ⟨z.ff, z.hh, z.fh, z.tb, z.nw, r.len, fun k x h => let ⟨v, a, b⟩ := r.sl k x h; ⟨v, a, b.mono e.ff⟩, fun k xs h => by
    obtain ⟨p, vs, a, b, c, d, f⟩ := r.ow k xs h
    refine ⟨p, vs, a, ?_, c, e.hh.kp d f.nt.1, f.mono e.ff⟩
    cases q : F' p with
    | none => rfl
    | some o =>
      have := e.nw p o q b
      rw [d] at this
      exact (nomatch this), r.inj⟩
/-- a slot is set to data -/
theorem Rep.set (r : Rep K F0 H0 F H σ Γ) {k : Nat} {v : V} {x : D} (h : R K F v x) : Rep K F0 H0 F H (σ.set k (some v)) (put Γ k (.d x)) := by
  refine ⟨r.f0, r.h0, r.fh, r.tb, r.nw, by rw [List.length_set, put_length, r.len], fun m y q => ?_, fun m xs q => ?_, fun m m' xs ys p ne q1 q2 s1 s2 => ?_⟩
  · rw [nth_put] at q
    split at q
    · rename_i z
      obtain ⟨rfl, z⟩ := z
      cases q
      exact ⟨v, by rw [List.getElem?_set_self (by rw [r.len]; exact z)], h⟩
    · rename_i z
      obtain ⟨u, a, b⟩ := r.sl m y q
      refine ⟨u, ?_, b⟩
      by_cases e : k = m
      · subst e
        rw [nth_out (Nat.le_of_not_lt fun l => z ⟨rfl, l⟩)] at q
        cases q
      · rw [List.getElem?_set_ne e]
        exact a
  · rw [nth_put] at q
    split at q
    · cases q
    · rename_i z
      obtain ⟨p, vs, a, b⟩ := r.ow m xs q
      refine ⟨p, vs, ?_, b⟩
      by_cases e : k = m
      · subst e
        rw [nth_out (Nat.le_of_not_lt fun l => z ⟨rfl, l⟩)] at q
        cases q
      · rw [List.getElem?_set_ne e]
        exact a
  · have key : ∀ m xs, nth (put Γ k (.d x)) m = .w xs → k ≠ m ∧ nth Γ m = .w xs := fun m xs q => by
      rw [nth_put] at q
      split at q
      · cases q
      · rename_i z
        refine ⟨fun e => ?_, q⟩
        subst e
        rw [nth_out (Nat.le_of_not_lt fun l => z ⟨rfl, l⟩)] at q
        cases q
    obtain ⟨a1, a2⟩ := key _ _ q1
    obtain ⟨b1, b2⟩ := key _ _ q2
    rw [List.getElem?_set_ne a1] at s1
    rw [List.getElem?_set_ne b1] at s2
    exact r.inj m m' xs ys p ne a2 b2 s1 s2
/-- a slot is set to a list of one's own, that stands in the heap and in no other slot -/
theorem Rep.setW (r : Rep K F0 H0 F H σ Γ) {k : Nat} {p : Addr} {vs : HO} {xs : Own} (hf : F p = none) (h0 : H0 p = none) (hp : H p = some vs) (h : OwnOk K F p xs vs) (hn : ∀ m ys, m ≠ k → nth Γ m = .w ys → σ[m]? = some (some (.ref p)) → False) :
    Rep K F0 H0 F H (σ.set k (some (.ref p))) (put Γ k (.w xs)) := by
  have out : ∀ {m : Nat} {y : Sl}, ¬ (m = k ∧ k < Γ.length) → nth Γ m = y → y ≠ .u → k ≠ m := fun {m y} z q n e => by
    subst e
    rw [nth_out (Nat.le_of_not_lt fun l => z ⟨rfl, l⟩)] at q
    exact n q.symm
  refine ⟨r.f0, r.h0, r.fh, r.tb, r.nw, by rw [List.length_set, put_length, r.len], fun m y q => ?_, fun m ys q => ?_, fun m m' ys zs p' ne q1 q2 s1 s2 => ?_⟩
  · rw [nth_put] at q
    split at q
    · cases q
    · rename_i z
      obtain ⟨u, a, b⟩ := r.sl m y q
      exact ⟨u, by rw [List.getElem?_set_ne (out z q (by simp))]; exact a, b⟩
  · rw [nth_put] at q
    split at q
    · rename_i z
      obtain ⟨rfl, z⟩ := z
      cases q
      exact ⟨p, vs, by rw [List.getElem?_set_self (by rw [r.len]; exact z)], hf, h0, hp, h⟩
    · rename_i z
      obtain ⟨p', vs', a, b⟩ := r.ow m ys q
      exact ⟨p', vs', by rw [List.getElem?_set_ne (out z q (by simp))]; exact a, b⟩
  · rw [nth_put] at q1 q2
    split at q1
    · rename_i z
      obtain ⟨rfl, z⟩ := z
      split at q2
      · rename_i z2
        exact ne z2.1.symm
      · rename_i z2
        have e2 := out z2 q2 (by simp)
        rw [List.getElem?_set_self (by rw [r.len]; exact z)] at s1
        rw [List.getElem?_set_ne e2] at s2
        cases s1
        exact hn m' zs (fun e => e2 e.symm) q2 s2
    · rename_i z
      have e1 := out z q1 (by simp)
      rw [List.getElem?_set_ne e1] at s1
      split at q2
      · rename_i z2
        obtain ⟨rfl, z2⟩ := z2
        rw [List.getElem?_set_self (by rw [r.len]; exact z2)] at s2
        cases s2
        exact hn m ys (fun e => e1 e.symm) q1 s1
      · rename_i z2
        rw [List.getElem?_set_ne (out z2 q2 (by simp))] at s2
        exact r.inj m m' ys zs p' ne q1 q2 s1 s2
theorem Rep.setO (r : Rep K F0 H0 F H σ Γ) {k : Nat} {p : Addr} {vs : List V} {xs : List D} (hf : F p = none) (h0 : H0 p = none) (hp : H p = some (.lst vs)) (h : RA K F vs xs) (hn : ∀ m ys, m ≠ k → nth Γ m = .w ys → σ[m]? = some (some (.ref p)) → False) :
    Rep K F0 H0 F H (σ.set k (some (.ref p))) (put Γ k (.ol xs)) := r.setW hf h0 hp ⟨vs, rfl, h⟩ hn
/-- the list of one's own in a slot is changed -/
theorem Rep.chgW (r : Rep K F0 H0 F H σ Γ) {k : Nat} {p : Addr} {ws : HO} {xs ys : Own} (hk : nth Γ k = .w xs) (hs : σ[k]? = some (some (.ref p))) (h : OwnOk K F p ys ws) : Rep K F0 H0 F (upd H p ws) σ (put Γ k (.w ys)) := by
  obtain ⟨p', vs, a, b, c, d, f⟩ := r.ow k xs hk
  rw [hs] at a
  cases a
  have kl : k < Γ.length := Nat.lt_of_not_le fun l => by
    rw [nth_out l] at hk
    cases hk
  refine ⟨r.f0, fun a u q => ?_, fun a u q => ?_, r.tb.mut d f.nt, r.nw, by rw [put_length, r.len], fun m y q => ?_, fun m zs q => ?_, fun m m' zs zs' p' ne q1 q2 s1 s2 => ?_⟩
  · rw [upd_ne (ne_of_none q c)]
    exact r.h0 a u q
  · rw [upd_ne (ne_of_none q b)]
    exact r.fh a u q
  · rw [nth_put] at q
    split at q
    · cases q
    · exact r.sl m y q
  · rw [nth_put] at q
    split at q
    · rename_i z
      obtain ⟨rfl, z⟩ := z
      cases q
      exact ⟨p, ws, hs, b, c, upd_same, h⟩
    · rename_i z
      obtain ⟨p', vs', a', b', c', d', f'⟩ := r.ow m zs q
      refine ⟨p', vs', a', b', c', ?_, f'⟩
      rw [upd_ne fun e => ?_]
      · exact d'
      · subst e
        exact r.inj m k zs xs p' (fun e => z ⟨e, kl⟩) q hk a' hs
  · have key : ∀ m zs, nth (put Γ k (.w ys)) m = .w zs → ∃ zs', nth Γ m = .w zs' := fun m zs q => by
      rw [nth_put] at q
      split at q
      · rename_i z
        exact ⟨xs, by rw [z.1]; exact hk⟩
      · exact ⟨zs, q⟩
    obtain ⟨z1, k1⟩ := key _ _ q1
    obtain ⟨z2, k2⟩ := key _ _ q2
    exact r.inj m m' z1 z2 p' ne k1 k2 s1 s2
theorem Rep.chg (r : Rep K F0 H0 F H σ Γ) {k : Nat} {p : Addr} {ws : List V} {xs ys : List D} (hk : nth Γ k = .ol xs) (hs : σ[k]? = some (some (.ref p))) (h : RA K F ws ys) : Rep K F0 H0 F (upd H p (.lst ws)) σ (put Γ k (.ol ys)) := r.chgW hk hs ⟨ws, rfl, h⟩
/-- the list of one's own in a slot is not changed any more -/
theorem Rep.frz (r : Rep K F0 H0 F H σ Γ) {k : Nat} {xs : List D} (hk : nth Γ k = .ol xs) : ∃ F', Rep K F0 H0 F' H σ (put Γ k (.d (.l xs))) := by
  obtain ⟨p, vs, a, b, c, d, f⟩ := r.ol k xs hk
  have kl : k < Γ.length := Nat.lt_of_not_le fun l => by
    rw [nth_out l] at hk
    cases hk
  have e : Ex F (upd F p (.lst vs)) := Ex.new b
  refine ⟨upd F p (.lst vs), r.f0.trans e, r.h0, ex_told r.fh d, r.tb, fun a' o q n => ?_, by rw [put_length, r.len], fun m y q => ?_, fun m zs q => ?_, fun m m' zs zs' p' ne q1 q2 s1 s2 => ?_⟩
  · by_cases z : a' = p
    · rw [z]
      exact c
    · rw [upd_ne z] at q
      exact r.nw a' o q n
  · rw [nth_put] at q
    split at q
    · rename_i z
      obtain ⟨rfl, z⟩ := z
      cases q
      exact ⟨_, a, .l upd_same (f.mono e)⟩
    · obtain ⟨v, h1, h2⟩ := r.sl m y q
      exact ⟨v, h1, h2.mono e⟩
  · rw [nth_put] at q
    split at q
    · cases q
    · rename_i z
      obtain ⟨p', vs', a', b', c', d', f'⟩ := r.ow m zs q
      refine ⟨p', vs', a', ?_, c', d', f'.mono e⟩
      rw [upd_ne fun y => ?_]
      · exact b'
      · subst y
        exact r.inj m k zs _ p' (fun e => z ⟨e, kl⟩) q hk a' a
  · have key : ∀ m zs, nth (put Γ k (.d (.l xs))) m = .w zs → nth Γ m = .w zs := fun m zs q => by
      rw [nth_put] at q
      split at q
      · cases q
      · exact q
    exact r.inj m m' zs zs' p' ne (key _ _ q1) (key _ _ q2) s1 s2
/-- a slot forgotten -/
theorem Rep.drop (r : Rep K F0 H0 F H σ Γ) {k : Nat} {o : Option V} : Rep K F0 H0 F H (σ.set k o) (put Γ k .u) := by
  have key : ∀ m y, nth (put Γ k .u) m = y → y ≠ .u → k ≠ m ∧ nth Γ m = y := fun m y q n => by
    rw [nth_put] at q
    split at q
    · exact absurd q.symm n
    · rename_i z
      refine ⟨fun e => ?_, q⟩
      subst e
      rw [nth_out (Nat.le_of_not_lt fun l => z ⟨rfl, l⟩)] at q
      exact n q.symm
  refine ⟨r.f0, r.h0, r.fh, r.tb, r.nw, by rw [List.length_set, put_length, r.len], fun m y q => ?_, fun m xs q => ?_, fun m m' xs ys p ne q1 q2 s1 s2 => ?_⟩
  · obtain ⟨e, q⟩ := key _ _ q (by simp)
    rw [List.getElem?_set_ne e]
    exact r.sl m y q
  · obtain ⟨e, q⟩ := key _ _ q (by simp)
    rw [List.getElem?_set_ne e]
    exact r.ow m xs q
  · obtain ⟨e1, q1⟩ := key _ _ q1 (by simp)
    obtain ⟨e2, q2⟩ := key _ _ q2 (by simp)
    rw [List.getElem?_set_ne e1] at s1
    rw [List.getElem?_set_ne e2] at s2
    exact r.inj m m' xs ys p ne q1 q2 s1 s2
def wipeG (Γ : G) : List Nat → G
  | [] => Γ
  | v :: vs => put (wipeG Γ vs) v .u
theorem Rep.wipe (r : Rep K F0 H0 F H σ Γ) : ∀ vs : List Nat, Rep K F0 H0 F H (wipe σ vs) (wipeG Γ vs)
  | [] => r
  | v :: vs => (Rep.wipe r vs).drop
/-- the callers' view: a def begins -/
theorem rep_start {vs : List V} {ds : List D} {N : List Str} (e : Ex F H) (r : RA K F vs ds) (hl : ds.length ≤ N.length) : Rep K F H F H (L2.start N vs) (ds.map Sl.d ++ List.replicate (N.length - ds.length) .u) := by
  have hlen := r.len
  refine ⟨Ex.refl F, ExT.refl H, e, TabG.refl H, fun p o q n => (by rw [n] at q; cases q), ?_, ?_, ?_, ?_⟩
  · unfold L2.start
    simp only [List.length_append, List.length_map, List.length_replicate]
    omega
  · have gen : ∀ (ds : List D) (vs : List V) (n m k : Nat) (x : D), RA K F vs ds → nth (ds.map Sl.d ++ List.replicate n .u) k = .d x → ∃ v, (vs.map some ++ List.replicate m none)[k]? = some (some v) ∧ R K F v x := by
      intro ds
      induction ds with
      | nil =>
        intro vs n m k x r q
        exfalso
        clear r
        induction n generalizing k with
        | zero => cases q
        | succ n ih =>
          cases k with
          | zero => cases q
          | succ k => exact ih k q
      | cons d ds ih =>
        intro vs n m k x r q
        cases r with
        | cons a r =>
          cases k with
          | zero =>
            cases q
            exact ⟨_, rfl, a⟩
          | succ k => exact ih _ n m k x r q
    intro k x q
    exact gen ds vs _ _ k x r q
  all_goals
    have gen : ∀ (ds : List D) (n k : Nat) (xs : Own), nth (ds.map Sl.d ++ List.replicate n .u) k = .w xs → False := by
      intro ds
      induction ds with
      | nil =>
        intro n k xs q
        induction n generalizing k with
        | zero => cases q
        | succ n ih =>
          cases k with
          | zero => cases q
          | succ k => exact ih k q
      | cons d ds ih =>
        intro n k xs q
        cases k with
        | zero => cases q
        | succ k => exact ih n k xs q
  · intro k xs q
    exact (gen ds _ k xs q).elim
  · intro k m xs ys p ne q1 q2 s1 s2
    exact gen ds _ k xs q1
end
end DL
namespace DL
open PySem PySem.Spec PyProof.Rows L2 Evl Lay ErrX
abbrev WE := G → (D → Prop) → Prop
abbrev WA := G → (List D → Prop) → Prop
abbrev WT := G → (Bool → Prop) → Prop
structure Po where
  nx : G → Prop
  rt : D → Prop
  bk : G → Prop := fun _ => False
  ct : G → Prop := fun _ => False
abbrev WS := Po → G → Prop
abbrev WG := D → G → (G → Prop) → Prop
section
variable (K : PySem.W.Frag)
def EOk (te : TE) (we : WE) : Prop := ∀ Γ Q, we Γ Q → ∀ F0 H0 F H σ, Rep K F0 H0 F H σ Γ → ∀ QV : VK, (∀ v d F' H', Q d → Ext F H F' H' → R K F' v d → QV v H') → te σ H QV
/-- a new list, still one's own -/
def FOk (te : TE) (wf : WA) : Prop := ∀ Γ Q, wf Γ Q → ∀ F0 H0 F H σ, Rep K F0 H0 F H σ Γ → ∀ QV : VK, (∀ p vs ds F' H', Q ds → Ext F H F' H' → H p = none → F' p = none → H' p = some (.lst vs) → RA K F' vs ds → QV (.ref p) H') → te σ H QV
def AOk (ta : TA) (wa : WA) : Prop := ∀ Γ Q, wa Γ Q → ∀ F0 H0 F H σ, Rep K F0 H0 F H σ Γ → ∀ QV : List V → Hp → Prop, (∀ vs ds F' H', Q ds → Ext F H F' H' → RA K F' vs ds → QV vs H') → ta σ H QV
def TOk (tt : TT) (wt : WT) : Prop := ∀ Γ Q, wt Γ Q → ∀ F0 H0 F H σ, Rep K F0 H0 F H σ Γ → ∀ QV : Bool → Hp → Prop, (∀ b F' H', Q b → Ext F H F' H' → QV b H') → tt σ H QV
def OOk (r : R2) (wr : D → D → (D → Prop) → Prop) : Prop := ∀ x y Q, wr x y Q → ∀ F H vx vy, Ex F H → R K F vx x → R K F vy y → ∀ QV : VK, (∀ v d F' H', Q d → Ext F H F' H' → R K F' v d → QV v H') → r vx vy H QV
def UOk (r : V → Hp → VK → Prop) (wr : D → (D → Prop) → Prop) : Prop := ∀ x Q, wr x Q → ∀ F H vx, Ex F H → R K F vx x → ∀ QV : VK, (∀ v d F' H', Q d → Ext F H F' H' → R K F' v d → QV v H') → r vx H QV
/-- a call on data -/
def COk (r : List V → Hp → VK → Prop) (wr : List D → (D → Prop) → Prop) : Prop := ∀ xs Q, wr xs Q → ∀ F H vs, Ex F H → RA K F vs xs → ∀ QV : VK, (∀ v d F' H', Q d → Ext F H F' H' → R K F' v d → QV v H') → r vs H QV
def GOk (g : TG) (wg : WG) (js : List Nat) : Prop := ∀ d Γ Q, wg d Γ Q → ∀ F0 H0 F H σ v, Rep K F0 H0 F H σ Γ → R K F v d → ∀ QS : L2.St → Hp → Prop, (∀ Γ' σ' F' H', Q Γ' → Rep K F0 H0 F' H' σ' Γ' → Ext F H F' H' → (∀ vs : List Nat, (∀ j ∈ js, j ∈ vs) → wipe σ' vs = wipe σ vs) → QS σ' H') → g v σ H QS
def GsOk (g : TGs) (wg : List D → G → (G → Prop) → Prop) (js : List Nat) : Prop := ∀ ds Γ Q, wg ds Γ Q → ∀ F0 H0 F H σ vs, Rep K F0 H0 F H σ Γ → RA K F vs ds → ∀ QS : L2.St → Hp → Prop, (∀ Γ' σ' F' H', Q Γ' → Rep K F0 H0 F' H' σ' Γ' → Ext F H F' H' → (∀ vs : List Nat, (∀ j ∈ js, j ∈ vs) → wipe σ' vs = wipe σ vs) → QS σ' H') → g vs σ H QS
/-- what is wanted behind a statement, told -/
structure Want (F0 H0 : Hp) (P : Po) (E : Ends) : Prop where
  nx : ∀ Γ σ F H, P.nx Γ → Rep K F0 H0 F H σ Γ → E.nx σ H
  rt : ∀ d v F H, P.rt d → Ext F0 H0 F H → R K F v d → E.rt v H
  bk : ∀ Γ σ F H, P.bk Γ → Rep K F0 H0 F H σ Γ → E.bk σ H
  ct : ∀ Γ σ F H, P.ct Γ → Rep K F0 H0 F H σ Γ → E.ct σ H
def SOk (ts : TS) (ws : WS) : Prop := ∀ P Γ, ws P Γ → ∀ F0 H0 F H σ, Rep K F0 H0 F H σ Γ → ∀ E : Ends, Want K F0 H0 P E → ts E σ H
/-- an iterator over things that are known -/
def IsIt (F : Hp) (J : It) (xs : List D) : Prop := ∃ (Gd : Hp → Prop) (Y : Nat → Hp → V → Hp → Prop), Walk J xs.length Gd Y ∧ (∀ F1 H1, Ex F F1 → Ex F1 H1 → Gd H1) ∧ ∀ k F1 H1 v H2, k < xs.length → Ex F F1 → Ex F1 H1 → Y k H1 v H2 → ∃ F2 x, xs[k]? = some x ∧ Ext F1 H1 F2 H2 ∧ R K F2 v x
def IOk (wi : TI) (wit : WA) : Prop := ∀ Γ Q, wit Γ Q → ∀ F0 H0 F H σ, Rep K F0 H0 F H σ Γ → ∀ QI : It → Hp → Prop, (∀ J xs F' H', Q xs → Ext F H F' H' → IsIt K F' J xs → QI J H') → wi σ H QI
end
section
variable {K : PySem.W.Frag}
abbrev wVar (k : Nat) : WE := fun Γ Q => match nth Γ k with
  | .d x => Q x
  | _ => False
theorem e_var {k : Nat} : EOk K (tVar k) (wVar k) := fun Γ Q h F0 H0 F H σ r QV q => by
  unfold wVar at h
  cases e : nth Γ k with
  | u => rw [e] at h; exact h.elim
  | w o => rw [e] at h; exact h.elim
  | d x =>
    rw [e] at h
    obtain ⟨v, hv, rv⟩ := r.sl k x e
    exact ⟨v, hv, q v x F H h (Ext.refl r.fh) rv⟩
abbrev wC (x : D) : WE := fun _ Q => Q x
theorem e_int {i : Int} : EOk K (tC (.int i)) (wC (.i i)) := fun _ _ h _ _ _ _ _ r _ q => q _ _ _ _ h (Ext.refl r.fh) (.i i)
theorem e_bl {b : Bool} : EOk K (tC (.bl b)) (wC (.b b)) := fun _ _ h _ _ _ _ _ r _ q => q _ _ _ _ h (Ext.refl r.fh) (.b b)
theorem e_str {x : Str} : EOk K (tC (.str x)) (wC (.s x)) := fun _ _ h _ _ _ _ _ r _ q => q _ _ _ _ h (Ext.refl r.fh) (.s x)
theorem e_non : EOk K (tC .non) (wC .n) := fun _ _ h _ _ _ _ _ r _ q => q _ _ _ _ h (Ext.refl r.fh) .n
abbrev wOp (wr : D → D → (D → Prop) → Prop) (a b : WE) : WE := fun Γ Q => a Γ fun x => b Γ fun y => wr x y Q
theorem e_op {r : R2} {wr : D → D → (D → Prop) → Prop} {ta tb : TE} {wa wb : WE} (ho : OOk K r wr) (ha : EOk K ta wa) (hb : EOk K tb wb) : EOk K (tOp r ta tb) (wOp wr wa wb) := fun Γ Q h F0 H0 F H σ rp QV q =>
  ha Γ _ h F0 H0 F H σ rp _ fun x dx F1 H1 h1 e1 r1 => hb Γ _ h1 F0 H0 F1 H1 σ (rp.ext e1) _ fun y dy F2 H2 h2 e2 r2 => ho dx dy Q h2 F2 H2 x y e2.fh (r1.mono e2.ff) r2 QV fun v d F3 H3 h3 e3 r3 => q v d F3 H3 h3 ((e1.trans e2).trans e3) r3
abbrev wUn (wr : D → (D → Prop) → Prop) (a : WE) : WE := fun Γ Q => a Γ fun x => wr x Q
theorem e_un {r : V → Hp → VK → Prop} {wr : D → (D → Prop) → Prop} {ta : TE} {wa : WE} (ho : UOk K r wr) (ha : EOk K ta wa) : EOk K (tUn r ta) (wUn wr wa) := fun Γ Q h F0 H0 F H σ rp QV q =>
  ha Γ _ h F0 H0 F H σ rp _ fun x dx F1 H1 h1 e1 r1 => ho dx Q h1 F1 H1 x e1.fh r1 QV fun v d F3 H3 h3 e3 r3 => q v d F3 H3 h3 (e1.trans e3) r3
abbrev wNil : WA := fun _ Q => Q []
abbrev wCons (a : WE) (r : WA) : WA := fun Γ Q => a Γ fun x => r Γ fun xs => Q (x :: xs)
theorem a_nil : AOk K tNil wNil := fun _ _ h _ _ _ _ _ r _ q => q _ _ _ _ h (Ext.refl r.fh) .nil
theorem a_cons {ta : TE} {tr : TA} {wa : WE} {wr : WA} (ha : EOk K ta wa) (hr : AOk K tr wr) : AOk K (tCons ta tr) (wCons wa wr) := fun Γ Q h F0 H0 F H σ rp QV q =>
  ha Γ _ h F0 H0 F H σ rp _ fun x dx F1 H1 h1 e1 r1 => hr Γ _ h1 F0 H0 F1 H1 σ (rp.ext e1) _ fun vs ds F2 H2 h2 e2 r2 => q _ _ F2 H2 h2 (e1.trans e2) (.cons (r1.mono e2.ff) r2)
/-- (a, b, ..): short ones, whose size shows -/
abbrev wTup (a : WA) : WE := fun Γ Q => a Γ fun xs => xs.length ≤ 100000 ∧ Q (.t xs)
theorem e_tup {ta : TA} {wa : WA} (ha : AOk K ta wa) : EOk K (tTup ta) (wTup wa) := fun Γ Q h F0 H0 F H σ rp QV q =>
  ha Γ _ h F0 H0 F H σ rp _ fun vs ds F1 H1 h1 e1 r1 => ⟨sz_of (by rw [r1.len]; exact h1.1), fun p hp => q _ _ _ _ h1.2 (e1.trans (Ext.new e1.fh hp)) (.t (st_of upd_same) (r1.mono (Ex.new (fresh_back e1.fh hp))))⟩
abbrev wLst (a : WA) : WA := fun Γ Q => a Γ fun xs => xs.length ≤ 100000 ∧ Q xs
theorem f_lst {ta : TA} {wa : WA} (ha : AOk K ta wa) : FOk K (tLst ta) (wLst wa) := fun Γ Q h F0 H0 F H σ rp QV q =>
  ha Γ _ h F0 H0 F H σ rp _ fun vs ds F1 H1 h1 e1 r1 => ⟨sz_of (by rw [r1.len]; exact h1.1), fun p hp => q p vs ds F1 _ h1.2 (e1.trans (Ext.heap e1.fh (Ex.new hp))) (ExT.back e1.hh hp) (fresh_back e1.fh hp) upd_same r1⟩
abbrev wF (f : WA) : WE := fun Γ Q => f Γ fun xs => Q (.l xs)
/-- a new list, as data -/
theorem e_f {te : TE} {wf : WA} (h : FOk K te wf) : EOk K te (wF wf) := fun Γ Q hq F0 H0 F H σ rp QV q =>
  h Γ _ hq F0 H0 F H σ rp _ fun p vs ds F1 H1 h1 e1 hp hf hp1 r1 => q _ _ (upd F1 p (.lst vs)) H1 h1
    ⟨e1.ff.trans (Ex.new hf), e1.hh, ex_told e1.fh hp1, e1.tb, fun a o z n => by
      by_cases y : a = p
      · rw [y]
        exact hp
      · rw [upd_ne y] at z
        exact e1.nw a o z n⟩ (.l upd_same (r1.mono (Ex.new hf)))
/-- a built-in called on data -/
abbrev wCB (wr : List D → (D → Prop) → Prop) (a : WA) : WE := fun Γ Q => a Γ fun xs => wr xs Q
theorem e_cb {r : List V → Hp → VK → Prop} {wr : List D → (D → Prop) → Prop} {ta : TA} {wa : WA} (hc : COk K r wr) (ha : AOk K ta wa) : EOk K (tCB r ta) (wCB wr wa) := fun Γ Q h F0 H0 F H σ rp QV q =>
  ha Γ _ h F0 H0 F H σ rp _ fun vs ds F1 H1 h1 e1 r1 => hc ds Q h1 F1 H1 vs e1.fh r1 QV fun v d F3 H3 h3 e3 r3 => q v d F3 H3 h3 (e1.trans e3) r3
abbrev wTest (a : WE) : WT := fun Γ Q => a Γ fun x => match x with
  | .b c => Q c
  | _ => False
theorem t_test {te : TE} {we : WE} (h : EOk K te we) : TOk K (tTest te) (wTest we) := fun Γ Q hq F0 H0 F H σ rp QV q =>
  h Γ _ hq F0 H0 F H σ rp _ fun v d F1 H1 h1 e1 r1 => by
    cases r1 with
    | b c => exact ⟨c, rfl, q c F1 H1 h1 e1⟩
    | _ => exact h1.elim
theorem t_B {te : TE} {we : WE} (h : EOk K te we) : TOk K (tB te) (wTest we) := fun Γ Q hq F0 H0 F H σ rp QV q =>
  h Γ _ hq F0 H0 F H σ rp _ fun v d F1 H1 h1 e1 r1 => by
    cases r1 with
    | b c => exact ⟨c, rfl, q c F1 H1 h1 e1⟩
    | _ => exact h1.elim
abbrev wAnd (a b : WT) : WT := fun Γ Q => a Γ fun c => (c = true → b Γ Q) ∧ (c = false → Q false)
abbrev wOr (a b : WT) : WT := fun Γ Q => a Γ fun c => (c = true → Q true) ∧ (c = false → b Γ Q)
abbrev wNot (a : WT) : WT := fun Γ Q => a Γ fun c => Q (!c)
abbrev wYes : WT := fun _ Q => Q true
theorem t_and {t u : TT} {a b : WT} (h1 : TOk K t a) (h2 : TOk K u b) : TOk K (tAnd t u) (wAnd a b) := fun Γ Q hq F0 H0 F H σ rp QV q =>
  h1 Γ _ hq F0 H0 F H σ rp _ fun c F1 H1 z e1 => by
    cases c with
    | true =>
      show u σ H1 QV
      exact h2 Γ Q (z.1 rfl) F0 H0 F1 H1 σ (rp.ext e1) QV fun b F2 H2 z2 e2 => q b F2 H2 z2 (e1.trans e2)
    | false =>
      show QV false H1
      exact q _ F1 H1 (z.2 rfl) e1
theorem t_or {t u : TT} {a b : WT} (h1 : TOk K t a) (h2 : TOk K u b) : TOk K (tOr t u) (wOr a b) := fun Γ Q hq F0 H0 F H σ rp QV q =>
  h1 Γ _ hq F0 H0 F H σ rp _ fun c F1 H1 z e1 => by
    cases c with
    | false =>
      show u σ H1 QV
      exact h2 Γ Q (z.2 rfl) F0 H0 F1 H1 σ (rp.ext e1) QV fun b F2 H2 z2 e2 => q b F2 H2 z2 (e1.trans e2)
    | true =>
      show QV true H1
      exact q _ F1 H1 (z.1 rfl) e1
theorem t_not {t : TT} {a : WT} (h1 : TOk K t a) : TOk K (tNot t) (wNot a) := fun Γ Q hq F0 H0 F H σ rp QV q =>
  h1 Γ _ hq F0 H0 F H σ rp _ fun c F1 H1 z e1 => q _ F1 H1 z e1
theorem t_yes : TOk K tYes wYes := fun Γ Q hq F0 H0 F H σ rp QV q => q true F H hq (Ext.refl rp.fh)
abbrev wIfE (c : WT) (a b : WE) : WE := fun Γ Q => c Γ fun x => (x = true → a Γ Q) ∧ (x = false → b Γ Q)
theorem e_if {t : TT} {ta tb : TE} {c : WT} {a b : WE} (h : TOk K t c) (h1 : EOk K ta a) (h2 : EOk K tb b) : EOk K (tIf t ta tb) (wIfE c a b) := fun Γ Q hq F0 H0 F H σ rp QV q =>
  h Γ _ hq F0 H0 F H σ rp _ fun c F1 H1 z e1 => by
    cases c with
    | true =>
      show ta σ H1 QV
      exact h1 Γ Q (z.1 rfl) F0 H0 F1 H1 σ (rp.ext e1) QV fun v d F2 H2 z2 e2 r => q v d F2 H2 z2 (e1.trans e2) r
    | false =>
      show tb σ H1 QV
      exact h2 Γ Q (z.2 rfl) F0 H0 F1 H1 σ (rp.ext e1) QV fun v d F2 H2 z2 e2 r => q v d F2 H2 z2 (e1.trans e2) r
abbrev wAndV (a b : WE) : WE := fun Γ Q => a Γ fun x => match x with
  | .b c => (c = true → b Γ Q) ∧ (c = false → Q (.b false))
  | _ => False
abbrev wNotV (a : WE) : WE := fun Γ Q => a Γ fun x => match x with
  | .b c => Q (.b (!c))
  | _ => False
theorem e_andV {ta tb : TE} {a b : WE} (h1 : EOk K ta a) (h2 : EOk K tb b) : EOk K (tAndV ta tb) (wAndV a b) := fun Γ Q hq F0 H0 F H σ rp QV q =>
  h1 Γ _ hq F0 H0 F H σ rp _ fun v d F1 H1 z e1 r1 => by
    cases r1 with
    | b c =>
      refine ⟨c, rfl, ?_⟩
      cases c with
      | true =>
        show tb σ H1 QV
        exact h2 Γ Q (z.1 rfl) F0 H0 F1 H1 σ (rp.ext e1) QV fun v d F2 H2 z2 e2 r => q v d F2 H2 z2 (e1.trans e2) r
      | false =>
        show QV (.bl false) H1
        exact q _ _ F1 H1 (z.2 rfl) e1 (.b _)
    | _ => exact z.elim
theorem e_notV {ta : TE} {a : WE} (h1 : EOk K ta a) : EOk K (tNotV ta) (wNotV a) := fun Γ Q hq F0 H0 F H σ rp QV q =>
  h1 Γ _ hq F0 H0 F H σ rp _ fun v d F1 H1 z e1 r1 => by
    cases r1 with
    | b c => exact ⟨c, rfl, q _ _ F1 H1 z e1 (.b _)⟩
    | _ => exact z.elim
/-- a < b < c -/
abbrev wChain (r r' : D → D → (D → Prop) → Prop) (a b c : WE) : WE := fun Γ Q => a Γ fun x => b Γ fun y => r x y fun z => match z with
  | .b k => (k = true → c Γ fun w => r' y w Q) ∧ (k = false → Q (.b false))
  | _ => False
theorem e_chain {r r' : R2} {wr wr' : D → D → (D → Prop) → Prop} {ta tb tc : TE} {a b c : WE} (ho : OOk K r wr) (ho' : OOk K r' wr') (h1 : EOk K ta a) (h2 : EOk K tb b) (h3 : EOk K tc c) : EOk K (tChain r r' ta tb tc) (wChain wr wr' a b c) := fun Γ Q hq F0 H0 F H σ rp QV q =>
  h1 Γ _ hq F0 H0 F H σ rp _ fun x dx F1 H1 z1 e1 r1 => h2 Γ _ z1 F0 H0 F1 H1 σ (rp.ext e1) _ fun y dy F2 H2 z2 e2 r2 => ho dx dy _ z2 F2 H2 x y e2.fh (r1.mono e2.ff) r2 _ fun v d F3 H3 z3 e3 r3 => by
    have e13 := (e1.trans e2).trans e3
    cases r3 with
    | b k =>
      refine ⟨k, rfl, ?_⟩
      cases k with
      | true =>
        show tc σ H3 _
        exact h3 Γ _ (z3.1 rfl) F0 H0 F3 H3 σ (rp.ext e13) _ fun w dw F4 H4 z4 e4 r4 => ho' dy dw Q z4 F4 H4 y w e4.fh ((r2.mono e3.ff).mono e4.ff) r4 QV fun v d F5 H5 z5 e5 r5 => q v d F5 H5 z5 ((e13.trans e4).trans e5) r5
      | false =>
        show QV (.bl false) H3
        exact q _ _ F3 H3 (z3.2 rfl) e13 (.b _)
    | _ => exact z3.elim
abbrev wI2 (C : Int → Int → Prop) (f : Int → Int → D) : D → D → (D → Prop) → Prop := fun x y Q => match x, y with
  | .i a, .i b => C a b ∧ Q (f a b)
  | _, _ => False
abbrev wI20 (f : Int → Int → D) : D → D → (D → Prop) → Prop := fun x y Q => match x, y with
  | .i a, .i b => Q (f a b)
  | _, _ => False
theorem o_I {C : Int → Int → Prop} {g : Int → Int → V} {f : Int → Int → D} (h : ∀ F a b, R K F (g a b) (f a b)) : OOk K (rI C g) (wI2 C f) := fun x y Q hq F H vx vy e rx ry QV q => by
  cases rx with
  | i a =>
    cases ry with
    | i b => exact ⟨a, b, rfl, rfl, hq.1, q _ _ F H hq.2 (Ext.refl e) (h F a b)⟩
    | _ => exact hq.elim
  | _ => cases ry <;> exact hq.elim
theorem o_I0 {g : Int → Int → V} {f : Int → Int → D} (h : ∀ F a b, R K F (g a b) (f a b)) : OOk K (rI0 g) (wI20 f) := fun x y Q hq F H vx vy e rx ry QV q => by
  cases rx with
  | i a =>
    cases ry with
    | i b => exact ⟨a, b, rfl, rfl, q _ _ F H hq (Ext.refl e) (h F a b)⟩
    | _ => exact hq.elim
  | _ => cases ry <;> exact hq.elim
theorem o_add : OOk K (rI0 fun i j => .int (i + j)) (wI20 fun a b => .i (a + b)) := o_I0 fun F a b => .i _
theorem o_sub : OOk K (rI0 fun i j => .int (i - j)) (wI20 fun a b => .i (a - b)) := o_I0 fun F a b => .i _
theorem o_mul : OOk K (rI CMul fun i j => .int (i * j)) (wI2 CMul fun a b => .i (a * b)) := o_I fun F a b => .i _
theorem o_fdiv : OOk K (rI CDiv fun i j => .int (i / j)) (wI2 CDiv fun a b => .i (a / b)) := o_I fun F a b => .i _
theorem o_mod : OOk K (rI (fun _ j => 0 < j) fun i j => .int (i % j)) (wI2 (fun _ j => 0 < j) fun a b => .i (a % b)) := o_I fun F a b => .i _
theorem o_pow : OOk K (rI CPow fun i j => .int (i ^ j.toNat)) (wI2 CPow fun a b => .i (a ^ b.toNat)) := o_I fun F a b => .i _
theorem o_lt : OOk K (rI0 fun i j => .bl (decide (i < j))) (wI20 fun a b => .b (decide (a < b))) := o_I0 fun F a b => .b _
theorem o_le : OOk K (rI0 fun i j => .bl (decide (i ≤ j))) (wI20 fun a b => .b (decide (a ≤ b))) := o_I0 fun F a b => .b _
theorem o_gt : OOk K (rI0 fun i j => .bl (decide (j < i))) (wI20 fun a b => .b (decide (b < a))) := o_I0 fun F a b => .b _
theorem o_ge : OOk K (rI0 fun i j => .bl (decide (j ≤ i))) (wI20 fun a b => .b (decide (b ≤ a))) := o_I0 fun F a b => .b _
/-- == of scalars of one kind; of None and others -/
def eqS : D → D → Option Bool
  | .i a, .i b => some (decide (a = b))
  | .b a, .b b => some (decide (a = b))
  | .s a, .s b => some (decide (a = b))
  | .n, .n => some true
  | .n, .i _ => some false
  | .i _, .n => some false
  | _, _ => none
def wEqS : D → D → (D → Prop) → Prop := fun x y Q => match eqS x y with
  | some c => Q (.b c)
  | none => False
def wNeS : D → D → (D → Prop) → Prop := fun x y Q => match eqS x y with
  | some c => Q (.b (!c))
  | none => False
theorem eqS_ok {F : Hp} {x y : D} {vx vy : V} {c : Bool} (rx : R K F vx x) (ry : R K F vy y) (h : eqS x y = some c) : scal vx vy = true ∧ decide (vx = vy) = c := by
  cases rx <;> cases ry <;> first
    | (cases h; done)
    | (cases h; exact ⟨rfl, by first | rfl | simp⟩)
theorem o_eqS : OOk K rEq wEqS := fun x y Q hq F H vx vy e rx ry QV q => by
  unfold wEqS at hq
  cases h : eqS x y with
  | none => rw [h] at hq; exact hq.elim
  | some c =>
    rw [h] at hq
    obtain ⟨h1, h2⟩ := eqS_ok rx ry h
    refine ⟨h1, ?_⟩
    rw [h2]
    exact q _ _ F H hq (Ext.refl e) (.b _)
theorem o_neS : OOk K rNe wNeS := fun x y Q hq F H vx vy e rx ry QV q => by
  unfold wNeS at hq
  cases h : eqS x y with
  | none => rw [h] at hq; exact hq.elim
  | some c =>
    rw [h] at hq
    obtain ⟨h1, h2⟩ := eqS_ok rx ry h
    refine ⟨h1, ?_⟩
    rw [h2]
    exact q _ _ F H hq (Ext.refl e) (.b _)
mutual
def py : D → Option PyData
  | .n => some .none
  | .b v => some (.bool v)
  | .i v => some (.int v)
  | .s v => some (.str v)
  | .t xs => (pyA xs).map .tuple
  | .l xs => (pyA xs).map .list
  | .o _ _ _ => none
  | .j => none
  | .p _ => none
  | .c _ => none
  | .T _ => none
  | .q _ => none
def pyA : List D → Option (List PyData)
  | [] => some []
  | x :: xs => (py x).bind fun d => (pyA xs).map fun ds => d :: ds
end
mutual
theorem R.dp {F H : Hp} (e : Ex F H) : ∀ {v : V} {x : D} {d : PyData}, R K F v x → py x = some d → Dp K H v d
  | _, _, _, .n, h => by
    simp only [py] at h
    cases h
    exact .non
  | _, _, _, .b v, h => by
    simp only [py] at h
    cases h
    exact .bl _
  | _, _, _, .i v, h => by
    simp only [py] at h
    cases h
    exact .int _
  | _, _, _, .s v, h => by
    simp only [py] at h
    cases h
    exact .str _
  | _, .t xs, _, .t h1 r, h => by
    simp only [py] at h
    cases q : pyA xs with
    | none => rw [q] at h; cases h
    | some ds =>
      rw [q] at h
      cases h
      exact .tup (ex_t e h1) (RA.dp e r q)
  | _, .l xs, _, .l h1 r, h => by
    simp only [py] at h
    cases q : pyA xs with
    | none => rw [q] at h; cases h
    | some ds =>
      rw [q] at h
      cases h
      exact .lst (sq_of (e _ _ h1)) (RA.dp e r q)
  | _, _, _, .o _ _ _ _, h => by
    simp only [py] at h
    cases h
  | _, _, _, .j _, h => by
    simp only [py] at h
    cases h
  | _, _, _, .p _ _, h => by
    simp only [py] at h
    cases h
  | _, _, _, .c _, h => by
    simp only [py] at h
    cases h
  | _, _, _, .T _ _ _, h => by
    simp only [py] at h
    cases h
  | _, _, _, .q _ _, h => by
    simp only [py] at h
    cases h
theorem RA.dp {F H : Hp} (e : Ex F H) : ∀ {vs : List V} {xs : List D} {ds : List PyData}, RA K F vs xs → pyA xs = some ds → DpAll K H vs ds
  | _, _, _, .nil, h => by
    simp only [pyA] at h
    cases h
    exact .nil
  | _, x :: xs, _, .cons h1 r, h => by
    simp only [pyA] at h
    cases q : py x with
    | none => rw [q] at h; cases h
    | some d =>
      cases q2 : pyA xs with
      | none => rw [q, q2] at h; cases h
      | some ds =>
        rw [q, q2] at h
        cases h
        exact .cons (R.dp e h1 q) (RA.dp e r q2)
end
/-- == of data, deep -/
def wEqD : D → D → (D → Prop) → Prop := fun x y Q => ∃ d e, py x = some d ∧ py y = some e ∧ SeqAt.shaped d = true ∧ SeqAt.shaped e = true ∧ Q (.b (PyData.eqv d e))
def wNeD : D → D → (D → Prop) → Prop := fun x y Q => ∃ d e, py x = some d ∧ py y = some e ∧ SeqAt.shaped d = true ∧ SeqAt.shaped e = true ∧ Q (.b (!PyData.eqv d e))
theorem o_eqD : OOk K (rEqD K) wEqD := fun x y Q ⟨d, e, h1, h2, s1, s2, hq⟩ F H vx vy x' rx ry QV q => ⟨d, e, rx.dp x' h1, ry.dp x' h2, s1, s2, q _ _ F H hq (Ext.refl x') (.b _)⟩
theorem o_neD : OOk K (rNeD K) wNeD := fun x y Q ⟨d, e, h1, h2, s1, s2, hq⟩ F H vx vy x' rx ry QV q => ⟨d, e, rx.dp x' h1, ry.dp x' h2, s1, s2, q _ _ F H hq (Ext.refl x') (.b _)⟩
/-- x[i] -/
abbrev wIxT : D → D → (D → Prop) → Prop := fun x y Q => match x, y with
  | .t xs, .i k => ∃ z, atI xs k = some z ∧ Q z
  | _, _ => False
abbrev wIxL : D → D → (D → Prop) → Prop := fun x y Q => match x, y with
  | .l xs, .i k => ∃ z, atI xs k = some z ∧ Q z
  | _, _ => False
theorem RA.atI {F : Hp} {vs : List V} {xs : List D} {k : Int} {z : D} (r : RA K F vs xs) (h : L2.atI xs k = some z) : ∃ v, L2.atI vs k = some v ∧ R K F v z := by
  unfold L2.atI at h ⊢
  rw [r.len]
  cases q : ixN xs.length k with
  | none => rw [q] at h; cases h
  | some m =>
    rw [q] at h
    exact RA.get' (k := m) r h
theorem o_ixT : OOk K (rIxT K) wIxT := fun x y Q hq F H vx vy e rx ry QV q => by
  cases rx with
  | @t p vs xs h1 r =>
    cases ry with
    | i k =>
      obtain ⟨z, hz, hq⟩ := hq
      obtain ⟨v, hv, rv⟩ := r.atI hz
      exact ⟨p, vs, k, v, rfl, rfl, ex_t e h1, hv, q _ _ F H hq (Ext.refl e) rv⟩
    | _ => exact hq.elim
  | _ => cases ry <;> exact hq.elim
theorem o_ixL : OOk K (rIxL K) wIxL := fun x y Q hq F H vx vy e rx ry QV q => by
  cases rx with
  | @l p vs xs h1 r =>
    cases ry with
    | i k =>
      obtain ⟨z, hz, hq⟩ := hq
      obtain ⟨v, hv, rv⟩ := r.atI hz
      exact ⟨p, vs, k, v, rfl, rfl, sq_of (e _ _ h1), hv, q _ _ F H hq (Ext.refl e) rv⟩
    | _ => exact hq.elim
  | _ => cases ry <;> exact hq.elim
abbrev wNeg : D → (D → Prop) → Prop := fun x Q => match x with
  | .i a => Q (.i (-a))
  | _ => False
theorem u_neg : UOk K (rU fun i => .int (-i)) wNeg := fun x Q hq F H vx e rx QV q => by
  cases rx with
  | i a => exact ⟨a, rfl, q _ _ F H hq (Ext.refl e) (.i _)⟩
  | _ => exact hq.elim
abbrev wInt1 : List D → (D → Prop) → Prop := fun xs Q => match xs with
  | [.i a] => Q (.i a)
  | _ => False
theorem c_int1 : COk K (fun xs H Q => (∃ i, xs = [V.int i] ∧ Q (V.int i) H) ∨ ∃ k, xs = [V.bl k] ∧ Q (V.int (if k = true then 1 else 0)) H) wInt1 := fun xs Q hq F H vs e r QV q => by
  cases r with
  | nil => exact hq.elim
  | cons a r =>
    cases r with
    | cons _ _ => cases a <;> exact hq.elim
    | nil =>
      cases a with
      | i a => exact .inl ⟨a, rfl, q _ _ F H hq (Ext.refl e) (.i _)⟩
      | _ => exact hq.elim
abbrev wAbs : List D → (D → Prop) → Prop := fun xs Q => match xs with
  | [.i a] => Q (.i (if a < 0 then -a else a))
  | _ => False
theorem c_abs : COk K (fun xs H Q => ∃ i, xs = [V.int i] ∧ Q (V.int (if i < 0 then -i else i)) H) wAbs := fun xs Q hq F H vs e r QV q => by
  cases r with
  | nil => exact hq.elim
  | cons a r =>
    cases r with
    | cons _ _ => cases a <;> exact hq.elim
    | nil =>
      cases a with
      | i a => exact ⟨a, rfl, q _ _ F H hq (Ext.refl e) (.i _)⟩
      | _ => exact hq.elim
abbrev wLen : List D → (D → Prop) → Prop := fun xs Q => match xs with
  | [.t ys] => Q (.i (ys.length : Nat))
  | [.l ys] => Q (.i (ys.length : Nat))
  | [.s y] => y.length ≤ 100000 ∧ Q (.i (y.length : Nat))
  | [.c ns] => Q (.i (ns.length : Nat))
  | _ => False
theorem c_len : COk K (fun xs H Q => ∃ x n, xs = [x] ∧ LenV K x H n ∧ Q (.int n) H) wLen := fun xs Q hq F H vs e r QV q => by
  cases r with
  | nil => exact hq.elim
  | cons a r =>
    cases r with
    | cons _ _ => cases a <;> exact hq.elim
    | nil =>
      cases a with
      | t h r => exact ⟨_, _, rfl, .inr ⟨_, ex_t e h, rfl⟩, q _ _ F H (by rw [r.len]; exact hq) (Ext.refl e) (.i _)⟩
      | l h r => exact ⟨_, _, rfl, .inl ⟨_, sq_of (e _ _ h), rfl⟩, q _ _ F H (by rw [r.len]; exact hq) (Ext.refl e) (.i _)⟩
      | s y => exact ⟨_, _, rfl, ⟨sz_of hq.1, rfl⟩, q _ _ F H hq.2 (Ext.refl e) (.i _)⟩
      | c h => exact ⟨_, _, rfl, .inl ⟨_, ex_l e h, rfl⟩, q _ _ F H (by rw [List.length_map]; exact hq) (Ext.refl e) (.i _)⟩
      | _ => exact hq.elim
def wAll : List D → (D → Prop) → Prop := fun xs Q => match xs with
  | [.l ys] => ∃ bs : List Bool, ys = bs.map D.b ∧ Q (.b (bs.all id))
  | _ => False
theorem RA.bools {F : Hp} : ∀ {vs : List V} {bs : List Bool}, RA K F vs (bs.map D.b) → vs = bs.map V.bl
  | _, [], .nil => rfl
  | _, b :: bs, .cons a r => by
    cases a
    rw [RA.bools r]
    rfl
theorem RA.toInts {F : Hp} : ∀ {vs : List V} {ns : List Int}, RA K F vs (ns.map D.i) → vs = ns.map V.int
  | _, [], .nil => rfl
  | _, b :: bs, .cons a r => by
    cases a
    rw [RA.toInts r]
    rfl
theorem c_all : COk K (rAll K) wAll := fun xs Q hq F H vs e r QV q => by
  cases r with
  | nil => exact hq.elim
  | cons a r =>
    cases r with
    | cons _ _ => cases a <;> exact hq.elim
    | nil =>
      cases a with
      | @l p vs xs h r =>
        obtain ⟨bs, rfl, hq⟩ := hq
        have := r.bools
        subst this
        exact ⟨p, bs, rfl, sq_of (e _ _ h), q _ _ F H hq (Ext.refl e) (.b _)⟩
      | _ => exact hq.elim
/-- data as plain data, the two dicts as well -/
def pyQ : D → Option PyData
  | .q false => some (.dict [])
  | .q true => some (.dict [(.str "a", .int 1)])
  | x => py x
theorem pyQ_of {x : D} {d : PyData} (h : py x = some d) : pyQ x = some d := by
  cases x with
  | q k => simp only [py] at h; cases h
  | _ => exact h
theorem R.dr {F H : Hp} (e : Ex F H) {v : V} {x : D} {d : PyData} (r : R K F v x) (h : pyQ x = some d) : Dr K H v d := by
  cases r with
  | @q p k hp =>
    cases k with
    | false =>
      cases h
      exact .inr ⟨p, [], [], rfl, e _ _ hp, rfl, (fun _ z => by cases z), .nil⟩
    | true =>
      cases h
      exact .inr ⟨p, _, _, rfl, e _ _ hp, rfl, (fun z hz => by
        rcases List.mem_singleton.mp hz with rfl
        rfl), .cons ⟨.str _, .int 1⟩ .nil⟩
  | n => exact .inl (R.dp e .n h)
  | b v => exact .inl (R.dp e (.b v) h)
  | i v => exact .inl (R.dp e (.i v) h)
  | s v => exact .inl (R.dp e (.s v) h)
  | t a b => exact .inl (R.dp e (.t a b) h)
  | l a b => exact .inl (R.dp e (.l a b) h)
  | o a b c d => exact .inl (R.dp e (.o a b c d) h)
  | j a => exact .inl (R.dp e (.j a) h)
  | p k a => exact .inl (R.dp e (.p k a) h)
  | c a => exact .inl (R.dp e (.c a) h)
  | T a b c => exact .inl (R.dp e (.T a b c) h)
def wRepr : List D → (D → Prop) → Prop := fun xs Q => match xs with
  | [x] => ∃ d, pyQ x = some d ∧ d.showable = true ∧ d.depth ≤ 32 ∧ d.shown.length ≤ sizeLine ∧ Q (.s d.shown)
  | _ => False
theorem c_repr : COk K (rRepr K) wRepr := fun xs Q hq F H vs e r QV q => by
  cases r with
  | nil => exact hq.elim
  | cons a r =>
    cases r with
    | cons _ _ => exact hq.elim
    | nil =>
      obtain ⟨d, h1, h2, h3, h4, hq⟩ := hq
      exact ⟨_, d, rfl, R.dr e a h1, h2, h3, h4, q _ _ F H hq (Ext.refl e) (.s _)⟩
end
end DL
namespace DL
open PySem PySem.Spec PyProof.Rows L2 Evl Lay ErrX
section
variable {K : PySem.W.Frag}
abbrev wgName (k : Nat) : WG := fun d Γ Q => Q (put Γ k (.d d))
theorem wipe_set_mem {σ : L2.St} {k : Nat} {o : Option V} : ∀ {vs : List Nat}, k ∈ vs → wipe (σ.set k o) vs = wipe σ vs
  | [], h => absurd h (by simp)
  | v :: vs, h => by
    by_cases e : k ∈ vs
    · show (wipe (σ.set k o) vs).set v none = (wipe σ vs).set v none
      rw [wipe_set_mem e]
    · have hv : k = v := by
        rcases List.mem_cons.mp h with z | z
        · exact z
        · exact absurd z e
      subst hv
      have gen : ∀ vs : List Nat, k ∉ vs → wipe (σ.set k o) vs = (wipe σ vs).set k o := by
        intro vs
        induction vs with
        | nil => intro _; rfl
        | cons u us ih =>
          intro hu
          have h1 : k ≠ u := fun z => hu (by rw [z]; exact List.mem_cons_self ..)
          have h2 : k ∉ us := fun z => hu (List.mem_cons_of_mem _ z)
          show (wipe (σ.set k o) us).set u none = ((wipe σ us).set u none).set k o
          rw [ih h2, List.set_comm _ _ h1]
      show (wipe (σ.set k o) vs).set k none = (wipe σ vs).set k none
      rw [gen vs e, List.set_set]
theorem wipe_sub {σ : L2.St} {vs : List Nat} : ∀ {us : List Nat}, (∀ u ∈ us, u ∈ vs) → wipe (wipe σ us) vs = wipe σ vs
  | [], _ => rfl
  | u :: us, h => by
    show wipe ((wipe σ us).set u none) vs = _
    rw [wipe_set_mem (h u (List.mem_cons_self ..)), wipe_sub fun w hw => h w (List.mem_cons_of_mem _ hw)]
theorem wipe_twice (σ : L2.St) (vs : List Nat) : wipe (wipe σ vs) vs = wipe σ vs := wipe_sub fun _ h => h
theorem g_name {k : Nat} : GOk K (gName k) (wgName k) [k] := fun d Γ Q h F0 H0 F H σ v r rv QS q => q _ _ F H h (r.set rv) (Ext.refl r.fh) fun vs hv => wipe_set_mem (hv k (List.mem_cons_self ..))
abbrev wgNil : List D → G → (G → Prop) → Prop := fun ds Γ Q => match ds with
  | [] => Q Γ
  | _ => False
abbrev wgCons (g : WG) (gs : List D → G → (G → Prop) → Prop) : List D → G → (G → Prop) → Prop := fun ds Γ Q => match ds with
  | d :: r => g d Γ fun Γ' => gs r Γ' Q
  | _ => False
theorem gs_nil : GsOk K gNil wgNil [] := fun ds Γ Q h F0 H0 F H σ vs r rv QS q => by
  cases rv with
  | nil => exact ⟨rfl, q _ _ F H h r (Ext.refl r.fh) fun _ _ => rfl⟩
  | cons _ _ => exact h.elim
theorem gs_cons {g : TG} {gs : TGs} {wg : WG} {wgs : List D → G → (G → Prop) → Prop} {js ks : List Nat} (h1 : GOk K g wg js) (h2 : GsOk K gs wgs ks) : GsOk K (gCons g gs) (wgCons wg wgs) (js ++ ks) := fun ds Γ Q h F0 H0 F H σ vs r rv QS q => by
  cases rv with
  | nil => exact h.elim
  | @cons v d vs ds a rr =>
    refine ⟨v, vs, rfl, h1 d Γ _ h F0 H0 F H σ v r a _ fun Γ1 σ1 F1 H1 z1 r1 e1 w1 => h2 ds Γ1 _ z1 F0 H0 F1 H1 σ1 vs r1 (rr.mono e1.ff) _ fun Γ2 σ2 F2 H2 z2 r2 e2 w2 => q Γ2 σ2 F2 H2 z2 r2 (e1.trans e2) fun us hu => ?_⟩
    rw [w2 us fun j hj => hu j (List.mem_append_right _ hj), w1 us fun j hj => hu j (List.mem_append_left _ hj)]
abbrev wgTup (n : Nat) (gs : List D → G → (G → Prop) → Prop) : WG := fun d Γ Q => match d with
  | .t xs => xs.length = n ∧ gs xs Γ Q
  | _ => False
theorem g_tup {n : Nat} {gs : TGs} {wgs : List D → G → (G → Prop) → Prop} {js : List Nat} (h1 : GsOk K gs wgs js) : GOk K (gTup K n gs) (wgTup n wgs) js := fun d Γ Q h F0 H0 F H σ v r rv QS q => by
  cases rv with
  | @t p vs xs a rr => exact ⟨p, vs, rfl, ex_t r.fh a, by rw [rr.len]; exact h.1, h1 xs Γ Q h.2 F0 H0 F H σ vs r rr QS q⟩
  | _ => exact h.elim
abbrev wNext : WS := fun P Γ => P.nx Γ
theorem s_next : SOk K tNext wNext := fun P Γ h F0 H0 F H σ r E w => w.nx _ _ _ _ h r
abbrev wSeq (a b : WS) : WS := fun P Γ => a { P with nx := b P } Γ
theorem s_seq {t u : TS} {a b : WS} (h1 : SOk K t a) (h2 : SOk K u b) : SOk K (tSeq t u) (wSeq a b) := fun P Γ h F0 H0 F H σ r E w =>
  h1 _ Γ h F0 H0 F H σ r { E with nx := u E } ⟨fun Γ' σ' F' H' z r' => h2 P Γ' z F0 H0 F' H' σ' r' E w, w.rt, w.bk, w.ct⟩
abbrev wAsg (e : WE) (g : WG) : WS := fun P Γ => e Γ fun d => g d Γ P.nx
theorem s_asg {te : TE} {tg : TG} {we : WE} {wg : WG} {js : List Nat} (h : EOk K te we) (hg : GOk K tg wg js) : SOk K (tAsg te tg) (wAsg we wg) := fun P Γ hq F0 H0 F H σ r E w =>
  h Γ _ hq F0 H0 F H σ r _ fun v d F1 H1 z e1 rv => hg d Γ _ z F0 H0 F1 H1 σ v (r.ext e1) rv _ fun Γ2 σ2 F2 H2 z2 r2 _ _ => w.nx _ _ _ _ z2 r2
/-- x = a new list that is changed later -/
abbrev wAsgO (f : WA) (k : Nat) : WS := fun P Γ => f Γ fun xs => P.nx (put Γ k (.ol xs))
theorem s_asgO {te : TE} {wf : WA} {k : Nat} (h : FOk K te wf) : SOk K (tAsg te (gName k)) (wAsgO wf k) := fun P Γ hq F0 H0 F H σ r E w =>
  h Γ _ hq F0 H0 F H σ r _ fun p vs ds F1 H1 z e1 hp hf h1 ra => w.nx _ _ _ _ z ((r.ext e1).setO hf (ExT.back r.h0 hp) h1 ra fun m ys _ q s => by
    obtain ⟨p', _, a, _, _, d, _⟩ := r.ow m ys q
    rw [s] at a
    cases a
    rw [hp] at d
    cases d)
abbrev wRet (e : WE) : WS := fun P Γ => e Γ P.rt
theorem s_ret {te : TE} {we : WE} (h : EOk K te we) : SOk K (tRet te) (wRet we) := fun P Γ hq F0 H0 F H σ r E w =>
  h Γ _ hq F0 H0 F H σ r _ fun v d F1 H1 z e1 rv => w.rt _ _ _ _ z (r.ext0.trans e1) rv
abbrev wIf (c : WT) (a b : WS) : WS := fun P Γ => c Γ fun x => (x = true → a P Γ) ∧ (x = false → b P Γ)
theorem s_if {t : TT} {tu tw : TS} {c : WT} {a b : WS} (h : TOk K t c) (h1 : SOk K tu a) (h2 : SOk K tw b) : SOk K (tIfS t tu tw) (wIf c a b) := fun P Γ hq F0 H0 F H σ r E w =>
  h Γ _ hq F0 H0 F H σ r _ fun x F1 H1 z e1 => by
    cases x with
    | true =>
      show tu E σ H1
      exact h1 P Γ (z.1 rfl) F0 H0 F1 H1 σ (r.ext e1) E w
    | false =>
      show tw E σ H1
      exact h2 P Γ (z.2 rfl) F0 H0 F1 H1 σ (r.ext e1) E w
abbrev wDrop (e : WE) : WS := fun P Γ => e Γ fun _ => P.nx Γ
theorem s_drop {te : TE} {we : WE} (h : EOk K te we) : SOk K (tDrop te) (wDrop we) := fun P Γ hq F0 H0 F H σ r E w =>
  h Γ _ hq F0 H0 F H σ r _ fun v d F1 H1 z e1 rv => w.nx _ _ _ _ z (r.ext e1)
abbrev wNever : WS := fun _ _ => False
theorem s_never : SOk K tNever wNever := fun P Γ h _ _ _ _ _ _ _ _ => h.elim
/-- x, y = a, b -/
abbrev wPar (i j : Nat) (a : WA) : WS := fun P Γ => a Γ fun ds => match ds with
  | [x, y] => P.nx (put (put Γ i (.d x)) j (.d y))
  | _ => False
theorem s_par {i j : Nat} {ta : TA} {wa : WA} (h : AOk K ta wa) : SOk K (tPar i j ta) (wPar i j wa) := fun P Γ hq F0 H0 F H σ r E w =>
  h Γ _ hq F0 H0 F H σ r _ fun vs ds F1 H1 z e1 ra => by
    cases ra with
    | nil => exact z.elim
    | @cons v x vs xs a ra =>
      cases ra with
      | nil => exact z.elim
      | @cons u y vs xs b ra =>
        cases ra with
        | cons _ _ => exact z.elim
        | nil => exact ⟨v, u, rfl, w.nx _ _ _ _ z (((r.ext e1).set a).set b)⟩
/-- xs.append(e), xs one's own -/
abbrev wApp (k : Nat) (e : WE) : WS := fun P Γ => match nth Γ k with
  | .w (.l xs) => xs.length < 100000 ∧ e Γ fun d => P.nx (put Γ k (.ol (xs ++ [d])))
  | _ => False
theorem s_app {k : Nat} {te : TE} {we : WE} (h : EOk K te we) : SOk K (tDrop (tBM K "list" rAppend (tVar k) (tCons te tNil))) (wApp k we) := fun P Γ hq F0 H0 F H σ r E w => by
  unfold wApp at hq
  cases q : nth Γ k with
  | u => rw [q] at hq; exact hq.elim
  | d xs => rw [q] at hq; exact hq.elim
  | w o =>
    rw [q] at hq
    cases o with
    | s _ _ => exact hq.elim
    | la _ _ _ => exact hq.elim
    | l xs =>
      obtain ⟨p, vs, a, b, c, d, f⟩ := r.ol k xs q
      refine ⟨.ref p, a, .inl ⟨rfl, vs, sq_of d⟩, h Γ _ hq.2 F0 H0 F H σ r _ fun u y F1 H1 z e1 ru => ?_⟩
      exact ⟨p, vs, u, rfl, rfl, e1.hh.kp d, sz_lt (by rw [f.len]; exact hq.1), w.nx _ _ _ _ z ((r.ext e1).chg q a ((f.mono e1.ff).snoc ru))⟩
/-- xs[i] = e, xs one's own -/
abbrev wSetO (k : Nat) (i : WE) (e : WE) : WS := fun P Γ => e Γ fun d => match nth Γ k with
  | .w (.l xs) => i Γ fun z => match z with
    | .i m => ∃ j, ixN xs.length m = some j ∧ P.nx (put Γ k (.ol (xs.set j d)))
    | _ => False
  | _ => False
theorem s_setO {k : Nat} {ti te : TE} {wi we : WE} (hi : EOk K ti wi) (h : EOk K te we) : SOk K (tAsg te (gSub (tVar k) ti rSetL)) (wSetO k wi we) := fun P Γ hq F0 H0 F H σ r E w =>
  h Γ _ hq F0 H0 F H σ r _ fun v d F1 H1 z e1 rv => by
    cases q : nth Γ k with
    | u => rw [q] at z; exact z.elim
    | d xs => rw [q] at z; exact z.elim
    | w o =>
      rw [q] at z
      cases o with
      | s _ _ => exact z.elim
      | la _ _ _ => exact z.elim
      | l xs =>
        have r1 := r.ext e1
        obtain ⟨p, vs, a, b, c, hd, f⟩ := r1.ol k xs q
        refine ⟨.ref p, a, hi Γ _ z F0 H0 F1 H1 σ r1 _ fun u y F2 H2 z2 e2 ru => ?_⟩
        cases ru with
        | i m =>
          obtain ⟨j, hj, z2⟩ := z2
          exact ⟨p, vs, m, j, rfl, rfl, e2.hh.kp hd, by rw [f.len]; exact hj, w.nx _ _ _ _ z2 ((r1.ext e2).chg q a ((f.mono e2.ff).set j (rv.mono e2.ff)))⟩
        | _ => exact z2.elim
/-- a list of one's own is left as it is from here on -/
abbrev wFrz (k : Nat) (a : WS) : WS := fun P Γ => match nth Γ k with
  | .w (.l xs) => a P (put Γ k (.d (.l xs)))
  | _ => False
theorem s_frz {k : Nat} {t : TS} {a : WS} (h : SOk K t a) : SOk K t (wFrz k a) := fun P Γ hq F0 H0 F H σ r E w => by
  unfold wFrz at hq
  cases q : nth Γ k with
  | u => rw [q] at hq; exact hq.elim
  | d xs => rw [q] at hq; exact hq.elim
  | w o =>
    rw [q] at hq
    cases o with
    | s _ _ => exact hq.elim
    | la _ _ _ => exact hq.elim
    | l xs =>
      obtain ⟨F', r'⟩ := r.frz q
      exact h P _ hq F0 H0 F' H σ r' E w
/-- len(x), x one's own -/
abbrev wLenO (k : Nat) : WE := fun Γ Q => match nth Γ k with
  | .w (.l xs) => Q (.i (xs.length : Nat))
  | _ => False
theorem RA.walk {F F1 : Hp} {vs : List V} {xs : List D} (r : RA K F vs xs) (e : Ex F F1) {k : Nat} {v : V} (h : vs[k]? = some v) : ∃ x, xs[k]? = some x ∧ R K F1 v x :=
  let ⟨x, a, b⟩ := r.get h
  ⟨x, a, b.mono e⟩
abbrev wItL (e : WE) : WA := fun Γ Q => e Γ fun d => match d with
  | .l xs => Q xs
  | _ => False
theorem i_list {te : TE} {we : WE} (h : EOk K te we) : IOk K (iList K te) (wItL we) := fun Γ Q hq F0 H0 F H σ r QI w =>
  h Γ _ hq F0 H0 F H σ r _ fun v d F1 H1 z e1 rv => by
    cases rv with
    | @l p vs xs hp ra =>
      exact ⟨p, rfl, ⟨vs, sq_of (e1.fh _ _ hp)⟩, w _ xs F1 H1 z e1 ⟨_, _, ra.len ▸ walk_list (xs := vs), fun F2 H2 a b => sq_of (b _ _ (a _ _ hp)), fun k F2 H2 v H3 lt a b y => by
        obtain ⟨rfl, y⟩ := y
        obtain ⟨x, q1, q2⟩ := ra.walk a y
        exact ⟨F2, x, q1, Ext.refl b, q2⟩⟩⟩
    | _ => exact z.elim
abbrev wItT (e : WE) : WA := fun Γ Q => e Γ fun d => match d with
  | .t xs => Q xs
  | _ => False
theorem i_tup {te : TE} {we : WE} (h : EOk K te we) : IOk K (iTup K te) (wItT we) := fun Γ Q hq F0 H0 F H σ r QI w =>
  h Γ _ hq F0 H0 F H σ r _ fun v d F1 H1 z e1 rv => by
    cases rv with
    | @t p vs xs hp ra =>
      exact ⟨p, rfl, ⟨vs, ex_t e1.fh hp⟩, w _ xs F1 H1 z e1 ⟨_, _, ra.len ▸ walk_tup (xs := vs), fun F2 H2 a b => ex_t b (ex_t a hp), fun k F2 H2 v H3 lt a b y => by
        obtain ⟨rfl, y⟩ := y
        obtain ⟨x, q1, q2⟩ := ra.walk a y
        exact ⟨F2, x, q1, Ext.refl b, q2⟩⟩⟩
    | _ => exact z.elim
def rngD (lo : Int) (n : Nat) : List D := (List.range n).map fun k => .i (lo + (k : Nat))
theorem rngD_len {lo : Int} {n : Nat} : (rngD lo n).length = n := by
  unfold rngD
  rw [List.length_map, List.length_range]
theorem rngD_get {lo : Int} {n k : Nat} (h : k < n) : (rngD lo n)[k]? = some (.i (lo + (k : Nat))) := by
  unfold rngD
  rw [List.getElem?_map, List.getElem?_range h]
  rfl
theorem rngD_get' {lo : Int} {n k : Nat} {x : D} (h : (rngD lo n)[k]? = some x) : k < n ∧ x = .i (lo + (k : Nat)) := by
  have l : k < n := by
    have := (List.getElem?_eq_some_iff.mp h).1
    rw [rngD_len] at this
    exact this
  rw [rngD_get l] at h
  cases h
  exact ⟨l, rfl⟩
theorem isIt_rng {F : Hp} {lo : Int} {n : Nat} : IsIt K F (Itr lo n) (rngD lo n) := ⟨fun _ => True, YFn fun i => .int (lo + i), by
  rw [rngD_len]
  exact walk_range, fun _ _ _ _ => True.intro, fun k F2 H2 v H3 lt a b y => by
  obtain ⟨rfl, rfl⟩ := y
  exact ⟨F2, _, rngD_get (by rw [rngD_len] at lt; exact lt), Ext.refl b, .i _⟩⟩
abbrev wRng1 (a : WA) : WA := fun Γ Q => a Γ fun ds => match ds with
  | [.i n] => (-1000000 ≤ n ∧ n ≤ 1000000) ∧ Q (rngD 0 n.toNat)
  | _ => False
abbrev wRng2 (a : WA) : WA := fun Γ Q => a Γ fun ds => match ds with
  | [.i m, .i n] => (-1000000 ≤ m ∧ m ≤ 1000000 ∧ -1000000 ≤ n ∧ n ≤ 1000000) ∧ Q (rngD m (n - m).toNat)
  | _ => False
theorem i_rng1 {ta : TA} {wa : WA} (h : AOk K ta wa) : IOk K (iRng1 ta) (wRng1 wa) := fun Γ Q hq F0 H0 F H σ r QI w =>
  h Γ _ hq F0 H0 F H σ r _ fun vs ds F1 H1 z e1 ra => by
    cases ra with
    | nil => exact z.elim
    | cons a ra =>
      cases ra with
      | cons _ _ => cases a <;> exact z.elim
      | nil =>
        cases a with
        | i n => exact ⟨n, rfl, by omega, by omega, w _ _ F1 H1 z.2 e1 isIt_rng⟩
        | _ => exact z.elim
theorem i_rng2 {ta : TA} {wa : WA} (h : AOk K ta wa) : IOk K (iRng2 ta) (wRng2 wa) := fun Γ Q hq F0 H0 F H σ r QI w =>
  h Γ _ hq F0 H0 F H σ r _ fun vs ds F1 H1 z e1 ra => by
    cases ra with
    | nil => exact z.elim
    | cons a ra =>
      cases ra with
      | nil => cases a <;> exact z.elim
      | cons b ra =>
        cases ra with
        | cons _ _ => cases a <;> cases b <;> exact z.elim
        | nil =>
          cases a with
          | i m =>
            cases b with
            | i n => exact ⟨m, n, rfl, ⟨by omega, by omega, by omega, by omega⟩, w _ _ F1 H1 z.2 e1 isIt_rng⟩
            | _ => exact z.elim
          | _ => cases b <;> exact z.elim
/-- pairs made on the way -/
theorem pair_ok {F1 H1 : Hp} {T : Addr} {x y : V} {dx dy : D} (b : Ex F1 H1) (hT : H1 T = none) (rx : R K F1 x dx) (ry : R K F1 y dy) : ∃ F2, Ext F1 H1 F2 (upd H1 T (.tup [x, y])) ∧ R K F2 (.ref T) (.t [dx, dy]) :=
  let e := Ex.new (o := HO.tup [x, y]) (fresh_back b hT)
  ⟨_, Ext.new b hT, .t (st_of upd_same) (.cons (rx.mono e) (.cons (ry.mono e) .nil))⟩
def enumD : Nat → List D → List D
  | _, [] => []
  | k, x :: xs => .t [.i (k : Nat), x] :: enumD (k + 1) xs
theorem enumD_len : ∀ {xs : List D} {k : Nat}, (enumD k xs).length = xs.length
  | [], _ => rfl
  | _ :: xs, k => by
    show (enumD (k + 1) xs).length + 1 = _
    rw [enumD_len]
    rfl
theorem enumD_get : ∀ {xs : List D} {k m : Nat} {x : D}, xs[m]? = some x → (enumD k xs)[m]? = some (.t [.i ((k + m : Nat) : Int), x])
  | [], _, _, _, h => by
    rw [List.getElem?_nil] at h
    cases h
  | _ :: _, k, 0, _, h => by
    cases h
    rfl
  | _ :: xs, k, m + 1, x, h => by
    have := enumD_get (xs := xs) (k := k + 1) (m := m) h
    rw [show k + 1 + m = k + (m + 1) by omega] at this
    exact this
abbrev wItEn (a : WA) : WA := fun Γ Q => a Γ fun ds => match ds with
  | [.l xs] => Q (enumD 0 xs)
  | _ => False
theorem i_enum {ta : TA} {wa : WA} (h : AOk K ta wa) : IOk K (iEnum K ta) (wItEn wa) := fun Γ Q hq F0 H0 F H σ r QI w =>
  h Γ _ hq F0 H0 F H σ r _ fun vs ds F1 H1 z e1 ra => by
    cases ra with
    | nil => exact z.elim
    | cons a ra =>
      cases ra with
      | cons _ _ => cases a <;> exact z.elim
      | nil =>
        cases a with
        | @l p vs xs hp ra =>
          refine ⟨p, vs, rfl, sq_of (e1.fh _ _ hp), w _ _ F1 H1 z e1 ⟨fun H => SqL K H p vs, YPair (fun i => some (.int (i : Nat))) (fun i => vs[i]?), ?_, fun F2 H2 a b => sq_of (b _ _ (a _ _ hp)), fun k F2 H2 v H3 lt a b y => ?_⟩⟩
          · rw [enumD_len, ← ra.len]
            exact walk_enum (xs := vs)
          · obtain ⟨T, x, y, rfl, hT, rfl, q1, q2⟩ := y
            cases q1
            obtain ⟨d, q3, q4⟩ := ra.walk a q2
            obtain ⟨F3, x3, r3⟩ := pair_ok b hT (.i (k : Nat)) q4
            refine ⟨F3, _, enumD_get (k := 0) q3, x3, ?_⟩
            rw [Nat.zero_add]
            exact r3
        | _ => exact z.elim
def zipD : List D → List D → List D
  | x :: xs, y :: ys => .t [x, y] :: zipD xs ys
  | _, _ => []
theorem zipD_len : ∀ {xs ys : List D}, (zipD xs ys).length = min xs.length ys.length
  | [], _ => by
    unfold zipD
    simp
  | _ :: _, [] => by
    unfold zipD
    simp
  | _ :: xs, _ :: ys => by
    show (zipD xs ys).length + 1 = _
    rw [zipD_len]
    simp only [List.length_cons]
    omega
theorem zipD_get : ∀ {xs ys : List D} {m : Nat} {x y : D}, xs[m]? = some x → ys[m]? = some y → (zipD xs ys)[m]? = some (.t [x, y])
  | [], _, _, _, _, h, _ => by
    rw [List.getElem?_nil] at h
    cases h
  | _ :: _, [], _, _, _, _, h => by
    rw [List.getElem?_nil] at h
    cases h
  | _ :: _, _ :: _, 0, _, _, h1, h2 => by
    cases h1
    cases h2
    rfl
  | _ :: xs, _ :: ys, m + 1, _, _, h1, h2 => zipD_get (xs := xs) (ys := ys) (m := m) h1 h2
section
variable {F0 H0 F1 H1 F H F' H' : Hp} {σ : L2.St} {Γ : G}
theorem Rep.rebase (r : Rep K F0 H0 F H σ Γ) (e0 : Ex F0 F1) (e : Ex F1 F) : Rep K F1 H0 F H σ Γ := ⟨e, r.h0, r.fh, r.tb, fun p o h n => r.nw p o h (fresh_back e0 n), r.len, r.sl, r.ow, r.inj⟩
theorem Ext.back (x : Ext F0 H0 F1 H1) (r : Ext F1 H0 F H) : Ext F0 H0 F H := ⟨x.ff.trans r.ff, r.hh, r.fh, r.tb, fun p o h n => by
  cases q : F1 p with
  | none => exact r.nw p o h q
  | some u => exact x.nw p u q n⟩
theorem Rep.back (x : Ext F0 H0 F1 H1) (r : Rep K F1 H0 F H σ Γ) : Rep K F0 H0 F H σ Γ :=
  let y := x.back r.ext0
  ⟨y.ff, y.hh, y.fh, y.tb, y.nw, r.len, r.sl, r.ow, r.inj⟩
/-- a statement from where more is known: what follows knows that, too -/
theorem SOk.at {t : TS} {a : WS} (h : SOk K t a) {P : Po} (hq : a P Γ) (r : Rep K F0 H0 F H σ Γ) {E : Ends} (e1 : Ex F0 F1) (e2 : Ex F1 F) (x : Ext F0 H0 F1 H1)
    (nx : ∀ Γ σ F H, P.nx Γ → Rep K F0 H0 F H σ Γ → Ex F1 F → E.nx σ H) (rt : ∀ d v F H, P.rt d → Ext F0 H0 F H → R K F v d → E.rt v H) (bk : ∀ Γ σ F H, P.bk Γ → Rep K F0 H0 F H σ Γ → Ex F1 F → E.bk σ H) (ct : ∀ Γ σ F H, P.ct Γ → Rep K F0 H0 F H σ Γ → Ex F1 F → E.ct σ H) : t E σ H :=
  h P Γ hq F1 H0 F H σ (r.rebase e1 e2) E ⟨fun Γ' σ' F' H' z r' => nx Γ' σ' F' H' z (Rep.back x r') r'.f0, fun d v F' H' z x' rv => rt d v F' H' z (x.back x') rv, fun Γ' σ' F' H' z r' => bk Γ' σ' F' H' z (Rep.back x r') r'.f0, fun Γ' σ' F' H' z r' => ct Γ' σ' F' H' z (Rep.back x r') r'.f0⟩
end
/-- for: I holds between two turns -/
abbrev wFor (it : WA) (g : WG) (b : WS) : WS := fun P Γ => it Γ fun xs => ∃ I : Nat → G → Prop, I 0 Γ ∧ (∀ k x Γ', xs[k]? = some x → I k Γ' → g x Γ' fun Γ2 => b { nx := I (k + 1), rt := P.rt, bk := P.nx, ct := I (k + 1) } Γ2) ∧ ∀ Γ', I xs.length Γ' → P.nx Γ'
theorem s_for {wi : TI} {g : TG} {tb : TS} {wit : WA} {wg : WG} {wb : WS} {js : List Nat} (hi : IOk K wi wit) (hg : GOk K g wg js) (hb : SOk K tb wb) : SOk K (tFor wi g tb) (wFor wit wg wb) := fun P Γ hq F0 H0 F H σ r E w =>
  hi Γ _ hq F0 H0 F H σ r _ fun J xs F1 H1 z e1 hit => by
    obtain ⟨I, i0, turn, fin⟩ := z
    obtain ⟨Gd, Y, wk, good, yld⟩ := hit
    have x1 : Ext F0 H0 F1 H1 := r.ext0.trans e1
    refine for_it wk (fun k σ' H' => ∃ Γ' F', I k Γ' ∧ Rep K F0 H0 F' H' σ' Γ' ∧ Ex F1 F') ⟨Γ, F1, i0, r.ext e1, Ex.refl F1⟩ (fun k σ' H' _ ⟨Γ', F', _, r', x⟩ => good F' H' x r'.fh) (fun k v σ' H' H2 lt ⟨Γ', F', i, r', x⟩ y => ?_) fun σ' H' ⟨Γ', F', i, r', x⟩ => w.nx _ _ _ _ (fin Γ' i) r'
    obtain ⟨F2, d, hd, e2, rv⟩ := yld k F' H' v H2 lt x r'.fh y
    refine hg d Γ' _ (turn k d Γ' hd i) F0 H0 F2 H2 σ' v (r'.ext e2) rv _ fun Γ2 σ2 F3 H3 z2 r2 e3 _ => ?_
    exact hb.at z2 r2 x1.ff ((x.trans e2.ff).trans e3.ff) x1 (fun Γ4 σ4 F4 H4 z4 r4 x4 => ⟨Γ4, F4, z4, r4, x4⟩) w.rt (fun Γ4 σ4 F4 H4 z4 r4 _ => w.nx _ _ _ _ z4 r4) (fun Γ4 σ4 F4 H4 z4 r4 x4 => ⟨Γ4, F4, z4, r4, x4⟩)
/-- what may come of n turns: c tells which are taken, P what each gives -/
def Sel (c : Nat → Bool) (P : Nat → D → Prop) : Nat → List D → Prop
  | 0, ys => ys = []
  | n + 1, ys => if c n = true then ∃ zs y, ys = zs ++ [y] ∧ Sel c P n zs ∧ P n y else Sel c P n ys
theorem Sel.len {c : Nat → Bool} {P : Nat → D → Prop} : ∀ {n : Nat} {ys : List D}, Sel c P n ys → ys.length ≤ n
  | 0, ys, h => by
    cases (show ys = [] from h)
    exact Nat.le_refl _
  | n + 1, ys, h => by
    unfold Sel at h
    split at h
    · obtain ⟨zs, y, rfl, h1, _⟩ := h
      have := Sel.len h1
      simp
      omega
    · have := Sel.len h
      omega
abbrev wLc (it : WA) (g : WG) (t : WT) (e : WE) (vs : List Nat) : WA := fun Γ Q => it Γ fun xs => xs.length ≤ 100000 ∧ ∃ (c : Nat → Bool) (P : Nat → D → Prop),
  (∀ k x, xs[k]? = some x → g x (wipeG Γ vs) fun Γ2 => t Γ2 fun b => b = c k ∧ (b = true → e Γ2 (P k))) ∧ ∀ ys, Sel c P xs.length ys → Q ys
theorem f_lc {wi : TI} {g : TG} {tt : TT} {te : TE} {vs js : List Nat} {wit : WA} {wg : WG} {wt : WT} {we : WE} (hi : IOk K wi wit) (hg : GOk K g wg js) (ht : TOk K tt wt) (he : EOk K te we) (hj : ∀ j ∈ js, j ∈ vs := by decide) : FOk K (tLc wi g tt te vs) (wLc wit wg wt we vs) := fun Γ Q hq F0 H0 F H σ r QV w =>
  hi Γ _ hq F0 H0 F H σ r _ fun J xs F1 H1 z e1 hit => by
    obtain ⟨lx, c, P, turn, fin⟩ := z
    obtain ⟨Gd, Y, wk, good, yld⟩ := hit
    intro Dl hD
    have r1 := (r.ext e1).wipe vs
    refine lc_it wk (fun k H' => ∃ F' ys ws, Ext F1 H1 F' H' ∧ F' Dl = none ∧ H' Dl = some (.lst ws) ∧ RA K F' ws ys ∧ Sel c P k ys) ⟨F1, [], [], Ext.heap e1.fh (Ex.new hD), fresh_back e1.fh hD, upd_same, .nil, rfl⟩ (fun k H' _ ⟨F', ys, ws, x, _⟩ => good F' H' x.ff x.fh)
      (fun k v H' H2 lt ⟨F', ys, ws, x, hf, hd, ra, hs⟩ y => ?_) fun H' ⟨F', ys, ws, x, hf, hd, ra, hs⟩ => w Dl ws ys F' H' (fin ys hs) (e1.trans x) (ExT.back e1.hh hD) hf hd ra
    obtain ⟨F2, d, hx, e2, rv⟩ := yld k F' H' v H2 lt x.ff x.fh y
    have nof : ∀ {F3 H3 : Hp}, Ext F' H' F3 H3 → F3 Dl = none := fun {F3 H3} e3 => by
      cases q : F3 Dl with
      | none => rfl
      | some o =>
        have := e3.nw Dl o q hf
        rw [hd] at this
        cases this
    refine hg d _ _ (turn k d hx) F0 H0 F2 H2 _ v (r1.ext (x.trans e2)) rv _ fun Γ3 σ3 F3 H3 z3 r3 e3 w3 => ⟨by rw [w3 vs hj]; exact wipe_twice σ vs, ?_⟩
    refine ht Γ3 _ z3 F0 H0 F3 H3 σ3 r3 _ fun b F4 H4 z4 e4 => ?_
    obtain ⟨hb, z4⟩ := z4
    have e34 := (e2.trans e3).trans e4
    cases b with
    | true =>
      show te σ3 H4 _
      refine he Γ3 _ (z4 rfl) F0 H0 F4 H4 σ3 (r3.ext e4) _ fun u dy F5 H5 z5 e5 ru => ?_
      have e25 := e34.trans e5
      refine ⟨ws, e25.hh.kp hd, sz_lt (by have := hs.len; rw [ra.len]; omega), F5, ys ++ [dy], ws ++ [u], ?_, nof e25, upd_same, (ra.mono e25.ff).snoc ru, ?_⟩
      · have x5 := x.trans e25
        refine ⟨x5.ff, x5.hh.mut hD, fun a o q => ?_, x5.tb.mut (e25.hh.kp hd) noTab_lst, x5.nw⟩
        rw [upd_ne (ne_of_none q (nof e25))]
        exact x5.fh a o q
      · unfold Sel
        rw [← hb, if_pos rfl]
        exact ⟨ys, dy, rfl, hs, z5⟩
    | false =>
      show ∃ F' ys ws, _
      refine ⟨F4, ys, ws, x.trans e34, nof e34, e34.hh.kp hd, ra.mono e34.ff, ?_⟩
      unfold Sel
      rw [← hb, if_neg (by decide)]
      exact hs
/-- a def's promise over data -/
def spD (K : PySem.W.Frag) (S : List D → (D → Prop) → Prop) : Sp := fun vs H Q _ => ∃ F ds P, Ex F H ∧ RA K F vs ds ∧ S ds P ∧ ∀ v d F' H', P d → Ext F H F' H' → R K F' v d → Q v H'
abbrev wCall (S : List D → (D → Prop) → Prop) (a : WA) : WE := fun Γ Q => a Γ fun ds => S ds Q
theorem e_call {S : List D → (D → Prop) → Prop} {ta : TA} {wa : WA} (ha : AOk K ta wa) : EOk K (tCallD (spD K S) ta) (wCall S wa) := fun Γ Q hq F0 H0 F H σ r QV w =>
  ha Γ _ hq F0 H0 F H σ r _ fun vs ds F1 H1 z e1 ra => ⟨F1, ds, Q, e1.fh, ra, z, fun v d F2 H2 h2 e2 r2 => w v d F2 H2 h2 (e1.trans e2) r2⟩
/-- a def's body, read -/
def spD_len {S : List D → (D → Prop) → Prop} {n : Nat} (h : ∀ ds P, S ds P → ds.length = n) : ∀ vs H Q E, spD K S vs H Q E → vs.length = n := fun vs H Q E ⟨F, ds, P, _, ra, s, _⟩ => by rw [ra.len]; exact h ds P s
def startG (n : Nat) (ds : List D) : G := ds.map Sl.d ++ List.replicate (n - ds.length) .u
theorem body_run {N : List Str} {S : List D → (D → Prop) → Prop} {t : TS} {a : WS} {vs : List V} {H : Hp} {Q : VK} {E : XK} (h : SOk K t a) (hs : spD K S vs H Q E) (hl : ∀ ds P, S ds P → ds.length ≤ N.length)
    (body : ∀ ds P, S ds P → a { nx := fun _ => P .n, rt := P } (startG N.length ds)) : t { nx := fun _ H' => Q .non H', rt := Q } (L2.start N vs) H := by
  obtain ⟨F, ds, P, e, ra, s, q⟩ := hs
  exact h _ _ (body ds P s) F H F H _ (rep_start e ra (hl ds P s)) _ ⟨fun Γ' σ' F' H' z r' => q _ _ _ _ z r'.ext0 .n, fun d v F' H' z x rv => q _ _ _ _ z x rv, fun _ _ _ _ z _ => z.elim, fun _ _ _ _ z _ => z.elim⟩
end
end DL
theorem Lay.DefOk.d {P : PySem.Program} {w : PySem.World} {K : PySem.W.Frag} {mg : PySem.Str → Option PySem.Value} {base : PySem.Heap} {x : PySem.Str} {k : Nat} {ps : List PySem.Str} {sp : L2.Sp} (h : Lay.DefOk P w K mg base x k ps sp) : Lay.DefOk P w K mg base x k ps sp := h
namespace DL
open PySem PySem.Spec PyProof.Rows L2 Evl Lay ErrX
section
variable (K : PySem.W.Frag) {X : Cx} {pos p : Pos} {l e : Expr} {tl : TE} {t ta : TA} {tg : Expr}
theorem kx_isi (h : X.K = K := by rfl) : CallR X (.builtin "isinstance") (rIsi K) := h ▸ call_isi
theorem kx_piTup (hl : PE X l tl) (h : X.K = K := by rfl) : PI X tg l (iTup K tl) := h ▸ pi_tup hl
theorem kx_enum {tpos : Pos} {elts : List Expr} {kk : Nat} (hg : Gl X "enumerate") (hm : X.mg "enumerate" = none) (ha : PA X [e] ta) (hs : starEach [e] X.env = [(false, eval e X.env)] := by rfl) (h : X.K = K := by rfl) : PI X (.Tuple elts kk tpos) (.Call (.Name "enumerate" p) [e] [] pos) (iEnum K ta) := h ▸ pi_enum hg hm ha hs
end
theorem pe_gint {X : Cx} {x : Str} {n : Int} {pos : Pos} (hm : ∃ t, X.mg x = some (.int n t)) (hg : Gl X x := by rfl) (hd : (x == ("__debug__" : Str)) = false := by decide) : PE X (.Name x pos) (tC (.int n)) := by
  obtain ⟨t, hm⟩ := hm
  exact pe_glob hg hm ⟨t, rfl⟩ hd
/-- a def and its promise: where it stands is kept, for calls by name -/
structure DOk (P : Program) (w : World) (K : PySem.W.Frag) (mg : Str → Option Value) (base : Heap) (x : Str) (st : Stmt) (k : Nat) (ps : List Str) (S : List D → (D → Prop) → Prop) : Prop where
  ex : ∃ f fd, FnG P w K mg base CX0 k f fd ps (spD K S) ∧ mg x = some (.ref f) ∧ Fun K x x st f fd ∧ Binds K fd ps []
section
variable {P : Program} {w : World} {K : PySem.W.Frag} {mg : Str → Option Value} {base : Heap}
theorem DOk.d {x : Str} {st : Stmt} {k : Nat} {ps : List Str} {S : List D → (D → Prop) → Prop} (h : DOk P w K mg base x st k ps S) : DefOk P w K mg base x k ps (spD K S) :=
  let ⟨f, fd, F, hm, hf, hb⟩ := h.ex
  ⟨f, fd, F, hm, hf.kp, hb⟩
theorem dok {x : Str} {st : Stmt} {N ps : List Str} {k : Nat} {S : List D → (D → Prop) → Prop} (Df : DefIn K mg x st ps) (sc : FnScope N ps (defScope st)) (len : ∀ ds P, S ds P → ds.length = ps.length) (hN : ps.length ≤ N.length := by decide)
    (body : ∀ (f : Addr) (cdv : Value) (A : Around) (outer : List Env) (s : Shared) (H : Hp) (E : XK), Room k (cxOf CX0 P w K mg base N x (defScope st) f cdv A outer s H E).A → (cxOf CX0 P w K mg base N x (defScope st) f cdv A outer s H E).A.guards = some [] →
      ∃ t a, PSs (cxOf CX0 P w K mg base N x (defScope st) f cdv A outer s H E).nox (defBody st) t ∧ SOk K t a ∧ ∀ ds Q, S ds Q → a { nx := fun _ => Q .n, rt := Q } (startG N.length ds)) : DOk P w K mg base x st (k + 1) ps S := by
  obtain ⟨f, fd, F, hm, hb⟩ := Df.ex
  refine ⟨f, fd, fng F sc (spD_len len) fun cdv A outer s H vs Q E hr hg h => ?_, hm, F, hb⟩
  obtain ⟨t, a, ht, hs, q⟩ := body f cdv A outer s H E hr hg
  exact ⟨t, ht.nox, body_run hs h (fun ds P z => by rw [len ds P z]; exact hN) q⟩
end
section
variable {X : Cx} {x : Str} {st : Stmt} {p pos : Pos} {k : Nat} {ps ks : List Str} {S : List D → (D → Prop) → Prop} {kws : List Keyword} {tk : TA}
/-- f(k = e, ..) -/
theorem pe_callDK {g : {α : Type} → List α → List α} (D : DOk X.prog X.w X.K X.mg X.base x st k ps S) (hr : Room k X.A) (hgd : X.A.guards = some []) (kb : KwB X.K x st ks ps g) (hg : ∀ {zs : List V} {ws : List Value}, Vals zs ws → Vals (g zs) (g ws)) (hkw : L2.PK X kws tk) (gl : Gl X x := by rfl) (hdb : (x == ("__debug__" : Str)) = false := by decide)
    (hall : (backToKw pos (keywordEach kws X.env)).all (·.1.isSome) = true := by rfl) (hks : (backToKw pos (keywordEach kws X.env)).filterMap (·.1) = ks := by rfl)
    (hpl : ((backTo pos (starEach [] X.env)).any (·.1) || (backToKw pos (keywordEach kws X.env)).any (·.1.isNone)) = false := by rfl) : PE X (.Call (.Name x p) [] kws pos) (tCallK ks.length (spD X.K S) g (fun _ => E0) tk) := by
  obtain ⟨f, fd, F, hm, hk, hb⟩ := D.ex
  refine ⟨fun pins s σ H Q I h => ?_⟩
  refine wpAny_Call_Name_kw (ld_glob I gl hm ?_ hdb)
  refine PySem.W.callWith_KW0 (h₀ := X.base) I.ok.mod.kin hk.kp hall (thn (hkw.run pos pins s σ H _ I h) fun ws s1 ⟨zs, H1, I1, r, hl, q⟩ => ⟨I1.kIn, ?_⟩) hpl
  rw [hks]
  refine wpAny_call (codeAny_mono (F.run X.A X.stack s1 H1 ⟨[], ks.zip ws⟩ (g ws) (g zs) Q E0 hr hgd I1.env0 (kb f fd hk s1 ws (r.length.symm.trans hl)) (hg r) q) fun res s' z => ?_)
  cases res with
  | error err => exact False.elim z
  | ok fl =>
    cases fl with
    | ret u => exact I1.after z
    | next => exact False.elim z
    | brk => exact False.elim z
    | cont => exact False.elim z
end
section
variable {K : PySem.W.Frag}
theorem RA.g1 {F : Hp} {vs : List V} {ds : List D} (h : RA K F vs ds) : RA K F (Lay.g1 vs) (Lay.g1 ds) := h
theorem RA.g21 {F : Hp} : ∀ {vs : List V} {ds : List D}, RA K F vs ds → RA K F (Lay.g21 vs) (Lay.g21 ds)
  | _, _, .nil => .nil
  | _, _, .cons a .nil => .cons a .nil
  | _, _, .cons a (.cons b .nil) => .cons b (.cons a .nil)
  | _, _, .cons a (.cons b (.cons c d)) => .cons a (.cons b (.cons c d))
abbrev wCallK (n : Nat) (S : List D → (D → Prop) → Prop) (g : List D → List D) (a : WA) : WE := fun Γ Q => a Γ fun ds => ds.length = n ∧ S (g ds) Q
theorem e_callK {n : Nat} {S : List D → (D → Prop) → Prop} {g : {α : Type} → List α → List α} {ta : TA} {wa : WA} (hg : ∀ {F : Hp} {vs : List V} {ds : List D}, RA K F vs ds → RA K F (g vs) (g ds)) (ha : AOk K ta wa) : EOk K (tCallK n (spD K S) g (fun _ => E0) ta) (wCallK n S g wa) := fun Γ Q hq F0 H0 F H σ r QV w =>
  ha Γ _ hq F0 H0 F H σ r _ fun vs ds F1 H1 z e1 ra => ⟨by rw [ra.len]; exact z.1, F1, g ds, Q, e1.fh, hg ra, z.2, fun v d F2 H2 h2 e2 r2 => w v d F2 H2 h2 (e1.trans e2) r2⟩
/-- the built-in class of data that is none of the program's objects -/
def tyS : D → Option String
  | .n => some "NoneType" | .b _ => some "bool" | .i _ => some "int" | .s _ => some "str" | .t _ => some "tuple" | .l _ => some "list" | .o _ _ _ => none | .j => none | .p _ => none | .c _ => none | .T _ => none | .q _ => some "dict"
theorem tyX {F H : Hp} {v : V} {x : D} {n : String} (e : Ex F H) (r : R K F v x) (h : tyS x = some n) : TyX K H v (.type n) := by
  cases r with
  | n => cases h; exact .base .non
  | b => cases h; exact .base (.bl _)
  | i => cases h; exact .base (.int _)
  | s => cases h; exact .base (.str _)
  | t h1 r =>
    cases h
    rcases h1 with h1 | ⟨o, its, n, h1, h2, _⟩
    · rcases h1 with h1 | ⟨o, h1⟩
      · exact .base (.tup (e _ _ h1))
      · exact .fTuple (e _ _ h1)
    · exact .kTuple h1 h2
  | l h1 r => cases h; exact .base (.lst (e _ _ h1))
  | o => cases h
  | j => cases h
  | p => cases h
  | c => cases h
  | T => cases h
  | q k h1 => cases h; exact .base (.dK (e _ _ h1))
/-- isinstance(x, T) -/
abbrev wIsi (tab : String → Option Bool) : WE → WE := fun a Γ Q => a Γ fun x => match tyS x with
  | some n => match tab n with
    | some b => Q (.b b)
    | none => False
  | none => False
theorem e_isi {te : TE} {we : WE} {T : String} {tab : String → Option Bool} (ht : ∀ n b, tab n = some b → PySem.W.kitOne K (.type n) (.type T) = some b) (h : EOk K te we) : EOk K (tCB (rIsi K) (tCons te (tCons (tC (.ty T)) tNil))) (wIsi tab we) := fun Γ Q hq F0 H0 F H σ r QV w =>
  h Γ _ hq F0 H0 F H σ r _ fun v d F1 H1 z e1 rv => by
    cases q : tyS d with
    | none => rw [q] at z; exact z.elim
    | some n =>
      rw [q] at z
      cases q2 : tab n with
      | none =>
        have z : (match tab n with | some b => Q (.b b) | none => False) := z
        rw [q2] at z
        exact z.elim
      | some b =>
        have z : (match tab n with | some b => Q (.b b) | none => False) := z
        rw [q2] at z
        exact ⟨v, .ty T, .type n, .type T, b, rfl, .ty T, tyX e1.fh rv q, ht n b q2, w _ _ F1 H1 z e1 (.b b)⟩
def tabInt : String → Option Bool
  | "int" => some true | "bool" => some true | "str" => some false | "tuple" => some false | "list" => some false | "NoneType" => some false | "dict" => some false | _ => none
def tabBool : String → Option Bool
  | "int" => some false | "bool" => some true | "str" => some false | "tuple" => some false | "list" => some false | "NoneType" => some false | "dict" => some false | _ => none
def tabTuple : String → Option Bool
  | "int" => some false | "bool" => some false | "str" => some false | "tuple" => some true | "list" => some false | "NoneType" => some false | "dict" => some false | _ => none
def tabStr : String → Option Bool
  | "int" => some false | "bool" => some false | "str" => some true | "tuple" => some false | "list" => some false | "NoneType" => some false | "dict" => some false | _ => none
theorem tab_int {n : String} {b : Bool} (h : tabInt n = some b) : PySem.W.kitOne K (.type n) (.type "int") = some b := by
  unfold tabInt at h
  split at h <;> first | (cases h; rfl) | (cases h; done)
theorem tab_bool {n : String} {b : Bool} (h : tabBool n = some b) : PySem.W.kitOne K (.type n) (.type "bool") = some b := by
  unfold tabBool at h
  split at h <;> first | (cases h; rfl) | (cases h; done)
theorem tab_tuple {n : String} {b : Bool} (h : tabTuple n = some b) : PySem.W.kitOne K (.type n) (.type "tuple") = some b := by
  unfold tabTuple at h
  split at h <;> first | (cases h; rfl) | (cases h; done)
theorem tab_str {n : String} {b : Bool} (h : tabStr n = some b) : PySem.W.kitOne K (.type n) (.type "str") = some b := by
  unfold tabStr at h
  split at h <;> first | (cases h; rfl) | (cases h; done)
abbrev wMax2 : List D → (D → Prop) → Prop := fun xs Q => match xs with
  | [.i a, .i b] => Q (.i (if b > a then b else a))
  | _ => False
abbrev wMin2 : List D → (D → Prop) → Prop := fun xs Q => match xs with
  | [.i a, .i b] => Q (.i (if b < a then b else a))
  | _ => False
theorem RA.two {F : Hp} {vs : List V} {a b : Int} (r : RA K F vs [.i a, .i b]) : vs = [.int a, .int b] := by
  cases r with
  | cons x r =>
    cases r with
    | cons y r =>
      cases r
      cases x
      cases y
      rfl
theorem c_max2 : COk K (fun xs H Q => ∃ i j, xs = [V.int i, V.int j] ∧ Q (V.int (if j > i then j else i)) H) wMax2 := fun xs Q hq F H vs e r QV q => by
  unfold wMax2 at hq
  split at hq
  · have := r.two
    subst this
    exact ⟨_, _, rfl, q _ _ F H hq (Ext.refl e) (.i _)⟩
  · exact hq.elim
theorem c_min2 : COk K (fun xs H Q => ∃ i j, xs = [V.int i, V.int j] ∧ Q (V.int (if j < i then j else i)) H) wMin2 := fun xs Q hq F H vs e r QV q => by
  unfold wMin2 at hq
  split at hq
  · have := r.two
    subst this
    exact ⟨_, _, rfl, q _ _ F H hq (Ext.refl e) (.i _)⟩
  · exact hq.elim
/-- divmod: a new tuple -/
abbrev wDivmod : List D → (D → Prop) → Prop := fun xs Q => match xs with
  | [.i a, .i b] => CDiv a b ∧ Q (.t [.i (a / b), .i (a % b)])
  | _ => False
theorem c_divmod : COk K (fun xs H Q => ∃ i j, xs = [V.int i, V.int j] ∧ CDiv i j ∧ ∀ p, H p = none → Q (V.ref p) (upd H p (HO.tup [V.int (i / j), V.int (i % j)]))) wDivmod := fun xs Q hq F H vs e r QV q => by
  unfold wDivmod at hq
  split at hq
  · have := r.two
    subst this
    exact ⟨_, _, rfl, hq.1, fun p hp => q _ _ _ _ hq.2 (Ext.new e hp) (.t (st_of upd_same) (.cons (.i _) (.cons (.i _) .nil)))⟩
  · exact hq.elim
end
end DL
namespace DL
open PySem PySem.Spec PyProof.Rows L2 Evl Lay ErrX
/-- data without truths, objects: no deeper than k -/
inductive ID : Nat → D → Prop
  | n {k : Nat} : ID k .n
  | i {k : Nat} (v : Int) : ID k (.i v)
  | s {k : Nat} (v : Str) (h : PyData.strOk v = true) : ID k (.s v)
  | t {k : Nat} {xs : List D} (h : ∀ x ∈ xs, ID k x) : ID (k + 1) (.t xs)
  | l {k : Nat} {xs : List D} (h : ∀ x ∈ xs, ID k x) : ID (k + 1) (.l xs)
theorem depthAll_le {k : Nat} : ∀ {ds : List PyData}, (∀ d ∈ ds, d.depth ≤ k) → PyData.depthAll ds ≤ k
  | [], _ => by simp [PyData.depthAll]
  | d :: ds, h => by
    have h1 := h d (List.mem_cons_self ..)
    have h2 := depthAll_le fun e he => h e (List.mem_cons_of_mem _ he)
    simp only [PyData.depthAll]
    omega
theorem canAll {ds : List PyData} (h : ∀ d ∈ ds, d.canLay0 = true) : PyData.canLayAll0 ds = true := by
  induction ds with
  | nil => simp [PyData.canLayAll0]
  | cons d ds ih => simp only [PyData.canLayAll0, h d (List.mem_cons_self ..), ih fun e he => h e (List.mem_cons_of_mem _ he), Bool.and_self]
theorem pyA_of {xs : List D} {p : PyData → Prop} (h : ∀ x ∈ xs, ∃ d, py x = some d ∧ p d) : ∃ ds, pyA xs = some ds ∧ ∀ d ∈ ds, p d := by
  induction xs with
  | nil => exact ⟨[], by simp only [pyA], fun d hd => by cases hd⟩
  | cons x xs ih =>
    obtain ⟨d, h1, h2⟩ := h x (List.mem_cons_self ..)
    obtain ⟨ds, h3, h4⟩ := ih fun y hy => h y (List.mem_cons_of_mem _ hy)
    refine ⟨d :: ds, by simp only [pyA, h1, h3]; rfl, fun e he => ?_⟩
    rcases List.mem_cons.mp he with rfl | he
    · exact h2
    · exact h4 e he
theorem ID.py {k : Nat} {x : D} (h : ID k x) : ∃ d, DL.py x = some d ∧ d.canLay0 = true ∧ d.depth ≤ k := by
  induction h with
  | n => exact ⟨.none, by simp only [DL.py], rfl, Nat.zero_le _⟩
  | i v => exact ⟨.int v, by simp only [DL.py], rfl, Nat.zero_le _⟩
  | s v h => exact ⟨.str v, by simp only [DL.py], by simpa [PyData.canLay0] using h, Nat.zero_le _⟩
  | @t k xs h ih =>
    obtain ⟨ds, h1, h2⟩ := pyA_of ih
    refine ⟨.tuple ds, by simp only [DL.py, h1]; rfl, ?_, ?_⟩
    · simp only [PyData.canLay0]
      exact canAll fun d hd => (h2 d hd).1
    · have := depthAll_le fun d hd => (h2 d hd).2
      simp only [PyData.depth]
      omega
  | @l k xs h ih =>
    obtain ⟨ds, h1, h2⟩ := pyA_of ih
    refine ⟨.list ds, by simp only [DL.py, h1]; rfl, ?_, ?_⟩
    · simp only [PyData.canLay0]
      exact canAll fun d hd => (h2 d hd).1
    · have := depthAll_le fun d hd => (h2 d hd).2
      simp only [PyData.depth]
      omega
theorem eqv_eq : ∀ {k : Nat} {x : D}, ID k x → ∀ {m : Nat} {y : D}, ID m y → ∀ {d e : PyData}, DL.py x = some d → DL.py y = some e → (PyData.eqv d e = true ↔ x = y) := by
  have all : ∀ {xs : List D}, (∀ x ∈ xs, ∀ {m : Nat} {y : D}, ID m y → ∀ {d e : PyData}, DL.py x = some d → DL.py y = some e → (PyData.eqv d e = true ↔ x = y)) → ∀ {m : Nat} {ys : List D}, (∀ y ∈ ys, ID m y) → ∀ {ds es : List PyData}, pyA xs = some ds → pyA ys = some es → (PyData.eqvAll ds es = true ↔ xs = ys) := by
    intro xs
    induction xs with
    | nil =>
      intro _ m ys hy ds es h1 h2
      simp only [pyA] at h1
      cases h1
      cases ys with
      | nil =>
        simp only [pyA] at h2
        cases h2
        simp [PyData.eqvAll]
      | cons y ys =>
        simp only [pyA] at h2
        cases q : DL.py y with
        | none => rw [q] at h2; cases h2
        | some d =>
          cases q2 : pyA ys with
          | none => rw [q, q2] at h2; cases h2
          | some ds =>
            rw [q, q2] at h2
            cases h2
            simp [PyData.eqvAll]
    | cons x xs ih =>
      intro hx m ys hy ds es h1 h2
      simp only [pyA] at h1
      cases q : DL.py x with
      | none => rw [q] at h1; cases h1
      | some d =>
        cases q2 : pyA xs with
        | none => rw [q, q2] at h1; cases h1
        | some ds' =>
          rw [q, q2] at h1
          cases h1
          cases ys with
          | nil =>
            simp only [pyA] at h2
            cases h2
            simp [PyData.eqvAll]
          | cons y ys =>
            simp only [pyA] at h2
            cases r : DL.py y with
            | none => rw [r] at h2; cases h2
            | some e =>
              cases r2 : pyA ys with
              | none => rw [r, r2] at h2; cases h2
              | some es' =>
                rw [r, r2] at h2
                cases h2
                have e1 := hx x (List.mem_cons_self ..) (hy y (List.mem_cons_self ..)) q r
                have e2 := ih (fun z hz => hx z (List.mem_cons_of_mem _ hz)) (fun z hz => hy z (List.mem_cons_of_mem _ hz)) q2 r2
                show (PyData.eqvAll (d :: ds') (e :: es') = true) ↔ _
                simp only [PyData.eqvAll, Bool.and_eq_true, e1, e2, List.cons.injEq]
  have tl : ∀ {xs : List D} {d : PyData}, DL.py (.t xs) = some d → ∃ ds, pyA xs = some ds ∧ d = .tuple ds := fun {xs d} h => by
    simp only [DL.py] at h
    cases q : pyA xs with
    | none => rw [q] at h; cases h
    | some ds => rw [q] at h; cases h; exact ⟨ds, rfl, rfl⟩
  have ll : ∀ {xs : List D} {d : PyData}, DL.py (.l xs) = some d → ∃ ds, pyA xs = some ds ∧ d = .list ds := fun {xs d} h => by
    simp only [DL.py] at h
    cases q : pyA xs with
    | none => rw [q] at h; cases h
    | some ds => rw [q] at h; cases h; exact ⟨ds, rfl, rfl⟩
  intro k x hx
  induction hx with
  | n =>
    intro m y hy d e h1 h2
    simp only [DL.py] at h1
    cases h1
    cases hy with
    | t h => obtain ⟨ds, _, rfl⟩ := tl h2; simp [PyData.eqv]
    | l h => obtain ⟨ds, _, rfl⟩ := ll h2; simp [PyData.eqv]
    | _ => simp only [DL.py] at h2; cases h2; simp [PyData.eqv]
  | i v =>
    intro m y hy d e h1 h2
    simp only [DL.py] at h1
    cases h1
    cases hy with
    | t h => obtain ⟨ds, _, rfl⟩ := tl h2; simp [PyData.eqv]
    | l h => obtain ⟨ds, _, rfl⟩ := ll h2; simp [PyData.eqv]
    | _ => simp only [DL.py] at h2; cases h2; simp [PyData.eqv]
  | s v h =>
    intro m y hy d e h1 h2
    simp only [DL.py] at h1
    cases h1
    cases hy with
    | t h => obtain ⟨ds, _, rfl⟩ := tl h2; simp [PyData.eqv]
    | l h => obtain ⟨ds, _, rfl⟩ := ll h2; simp [PyData.eqv]
    | _ => simp only [DL.py] at h2; cases h2; simp [PyData.eqv]
  | t h ih =>
    intro m y hy d e h1 h2
    obtain ⟨ds, q1, rfl⟩ := tl h1
    cases hy with
    | t h' =>
      obtain ⟨es, q2, rfl⟩ := tl h2
      have := all ih h' q1 q2
      simp only [PyData.eqv, D.t.injEq]
      exact this
    | l h' => obtain ⟨es, _, rfl⟩ := ll h2; simp [PyData.eqv]
    | _ => simp only [DL.py] at h2; cases h2; simp [PyData.eqv]
  | l h ih =>
    intro m y hy d e h1 h2
    obtain ⟨ds, q1, rfl⟩ := ll h1
    cases hy with
    | l h' =>
      obtain ⟨es, q2, rfl⟩ := ll h2
      have := all ih h' q1 q2
      simp only [PyData.eqv, D.l.injEq]
      exact this
    | t h' => obtain ⟨es, _, rfl⟩ := tl h2; simp [PyData.eqv]
    | _ => simp only [DL.py] at h2; cases h2; simp [PyData.eqv]
/-- a comparison of data, both ways told -/
theorem eqD_of {k m : Nat} {x y : D} {Q : D → Prop} (hx : ID k x) (hy : ID m y) (h1 : x = y → Q (.b true)) (h2 : x ≠ y → Q (.b false)) (hk : k ≤ 64 := by decide) (hm : m ≤ 64 := by decide) : wEqD x y Q := by
  obtain ⟨d, p1, p2, p3⟩ := hx.py
  obtain ⟨e, q1, q2, q3⟩ := hy.py
  refine ⟨d, e, p1, q1, by unfold SeqAt.shaped; rw [p2, decide_eq_true (Nat.le_trans p3 hk)]; rfl, by unfold SeqAt.shaped; rw [q2, decide_eq_true (Nat.le_trans q3 hm)]; rfl, ?_⟩
  have z := eqv_eq hx hy p1 q1
  cases c : PyData.eqv d e with
  | true => exact h1 (z.mp c)
  | false =>
    refine h2 fun e' => ?_
    rw [z.mpr e'] at c
    cases c
theorem neD_of {k m : Nat} {x y : D} {Q : D → Prop} (hx : ID k x) (hy : ID m y) (h1 : x = y → Q (.b false)) (h2 : x ≠ y → Q (.b true)) (hk : k ≤ 64 := by decide) (hm : m ≤ 64 := by decide) : wNeD x y Q := by
  obtain ⟨d, p1, p2, p3⟩ := hx.py
  obtain ⟨e, q1, q2, q3⟩ := hy.py
  refine ⟨d, e, p1, q1, by unfold SeqAt.shaped; rw [p2, decide_eq_true (Nat.le_trans p3 hk)]; rfl, by unfold SeqAt.shaped; rw [q2, decide_eq_true (Nat.le_trans q3 hm)]; rfl, ?_⟩
  have z := eqv_eq hx hy p1 q1
  cases c : PyData.eqv d e with
  | true => exact h1 (z.mp c)
  | false =>
    refine h2 fun e' => ?_
    rw [z.mpr e'] at c
    cases c
/-- ints of a tuple -/
theorem ID.ints {k : Nat} {ns : List Int} : ∀ x ∈ ns.map D.i, ID k x := fun x hx => by
  obtain ⟨n, _, rfl⟩ := List.mem_map.mp hx
  exact .i n
theorem ID.p2 {k : Nat} {a b : Int} : ID (k + 1) (.t [.i a, .i b]) := .t (ID.ints (ns := [a, b]))
mutual
theorem short_of : ∀ d : PyData, d.showable = true → d.intsShort 1921 = true
  | .none, _ => rfl
  | .bool _, _ => rfl
  | .int i, h => by
    simp only [PyData.showable, decide_eq_true_eq] at h
    have := int_text_len_1921 h
    simp only [PyData.intsShort, decide_eq_true_eq]
    exact this
  | .str _, _ => rfl
  | .list xs, h => by
    simp only [PyData.intsShort]
    exact shortAll_of xs (by simpa only [PyData.showable] using h)
  | .tuple xs, h => by
    simp only [PyData.intsShort]
    exact shortAll_of xs (by simpa only [PyData.showable] using h)
  | .dict _, _ => rfl
theorem shortAll_of : ∀ ds : List PyData, PyData.showableAll ds = true → PyData.intsShortAll 1921 ds = true
  | [], _ => by simp only [PyData.intsShortAll]
  | d :: ds, h => by
    simp only [PyData.showableAll, Bool.and_eq_true] at h
    simp only [PyData.intsShortAll, short_of d h.1, shortAll_of ds h.2, Bool.and_self]
end
theorem shown_fits {d : PyData} (hc : d.canLay0 = true) (hs : d.showable = true) (hb : d.bulk ≤ 8000) : d.shown.length ≤ sizeLine := by
  have := PyData.shown_le_bulk 1921 (by decide) d (PyData.leavesShort_of_canLay0 1921 d hc (short_of d hs))
  rw [sizeLine_eq]
  omega
theorem repr_of {x : D} {d : PyData} {Q : D → Prop} (h : py x = some d) (hc : d.canLay0 = true) (hs : d.showable = true) (hd : d.depth ≤ 32) (hb : d.bulk ≤ 8000) (q : Q (.s d.shown)) : wRepr [x] Q := ⟨d, pyQ_of h, hs, hd, shown_fits hc hs hb, q⟩
theorem log2_small {i : Int} (h1 : -(2 ^ 1000) < i) (h2 : i < 2 ^ 1000) : i.natAbs.log2 < 1920 := by
  by_cases z : i.natAbs = 0
  · rw [z]
    decide
  · refine (Nat.log2_lt z).mpr (Nat.lt_of_lt_of_le (m := 2 ^ 1000) ?_ (Nat.pow_le_pow_right (by decide) (by decide)))
    have e : ((2 : Int) ^ 1000) = ((2 ^ 1000 : Nat) : Int) := by norm_cast
    rw [e] at h1 h2
    omega
/-- data that may be written out: no deeper than k, ints not beyond -/
inductive RD : Nat → D → Prop
  | n {k : Nat} : RD k .n
  | b {k : Nat} (v : Bool) : RD k (.b v)
  | i {k : Nat} {v : Int} (h : v.natAbs.log2 < 1920) : RD k (.i v)
  | s {k : Nat} (v : Str) (h : PyData.strOk v = true) : RD k (.s v)
  | t {k : Nat} {xs : List D} (h : ∀ x ∈ xs, RD k x) : RD (k + 1) (.t xs)
  | l {k : Nat} {xs : List D} (h : ∀ x ∈ xs, RD k x) : RD (k + 1) (.l xs)
mutual
def szD : D → Nat
  | .s v => v.cps.size
  | .t xs => szA xs
  | .l xs => szA xs
  | _ => 0
def szA : List D → Nat
  | [] => 0
  | x :: xs => szD x + 1 + szA xs
end
theorem showAll {ds : List PyData} (h : ∀ d ∈ ds, d.showable = true) : PyData.showableAll ds = true := by
  induction ds with
  | nil => simp [PyData.showableAll]
  | cons d ds ih => simp only [PyData.showableAll, h d (List.mem_cons_self ..), ih fun e he => h e (List.mem_cons_of_mem _ he), Bool.and_self]
theorem RD.py {k : Nat} {x : D} (h : RD k x) : ∃ d, DL.py x = some d ∧ d.canLay0 = true ∧ d.depth ≤ k ∧ d.showable = true := by
  induction h with
  | n => exact ⟨.none, by simp only [DL.py], rfl, Nat.zero_le _, rfl⟩
  | b v => exact ⟨.bool v, by simp only [DL.py], rfl, Nat.zero_le _, rfl⟩
  | @i k v h => exact ⟨.int v, by simp only [DL.py], rfl, Nat.zero_le _, by simpa [PyData.showable] using h⟩
  | s v h => exact ⟨.str v, by simp only [DL.py], by simpa [PyData.canLay0] using h, Nat.zero_le _, rfl⟩
  | @t k xs h ih =>
    obtain ⟨ds, h1, h2⟩ := pyA_of ih
    refine ⟨.tuple ds, by simp only [DL.py, h1]; rfl, ?_, ?_, ?_⟩
    · simp only [PyData.canLay0]
      exact canAll fun d hd => (h2 d hd).1
    · have := depthAll_le fun d hd => (h2 d hd).2.1
      simp only [PyData.depth]
      omega
    · simp only [PyData.showable]
      exact showAll fun d hd => (h2 d hd).2.2
  | @l k xs h ih =>
    obtain ⟨ds, h1, h2⟩ := pyA_of ih
    refine ⟨.list ds, by simp only [DL.py, h1]; rfl, ?_, ?_, ?_⟩
    · simp only [PyData.canLay0]
      exact canAll fun d hd => (h2 d hd).1
    · have := depthAll_le fun d hd => (h2 d hd).2.1
      simp only [PyData.depth]
      omega
    · simp only [PyData.showable]
      exact showAll fun d hd => (h2 d hd).2.2
mutual
theorem bulk_sz : ∀ (x : D) (d : PyData), py x = some d → d.bulk = szD x
  | .n, _, h => by simp only [py] at h; cases h; rfl
  | .b _, _, h => by simp only [py] at h; cases h; rfl
  | .i _, _, h => by simp only [py] at h; cases h; rfl
  | .s _, _, h => by simp only [py] at h; cases h; simp only [szD, PyData.bulk]
  | .t xs, d, h => by
    simp only [py] at h
    cases q : pyA xs with
    | none => rw [q] at h; cases h
    | some ds =>
      rw [q] at h
      cases h
      simp only [szD, PyData.bulk]
      exact bulk_szA xs ds q
  | .l xs, d, h => by
    simp only [py] at h
    cases q : pyA xs with
    | none => rw [q] at h; cases h
    | some ds =>
      rw [q] at h
      cases h
      simp only [szD, PyData.bulk]
      exact bulk_szA xs ds q
  | .o _ _ _, _, h => by simp only [py] at h; cases h
  | .j, _, h => by simp only [py] at h; cases h
  | .c _, _, h => by simp only [py] at h; cases h
  | .T _, _, h => by simp only [py] at h; cases h
  | .q _, _, h => by simp only [py] at h; cases h
theorem bulk_szA : ∀ (xs : List D) (ds : List PyData), pyA xs = some ds → PyData.bulkAll ds = szA xs
  | [], _, h => by simp only [pyA] at h; cases h; simp only [szA, PyData.bulkAll]
  | x :: xs, ds, h => by
    simp only [pyA] at h
    cases q : py x with
    | none => rw [q] at h; cases h
    | some d =>
      cases q2 : pyA xs with
      | none => rw [q, q2] at h; cases h
      | some es =>
        rw [q, q2] at h
        cases h
        show PyData.bulkAll (d :: es) = _
        simp only [szA, PyData.bulkAll, bulk_sz x d q, bulk_szA xs es q2]
end
/-- its text -/
def shD (x : D) : Str := match py x with
  | some d => d.shown
  | none => ""
theorem reprD {k : Nat} {x : D} {Q : D → Prop} (h : RD k x) (hb : szD x ≤ 8000) (q : Q (.s (shD x))) (hk : k ≤ 32 := by decide) : wRepr [x] Q := by
  obtain ⟨d, h1, h2, h3, h4⟩ := h.py
  refine repr_of h1 h2 h4 (Nat.le_trans h3 hk) (by rw [bulk_sz x d h1]; exact hb) ?_
  unfold shD at q
  rw [h1] at q
  exact q
theorem RD.small {k : Nat} {v : Int} (h1 : -1000000000000 ≤ v) (h2 : v ≤ 1000000000000) : RD k (.i v) := .i (log2_small (Int.lt_of_lt_of_le (by decide) h1) (Int.lt_of_le_of_lt h2 (by decide)))
theorem neS_same {y : Str} {Q : D → Prop} (q : Q (.b false)) : wNeS (.s y) (.s y) Q := by
  show Q (.b (!decide (y = y)))
  rw [decide_eq_true rfl]
  exact q
/-- what follows, shown once for several ways -/
theorem once {N G : Prop} (f : N → G) (h : N) : G := f h
theorem Sel.all {P : Nat → D → Prop} : ∀ {n : Nat} {ys : List D}, Sel (fun _ => true) P n ys → ys.length = n ∧ ∀ k y, ys[k]? = some y → P k y
  | 0, ys, h => by
    cases (show ys = [] from h)
    exact ⟨rfl, fun k y q => by rw [List.getElem?_nil] at q; cases q⟩
  | n + 1, ys, h => by
    unfold Sel at h
    rw [if_pos rfl] at h
    obtain ⟨zs, y, rfl, h1, h2⟩ := h
    obtain ⟨l, g⟩ := Sel.all h1
    refine ⟨by rw [List.length_append, l]; rfl, fun k z q => ?_⟩
    by_cases hk : k < zs.length
    · rw [List.getElem?_append_left hk] at q
      exact g k z q
    · rw [List.getElem?_append_right (by omega)] at q
      have e : k = n := by
        by_cases e : k - zs.length = 0
        · omega
        · rw [List.getElem?_eq_none (by show 1 ≤ _; omega)] at q
          cases q
      subst e
      rw [l, Nat.sub_self] at q
      cases q
      exact h2
/-- each element by its place -/
theorem Sel.map {v : Nat → D} {n : Nat} {ys : List D} (h : Sel (fun _ => true) (fun k d => d = v k) n ys) : ys = (List.range n).map v := by
  obtain ⟨l, g⟩ := h.all
  refine List.ext_getElem? fun k => ?_
  by_cases hk : k < n
  · rw [List.getElem?_map, List.getElem?_range hk]
    have : ys[k]? = some ys[k] := List.getElem?_eq_getElem (by omega)
    rw [this, g k _ this]
    rfl
  · rw [List.getElem?_eq_none (by omega), List.getElem?_eq_none (by rw [List.length_map, List.length_range]; omega)]
/-- those taken, by their places -/
theorem Sel.filter {c : Nat → Bool} {v : Nat → D} : ∀ {n : Nat} {ys : List D}, Sel c (fun k d => d = v k) n ys → ys = ((List.range n).filter c).map v
  | 0, ys, h => by
    cases (show ys = [] from h)
    rfl
  | n + 1, ys, h => by
    unfold Sel at h
    rw [List.range_succ, List.filter_append, List.map_append]
    split at h
    · rename_i hc
      obtain ⟨zs, y, rfl, h1, h2⟩ := h
      rw [Sel.filter h1, h2]
      simp [List.filter_cons, hc]
    · rename_i hc
      rw [Sel.filter h]
      simp [List.filter_cons, hc]
end DL
namespace TE
open PySem PySem.Spec PyProof.Rows L2
theorem new_meets (a : Addr) (vals : Array Value) :
    Meets (Builtin.«enumerate.__new__» ⟨[.type "enumerate", .ref a], []⟩) (fun _ R s => s.heap.IsTuple a vals ∧
      R (.ok (.ret (.ref (s.heap.push { cls := .type "tuple_iterator", data := .fields #[.ref a, .int 0 0] }).objs.size)))
        { s with heap := (s.heap.push { cls := .type "tuple_iterator", data := .fields #[.ref a, .int 0 0] }).push { cls := .type "enumerate", data := .fields #[.none, .bool false, .ref s.heap.objs.size, rawInt 0, .none, .none] } }) :=
  Meets.of_wp fun P w A R s hyp => by
    have sub := sub_enumerate
    obtain ⟨hT, hR⟩ := hyp
    have it1 : ∀ {A' : Around} {E' : Value → Shared → Prop} {Q' : Value → Shared → Prop}, Q' (.ref s.heap.objs.size) { s with heap := s.heap.push { cls := .type "tuple_iterator", data := .fields #[.ref a, .int 0 0] } } → wpAny (model P w) A' (pyIter (.ref a)) Q' E' s := fun q => wpAny_pyIter_tuple hT q
    obtain ⟨_, _, _, _, _⟩ := s
    wp_walk using it1
    refine wpAny_stack_any fun _ => wpAny_pure ?_
    split
    next c _ _ _ _ _ =>
      cases (c == Value.type "enumerate") <;> (wp_walk using it1; exact ⟨_, rfl, hR⟩)
    next => wp_walk using it1; exact ⟨_, rfl, hR⟩
section
variable {prog : Program} {w : World} {A : Around} {E : Value → Shared → Prop} {s : Shared}
theorem call_enum {a : Addr} {vals : Array Value} {Q : Value → Shared → Prop} (hT : s.heap.IsTuple a vals)
    (q : ∀ h', IsEnum h' (s.heap.objs.size + 1) s.heap.objs.size 0 .none → h'.IsTupleIter s.heap.objs.size a 0 → h'.objs.size = s.heap.objs.size + 2 → (∀ b o, s.heap.get? b = some o → h'.get? b = some o) → Q (.ref (s.heap.objs.size + 1)) { s with heap := h' }) :
    wpAny (model prog w) A (call (.type "enumerate") [.ref a]) Q E s := by
  refine callType_new F.called_enumerate (by decide) (F.typeCall_enumerate_1 _) (F.newCall_enumerate_1 _) (fun ob => F.args_object_init_2 ob _) F.entry_enumerate_new (new_meets a vals) ⟨hT, ?_⟩
  have e1 : (s.heap.push { cls := .type "tuple_iterator", data := .fields #[.ref a, .int 0 0] }).objs.size = s.heap.objs.size + 1 := Heap.size_push ..
  show _ ∧ _
  rw [e1]
  have en : IsEnum ((s.heap.push { cls := .type "tuple_iterator", data := .fields #[.ref a, .int 0 0] }).push { cls := .type "enumerate", data := .fields #[.none, .bool false, .ref s.heap.objs.size, rawInt 0, .none, .none] }) (s.heap.objs.size + 1) s.heap.objs.size 0 .none := by
    have z := Heap.get?_push_size (s.heap.push { cls := .type "tuple_iterator", data := .fields #[.ref a, .int 0 0] }) (o := { cls := .type "enumerate", data := .fields #[.none, .bool false, .ref s.heap.objs.size, rawInt 0, .none, .none] }) rfl
    rw [e1] at z
    exact z
  exact ⟨⟨_, en, rfl⟩, q _ en ⟨_, Heap.get?_push_of_some _ (Heap.get?_push_size _ rfl), rfl, rfl⟩ (by rw [Heap.size_push, e1]) fun b o z => Heap.get?_push_of_some _ (Heap.get?_push_of_some _ z)⟩
end
/-- the tuple at a, each item in a new pair with its place -/
def Iet (K : PySem.W.Frag) (a : Addr) : It :=
  ⟨fun i H => ∃ (xs : List V) (x : V), SqT K H a xs ∧ xs[i]? = some x, fun i H v H' => ∃ T x, v = .ref T ∧ H T = none ∧ H' = upd H T (.tup [.int (i : Nat), x]) ∧ ∀ xs, SqT K H a xs → xs[i]? = some x, fun i H => ∃ xs : List V, SqT K H a xs ∧ xs.length = i⟩
theorem turn_et {P : Program} {w : World} {K : PySem.W.Frag} {elts : List Expr} {kk : Nat} {tpos : Pos} (a e it : Addr) :
    Turn P w K (.Tuple elts kk tpos) (Iet K a) [e, it] e (fun i h => (∃ old, IsEnum h e it ((i : Nat) : Int) old) ∧ h.IsTupleIter it a i ∧ e ≠ it ∧ a ≠ it ∧ a ≠ e) where
  mem := List.mem_cons_self ..
  obj := fun i h st b hb => by
    obtain ⟨⟨old, he⟩, ⟨o, ho, hc, hd⟩, _⟩ := st
    rcases List.mem_cons.mp hb with rfl | hb
    · exact ⟨_, he, fun v z => (nomatch z)⟩
    · rcases List.mem_cons.mp hb with rfl | hb
      · exact ⟨o, ho, fun v z => by rw [hd] at z; cases z⟩
      · cases hb
  keep := fun i h h' st kp => ⟨let ⟨⟨old, he⟩, _⟩ := st; ⟨old, kp e (by simp) _ he⟩, st.2.1.at fun o z => kp it (by simp) o z, st.2.2⟩
  item := by
    intro X hP hw hK hc i pins s σ H E I hf st hg
    subst hP hw hK
    obtain ⟨⟨old, he⟩, hit, ne, na, nb⟩ := st
    obtain ⟨xs, x, hq, hx⟩ := hg
    obtain ⟨its, rv, pl, hz⟩ := I.tuple hq
    obtain ⟨u, hu, ru⟩ := rv.get hx
    have le : e < s.heap.objs.size := Heap.lt_size he
    have li : it < s.heap.objs.size := by
      obtain ⟨_, z, _⟩ := hit
      exact Heap.lt_size z
    have tp : s.heap.IsTuple a its.toArray := pl
    have hlt : i < its.toArray.size := by
      rw [List.size_toArray, ← rv.length]
      exact (List.getElem?_eq_some_iff.mp hx).1
    refine wpAny_pyNext_enum_itemD (Draws.tuple (A := X.A.in1) (I.ok.hd hc) it a na its.toArray) he ⟨hit, tp⟩ hlt ne (fun z => ?_) fun y h' tk hy ho st' hT hsz hk => ?_
    · rcases List.mem_cons.mp z with z | z
      · exact ne z
      · rcases List.mem_cons.mp z with z | z
        · exact nb z.symm
        · cases z
    have ey : y = u := by
      rw [List.getElem?_toArray, hu] at hy
      exact (Option.some.inj hy).symm
    subst ey
    refine ⟨_, rfl, wpAny_letOwnedTupleGo_enum (s := { s with heap := h', toks := tk + 1 }) ho fun h2 he' sb => ?_⟩
    have hT2 := (sb.2 _ (Nat.ne_of_gt le)).trans hT
    have new : ObjOk X.prog X.w (upd H s.heap.objs.size (.tup [.int (i : Nat), x])) h2 s.heap.objs.size (.tup [.int (i : Nat), x]) :=
      ⟨by show 2 ≤ sizeLine; decide, [.int i tk, y], .cons ⟨_, rfl⟩ (.cons ru .nil), ⟨_, hT2, rfl, _, rfl⟩⟩
    have J : L2.Inv X pins σ (upd H s.heap.objs.size (.tup [.int (i : Nat), x])) { s with heap := h2, toks := tk + 1 } :=
      I.turnedNew (ch := [e, it]) (fun b ob nb q => by
        have n1 : b ≠ e := fun z => nb (by rw [z]; exact List.mem_cons_self ..)
        have n2 : b ≠ it := fun z => nb (by rw [z]; exact List.mem_cons_of_mem _ (List.mem_cons_self ..))
        exact (sb.2 b n1).trans (hk b ob n1 n2 q)) hf (Nat.le_refl _) new
    refine ⟨.ref s.heap.objs.size, _, J, rfl, ⟨_, x, rfl, I.hok.fresh (Nat.le_refl _), rfl, fun ys hy => by rw [I.tuple_inj hy hq]; exact hx⟩, ⟨⟨y, ?_⟩, st'.1.at fun o q => (sb.2 it (Ne.symm ne)).trans q, ne, na, nb⟩, fun b hb => ?_⟩
    · rw [show ((i + 1 : Nat) : Int) = (i : Int) + 1 by omega]
      exact he'
    · have lb : b < s.heap.objs.size := by
        rcases List.mem_cons.mp hb with rfl | hb
        · exact le
        · rcases List.mem_cons.mp hb with rfl | hb
          · exact li
          · cases hb
      rw [upd_ne (Nat.ne_of_lt lb)]
      exact (hf b hb).1
  done := by
    intro X hP hw hK hc i pins s σ H E I hf st hg
    subst hP hw hK
    obtain ⟨⟨old, he⟩, hit, ne, na, nb⟩ := st
    obtain ⟨xs, hq, hx⟩ := hg
    obtain ⟨its, rv, pl, hz⟩ := I.tuple hq
    have tp : s.heap.IsTuple a its.toArray := pl
    obtain ⟨f0, f1, f2, f3, f4, f5⟩ := hf it (by simp)
    have en : i = its.toArray.size := by
      rw [List.size_toArray, ← rv.length]
      exact hx.symm
    exact wpAny_pyNext_enum_endD (Draws.tuple (A := X.A.in1) (I.ok.hd hc) it a na its.toArray) he ⟨en ▸ hit, tp⟩ fun h' eb => ⟨rfl, I.turned (t' := s.toks) (fun b o hb q => eb b o hb q) f0 f1 f3 f4 f5⟩
  self := fun A i s Q E st h => let ⟨⟨_, he⟩, _⟩ := st; wpAny_pyIter_enum he h
def iEt (K : PySem.W.Frag) (ta : TA) : TI := fun σ H R => ta σ H fun vs H1 => ∃ a xs, vs = [.ref a] ∧ SqT K H1 a xs ∧ R (Iet K a) H1
theorem kx_enumT (K : PySem.W.Frag) {X : Cx} {e : Expr} {ta : TA} {p pos tpos : Pos} {elts : List Expr} {kk : Nat} (hg : Gl X "enumerate") (hm : X.mg "enumerate" = none) (ha : PA X [e] ta) (hs : starEach [e] X.env = [(false, eval e X.env)] := by rfl) (hK : X.K = K := by rfl) :
    PI X (.Tuple elts kk tpos) (.Call (.Name "enumerate" p) [e] [] pos) (iEt K ta) := by
  subst hK
  refine ⟨fun pins s σ H R I h => ?_⟩
  refine Call_ (ld_blt I hg hm boot_enumerate (PyProof.Rows.callWith_type1 (thn (ha.run pos pins s σ H _ I h) fun us s1 ⟨vs, H1, I1, r1, q1⟩ => ?_) hs rfl))
  obtain ⟨a, xs, rfl, hq, q⟩ := q1
  rw [Vals.ref1 r1]
  obtain ⟨its, rv, pl, hz⟩ := I1.tuple hq
  have tp : s1.heap.IsTuple a its.toArray := pl
  have la : a < s1.heap.objs.size := by
    obtain ⟨o, ho, _⟩ := tp
    exact Heap.lt_size ho
  refine call_enum tp fun h' he hit hsz hk => wpAny_pyIter_enum he ?_
  refine ⟨s1.heap.objs.size + 1, [s1.heap.objs.size + 1, s1.heap.objs.size], _, _, H1, rfl, I1.kept (t' := s1.toks) hk, turn_et a _ s1.heap.objs.size, ⟨⟨.none, he⟩, hit, Nat.succ_ne_self _, Nat.ne_of_lt la, Nat.ne_of_lt (Nat.lt_succ_of_lt la)⟩, fun b hb => ?_, q⟩
  have le : s1.heap.objs.size ≤ b := by
    rcases List.mem_cons.mp hb with rfl | hb
    · exact Nat.le_succ _
    · rcases List.mem_cons.mp hb with rfl | hb
      · exact Nat.le_refl _
      · cases hb
  exact I1.fpOk le (I1.hok.fresh le)
theorem walk_et {K : PySem.W.Frag} {a : Addr} {xs : List V} : Walk (Iet K a) xs.length (fun H => SqT K H a xs) (YPair (fun i => some (.int (i : Nat))) (fun i => xs[i]?)) where
  goes := fun i _ hi q => ⟨xs, xs[i], q, List.getElem?_eq_getElem hi⟩
  stops := fun _ q => ⟨xs, q, rfl⟩
  yields := fun i H v H' _ q ⟨T, x, h1, h2, h3, h4⟩ => ⟨T, .int (i : Nat), x, h1, h2, h3, rfl, h4 xs q⟩
end TE
namespace DL
open PySem PySem.Spec PyProof.Rows L2 Evl Lay ErrX TE
section
variable {K : PySem.W.Frag}
def wItEt (a : WA) : WA := fun Γ Q => a Γ fun ds => match ds with
  | [.t xs] => Q (enumD 0 xs)
  | _ => False
theorem i_enumT {ta : TA} {wa : WA} (h : AOk K ta wa) : IOk K (iEt K ta) (wItEt wa) := fun Γ Q hq F0 H0 F H σ r QI w =>
  h Γ _ hq F0 H0 F H σ r _ fun vs ds F1 H1 z e1 ra => by
    cases ra with
    | nil => exact z.elim
    | cons a ra =>
      cases ra with
      | cons _ _ => cases a <;> exact z.elim
      | nil =>
        cases a with
        | @t p vs xs hp ra =>
          refine ⟨p, vs, rfl, ex_t e1.fh hp, w _ _ F1 H1 z e1 ⟨fun H => SqT K H p vs, YPair (fun i => some (.int (i : Nat))) (fun i => vs[i]?), ?_, fun F2 H2 a b => ex_t b (ex_t a hp), fun k F2 H2 v H3 lt a b y => ?_⟩⟩
          · rw [enumD_len, ← ra.len]
            exact walk_et (xs := vs)
          · obtain ⟨T, x, y, rfl, hT, rfl, q1, q2⟩ := y
            cases q1
            obtain ⟨d, q3, q4⟩ := ra.walk a q2
            obtain ⟨F3, x3, r3⟩ := pair_ok b hT (.i (k : Nat)) q4
            refine ⟨F3, _, enumD_get (k := 0) q3, x3, ?_⟩
            rw [Nat.zero_add]
            exact r3
        | _ => exact z.elim
end
end DL
namespace TSet
open PySem PySem.Spec PyProof.Rows L2
section
variable {P : Program} {w : World} {A : Around} {E : Value → Shared → Prop} {s : Shared}
variable {m : Addr} {Ks : List (Addr × List Int)} {rows : Array (Int × Value)} {era : Nat} {tab : SetTable}
/-- the way through the table, asked without adding -/
theorem look (R : SetTR P w s.heap m Ks rows era tab) {x : Addr} {k : List Int} (hx : IsT P w s.heap k x) (hu : A.units < cLine) {N : Nat} (hN : N < 10 * SetTable.turns tab.mask)
    (free : way tab.mask (thash P w k) N ∉ tab.place.toList) (full : ∀ c, c < N → way tab.mask (thash P w k) c ∈ tab.place.toList) {Q : SetFound → Shared → Prop}
    (yes : k ∈ Ks.map (·.2) → ∀ i, Q (.there (some i)) s) (no : k ∉ Ks.map (·.2) → ∀ j, Q (.free j false) s) :
    ∀ (fuel c : Nat) (at' : Option SetTable.Probe), at'.getD (tab.probeStart (thash P w k)) = nth tab.mask (runAt tab.mask (SetTable.bits (thash P w k) % (tab.mask + 1)) (SetTable.bits (thash P w k))) c → c ≤ N → N - c < fuel →
      (∀ (i : Nat) p, Ks[i]? = some p → p.2 = k → ∃ c', c ≤ c' ∧ c' < N ∧ tab.place.toList[i]? = some (way tab.mask (thash P w k) c')) →
      wpAny (model P w) A (setSearchFrom m (.ref x) (thash P w k) false fuel at') Q E s := by
  intro fuel
  induction fuel with
  | zero => exact fun c _ _ _ lt _ => absurd lt (Nat.not_lt_zero _)
  | succ fuel ih =>
    intro c at' hat hc lt held
    obtain ⟨ob, hob, ex, dat⟩ := R.ob
    rw [setSearchFrom_succ]
    refine wpAny_bind (wpAny_setState_of hob dat R.fits ?_)
    dsimp only
    refine wp_if_neg R.gw ?_
    try refine wpAny_bind (wpAny_pure ?_)
    generalize hp0 : runAt tab.mask (SetTable.bits (thash P w k) % (tab.mask + 1)) (SetTable.bits (thash P w k)) = p0 at hat
    have wayq : ∀ q, way tab.mask (thash P w k) q = (nth tab.mask p0 q).j := fun q => by rw [← hp0]
    have plain : (nth tab.mask p0 c).dummy = none := by
      have step : ∀ (n : Nat) (p : SetTable.Probe), p.dummy = none → (nth tab.mask p n).dummy = none := by
        intro n
        induction n with
        | zero => exact fun _ h => h
        | succ n ihn =>
          intro p h
          refine ihn (adv tab.mask p) ?_
          unfold adv
          split <;> exact h
      refine step c _ ?_
      rw [← hp0]
      rfl
    have sum : ∀ q, nth tab.mask (nth tab.mask p0 c) q = nth tab.mask p0 (c + q) := fun q => (nth_add tab.mask c p0 q).symm
    have got := go_spec tab R.tab.ris R.tab.dm (fun i => (rows[i]?.map (·.1)).getD 0) (thash P w k) (10 * SetTable.turns tab.mask) (N - c) (nth tab.mask p0 c) plain (by omega)
      (fun q hq => by rw [sum, ← wayq]; exact full (c + q) (by omega)) (by rw [sum, ← wayq, show c + (N - c) = N by omega]; exact free)
    have hash : ∀ (i : Nat) p, Ks[i]? = some p → (rows[i]?.map (·.1)).getD 0 = thash P w p.2 := fun i p hp => by rw [R.entry hp]; rfl
    rcases got with ⟨q, i, hq, hi, hh, first, found⟩ | ⟨none', found⟩
    · have prb : tab.probe (fun i => (rows[i]?.map (·.1)).getD 0) (thash P w k) (at'.getD (tab.probeStart (thash P w k))) = some (.candidate (way tab.mask (thash P w k) (c + q)) i (nth tab.mask p0 (c + (q + 1)))) := by
        rw [hat, wayq, ← sum, ← sum]
        exact found
      rw [prb]
      dsimp only
      rw [sum, ← wayq] at hi
      have il : i < Ks.length := by
        have z1 := (List.getElem?_eq_some_iff.mp hi).1
        have z2 := R.tab.sz
        rw [List.length_map] at z2
        rw [Array.length_toList] at z1
        omega
      have hKi : Ks[i]? = some Ks[i] := List.getElem?_eq_getElem il
      generalize Ks[i] = pr at hKi
      have mem := List.mem_of_getElem? hKi
      have tail : wpAny (model P w) A (searchRest m (.ref x) (thash P w k) false fuel rows tab (way tab.mask (thash P w k) (c + q)) i (nth tab.mask p0 (c + (q + 1)))) Q E s := by
        unfold searchRest
        rw [R.entry hKi]
        dsimp only
        refine wpAny_bind (wpAny_holding (wpAny_eqBool_tuple hu (R.tup pr mem) hx ?_))
        refine wpAny_bind (wpAny_setState_of hob dat R.fits ?_)
        dsimp only
        refine wp_if_neg (by simp) ?_
        try refine wpAny_bind (wpAny_pure ?_)
        rw [sameMem]
        dsimp only
        have live := slot_live R.tab.ris hi
        simp only [if_true, live, R.entry hKi]
        refine wpAny_bind (wpAny_isSame_ref_self (wpAny_bind (wpAny_pure ?_)))
        simp only [if_true]
        by_cases hk : pr.2 = k
        · refine wp_if_pos (by simp [hk]) ?_
          exact wpAny_pure (yes (List.mem_map.mpr ⟨pr, mem, hk⟩) i)
        · refine wp_if_neg (by simp [hk]) ?_
          refine ih (c + (q + 1)) _ (by rw [hp0]; rfl) (by omega) (by omega) fun i0 p1 h0 hk0 => ?_
          obtain ⟨c', b1, b2, b3⟩ := held i0 p1 h0 hk0
          refine ⟨c', ?_, b2, b3⟩
          rcases Nat.lt_trichotomy c' (c + q) with z | z | z
          · refine absurd ((hash i0 p1 h0).trans (congrArg (thash P w) hk0)) (first (c' - c) i0 (by omega) ?_)
            rw [sum, ← wayq, show c + (c' - c) = c' by omega]
            exact b3
          · rw [z] at b3
            have l0 := slot_live R.tab.ris b3
            rw [live] at l0
            injection l0 with l0
            rw [← l0, hKi] at h0
            exact absurd ((congrArg Prod.snd (Option.some.inj h0)).trans hk0) hk
          · omega
      by_cases led : tab.led = true
      · refine wp_if_neg (by simp [led]) ?_
        try refine wpAny_bind (wpAny_pure ?_)
        exact tail
      · refine wp_if_pos (by simp [led]) (wpAny_bind (seen_tup hx (fun y hy => ?_) ?_))
        · obtain ⟨en, hen, rfl⟩ := List.mem_map.mp hy
          have inr : en ∈ rows.toList := by
            have : en ∈ rows ∧ en.1 = thash P w k := by simpa using hen
            simpa using this.1
          rw [R.rows] at inr
          obtain ⟨p2, m2, rfl⟩ := List.mem_map.mp inr
          exact ⟨p2.2, p2.1, rfl, R.tup p2 m2⟩
        · refine wp_if_neg (by decide) ?_
          try refine wpAny_bind (wpAny_pure ?_)
          exact tail
    · have prb : tab.probe (fun i => (rows[i]?.map (·.1)).getD 0) (thash P w k) (at'.getD (tab.probeStart (thash P w k))) = some (.empty (way tab.mask (thash P w k) N) none) := by
        have e2 : way tab.mask (thash P w k) N = (nth tab.mask (nth tab.mask p0 c) (N - c)).j := by rw [sum, ← wayq, show c + (N - c) = N by omega]
        rw [hat, e2]
        exact found
      rw [prb]
      dsimp only
      refine wpAny_pure (no (fun hm => ?_) _)
      obtain ⟨p1, m1, hk1⟩ := List.mem_map.mp hm
      obtain ⟨i0, l0, e0⟩ := List.getElem_of_mem m1
      have h0 : Ks[i0]? = some p1 := by rw [List.getElem?_eq_getElem l0, e0]
      obtain ⟨c', b1, b2, b3⟩ := held i0 p1 h0 hk1
      refine none' (c' - c) i0 (by omega) ?_ ((hash i0 p1 h0).trans (congrArg (thash P w) hk1))
      rw [sum, ← wayq, show c + (c' - c) = c' by omega]
      exact b3
theorem find (R : SetTR P w s.heap m Ks rows era tab) {x : Addr} {k : List Int} (hx : IsT P w s.heap k x) (hu : A.units < cLine) {Q : Option Nat → Shared → Prop} (yes : k ∈ Ks.map (·.2) → ∀ i, Q (some i) s) (no : k ∉ Ks.map (·.2) → Q none s) :
    wpAny (model P w) A (setFind m (.ref x) (thash P w k)) Q E s := by
  have room := R.room
  obtain ⟨N, n1, n2, n3⟩ := R.tab.first (by rw [List.length_map]; omega) (thash P w k)
  have few : N < 100000 := by
    have : 10 * SetTable.turns tab.mask ≤ 1420 := by
      unfold SetTable.turns
      rcases R.tab.mok with e | e | e <;> omega
    omega
  obtain ⟨ob, hob, ex, dat⟩ := R.ob
  unfold setFind setFindIn
  refine wpAny_bind (wpAny_setState_of hob dat R.fits ?_)
  dsimp only
  refine wp_if_neg (by simp [byScan, Value.scannable]) ?_
  try refine wpAny_bind (wpAny_pure ?_)
  unfold setSearch
  refine wpAny_bind (look R hx hu n1 n2 n3 (fun h i => wpAny_pure (yes h i)) (fun h j => wpAny_pure (no h)) 100000 0 none rfl (Nat.zero_le _) (by omega) fun i p hp hk => ?_)
  have hi : (Ks.map fun p => thash P w p.2)[i]? = some (thash P w k) := by rw [List.getElem?_map, hp, ← hk]; rfl
  have il : i < tab.place.toList.length := by
    have z1 := (List.getElem?_eq_some_iff.mp hp).1
    have z2 := R.tab.sz
    rw [List.length_map] at z2
    rw [Array.length_toList]
    omega
  obtain ⟨c, hc, e⟩ := R.tab.before n2 hi (List.getElem?_eq_getElem il)
  exact ⟨c, Nat.zero_le _, hc, by rw [List.getElem?_eq_getElem il, e]⟩
theorem typ (R : SetTR P w s.heap m Ks rows era tab) : s.TypeIs (.ref m) "set" := let ⟨o, h, e, _⟩ := R.ob; ⟨o, h, e.1⟩
/-- x in m -/
theorem isIn (R : SetTR P w s.heap m Ks rows era tab) {x : Addr} {k : List Int} (hx : IsT P w s.heap k x) (hu : A.units + 64 < cLine) {Q : Value → Shared → Prop} (q : Q (.bool (decide (k ∈ Ks.map (·.2)))) { s with toks := s.toks + (k.length + 1) }) :
    wpAny (model P w) A (compareOp .In (.ref x) (.ref m)) Q E s := by
  have ty := typ R
  show wpAny _ _ (do return .bool (← contains (.ref m) (.ref x))) Q E s
  refine wpAny_bind ?_
  unfold contains
  try with_reducible refine wpAny_holding ?_
  refine wpAny_bind (wpAny_specialOf ty F.slot_set_contains.lookup ?_)
  show wpAny _ _ (if (some (Value.builtin "set.__contains__") == some Value.none) = true then _ else _) _ E s
  rw [if_neg (by rw [beq_builtin_none]; exact Bool.false_ne_true)]
  refine wpAny_bind (wpAny_callSpecialUnlessNone?_slot (name := Str.ofString "__contains__") ty F.slot_set_contains (wpAny_call_entry F.slot_set_contains ty entry_set_contains ?_ (F.args_set_contains_2 _ _)))
  unfold Builtin.«frozenset.__contains__» Builtin.Frozenset.oneOther
  simp only [List.isEmpty_nil, bind_assoc]
  unfold Builtin.Frozenset.addrOf Builtin.Frozenset.withSetAsKey setContains
  refine wpAny_bind (wpAny_pure ?_)
  try dsimp only
  refine wpAny_bind (wpAny_pure ?_)
  try dsimp only
  refine wpAny_bind (wpAny_tryCatch (wpAny_holding (wpAny_bind (wpAny_pyHash_tuple (by show A.units + 1 < _ ; omega) hx ?_))))
  refine wpAny_bind (find (s := { s with toks := s.toks + (k.length + 1) }) R hx (by show A.units + 1 < _; omega) (fun h i => ?_) fun h => ?_)
  · refine wpAny_pure ?_
    show wpAny _ _ (ret (Value.bool true)) _ _ _
    rw [decide_eq_true h] at q
    exact wpAny_pure ⟨_, rfl, wpAny_truthy_bool (wpAny_pure q)⟩
  · refine wpAny_pure ?_
    show wpAny _ _ (ret (Value.bool false)) _ _ _
    rw [decide_eq_false h] at q
    exact wpAny_pure ⟨_, rfl, wpAny_truthy_bool (wpAny_pure q)⟩
/-- m.add(x) -/
theorem add (R : SetTR P w s.heap m Ks rows era tab) {x : Addr} {k : List Int} (hx : IsT P w s.heap k x) (hu : A.units + 64 < cLine) (few : Ks.length + 1 < 64) {Q : Value → Shared → Prop}
    (q : ∀ h' L' r' e' t', Heap.SameBut m s.heap h' → SetTR P w h' m L' r' e' t' → (k ∈ Ks.map (·.2) → L' = Ks) → (k ∉ Ks.map (·.2) → L'.Perm ((x, k) :: Ks)) → Q .none { s with heap := h', toks := s.toks + (k.length + 1) }) :
    wpAny (model P w) A (call (.builtin "set.add") [.ref m, .ref x]) Q E s := by
  refine wpAny_call_entry F.slot_set_add (typ R) F.entry_set_add ?_ (F.args_set_add_2 _ _)
  unfold Builtin.«set.add» Builtin.Frozenset.oneOther
  simp only [List.isEmpty_nil, bind_assoc]
  unfold Builtin.Frozenset.addrOf setAdd
  refine wpAny_bind (wpAny_pure ?_)
  try dsimp only
  refine wpAny_bind (wpAny_pure ?_)
  try dsimp only
  refine wpAny_bind (wpAny_holding (wpAny_bind (wpAny_pyHash_tuple (by show A.units + 1 < _; omega) hx ?_)))
  refine add_at (s := { s with toks := s.toks + (k.length + 1) }) R hx (by show A.units + 1 < _; omega) few fun b h' L' r' e' t' sb R' y n => ?_
  show wpAny _ _ (ret Value.none) _ _ _
  exact wpAny_pure ⟨_, rfl, q h' L' r' e' t' sb R' y n⟩
end
section
variable {X : Cx}
theorem full {pins : List (Addr × Obj)} {σ : L2.St} {H : Hp} {s : Shared} {m : Addr} {Ks : List (Addr × List Int)} (I : L2.Inv X pins σ H s) (hm : H m = some (SetTO X.prog X.w m Ks)) (ht : ∀ p ∈ Ks, SqT X.K H p.1 (p.2.map V.int)) : ∃ rows era tab, SetTR X.prog X.w s.heap m Ks rows era tab :=
  (show SetT0 X.prog X.w s.heap m Ks from (I.hok m _ hm).1).full fun p hp => I.isT (ht p hp)
/-- the addition seen from above -/
theorem add_up {pins : List (Addr × Obj)} {σ : L2.St} {H : Hp} {s : Shared} {E : Value → Shared → Prop} {m x : Addr} {k : List Int} {Ks : List (Addr × List Int)} {Q : Value → Shared → Prop} (hu : X.A.units + 64 < cLine) (I : L2.Inv X pins σ H s) (hm : H m = some (SetTO X.prog X.w m Ks)) (ht : ∀ p ∈ Ks, SqT X.K H p.1 (p.2.map V.int)) (hx : SqT X.K H x (k.map V.int)) (few : Ks.length + 1 < 64)
    (q : ∀ s' L', (k ∈ Ks.map (·.2) → L' = Ks) → (k ∉ Ks.map (·.2) → L'.Perm ((x, k) :: Ks)) → L2.Inv X pins σ (upd H m (SetTO X.prog X.w m L')) s' → Q .none s') : wpAny (model X.prog X.w) X.A (call (.builtin "set.add") [.ref m, .ref x]) Q E s := by
  obtain ⟨rows, era, tab, R⟩ := full I hm ht
  refine add R (I.isT hx) hu few fun h' L' r' e' t' sb R' y n => q _ L' y n ?_
  have alive : ∃ u, h'.get? m = some u := let ⟨o, z, _⟩ := R'.ob; ⟨o, z⟩
  exact I.write (e := m) (t' := s.toks + (k.length + 1)) (by rw [hm]; trivial) (.inl rfl) (fun b u nb z => (sb.2 b nb).trans z) alive (setTO_new R'.t0)
/-- set() -/
def rNew (P : Program) (w : World) : List V → Hp → VK → Prop := fun xs H Q => xs = [] ∧ ∀ p, H p = none → Q (.ref p) (upd H p (SetTO P w p []))
theorem cr_new : CallR X (.type "set") (rNew X.prog X.w) := by
  intro pins s σ H xs us Q I r h
  obtain ⟨rfl, q⟩ := h
  cases r
  refine setR_new fun _ => ?_
  exact ⟨.ref _, _, I.laid (t' := s.toks) (fun b u z => Heap.get?_push_of_some _ z) (Nat.le_refl _) (setTO_new (setTR_fresh (P := X.prog) (w := X.w) (Heap.get?_push_size _ rfl)).t0), rfl, q _ (I.hok.fresh (Nat.le_refl _))⟩
/-- x in m -/
def rIn (K : PySem.W.Frag) (P : Program) (w : World) : R2 := fun x y H Q => ∃ (b m : Addr) (k : List Int) (Ks : List (Addr × List Int)), x = .ref b ∧ y = .ref m ∧ SqT K H b (k.map V.int) ∧ H m = some (SetTO P w m Ks) ∧ (∀ p ∈ Ks, SqT K H p.1 (p.2.map V.int)) ∧ Q (.bl (decide (k ∈ Ks.map (·.2)))) H
theorem op_in (hu : X.A.units + 64 < cLine) : OpR X (compareOp .In) (rIn X.K X.prog X.w) := by
  intro pins s σ H x y v u Q I rx ry h
  obtain ⟨b, m, k, Ks, rfl, rfl, hb, hm, ht, q⟩ := h
  cases rx
  cases ry
  obtain ⟨rows, era, tab, R⟩ := full I hm ht
  exact isIn R (I.isT hb) hu ⟨.bl _, H, I.tok _, rfl, q⟩
/-- m.add(e) -/
def tAdd (K : PySem.W.Frag) (P : Program) (w : World) (to : TE) (ta : TA) : TE := fun σ H Q => to σ H fun x H1 => (∃ m Ks, x = V.ref m ∧ H1 m = some (SetTO P w m Ks)) ∧ ta σ H1 fun xs H2 => ∃ (m b : Addr) (k : List Int) (Ks : List (Addr × List Int)), x = .ref m ∧ xs = [.ref b] ∧ H2 m = some (SetTO P w m Ks) ∧ (∀ p ∈ Ks, SqT K H2 p.1 (p.2.map V.int)) ∧ SqT K H2 b (k.map V.int) ∧ Ks.length + 1 < 64 ∧
  ∀ L', (k ∈ Ks.map (·.2) → L' = Ks) → (k ∉ Ks.map (·.2) → L'.Perm ((b, k) :: Ks)) → Q .non (upd H2 m (SetTO P w m L'))
theorem pe_add {o e : Expr} {to : TE} {t : TA} {apos cpos : Pos} (hu : X.A.units + 64 < cLine) (ho : PE X o to) (ha : PA X [e] t) (hbase : attributeBase o "add" X.env (eval o X.env) = eval o X.env := by rfl)
    (hfew : ((backTo cpos (starEach [e] X.env)).all (fun x => !x.1) && (backToKw cpos (keywordEach [] X.env)).all (fun x => x.1.isSome) && decide (([e] : List Expr).length + ([] : List Keyword).length + (if ([] : List Keyword).isEmpty then 0 else 1) < 30)) = true := by rfl)
    (hline : (apos.endLine == cpos.line) = true := by rfl) (hs : starEach [e] X.env = (false, eval e X.env) :: starEach [] X.env := by rfl) (hplain : (backTo cpos (starEach [] X.env)).any (·.1) = false := by rfl) :
    PE X (.Call (.Attribute o "add" apos) [e] [] cpos) (tAdd X.K X.prog X.w to t) := by
  refine ⟨fun pins s σ H Q I h => wpAny_Call_method_late hbase hfew hline rfl (thn (ho.run pins s σ H _ I h) fun v s1 ⟨x, H1, I1, r1, ty, q1⟩ => ?_)⟩
  obtain ⟨m, Ks, rfl, hm⟩ := ty
  cases r1
  obtain ⟨es, ep, t1, ⟨ob, hob, ex, _⟩, _⟩ := (show SetT0 X.prog X.w s1.heap m Ks from (I1.hok m _ hm).1).ex
  refine ⟨"set", "set.add", F.plainAttrs_set, F.slot_set_add, F.type_set_add, ⟨ob, hob, ex.1⟩, ?_, ?_⟩
  · intro b z
    cases z
    exact ⟨ob, hob, ex.2.1⟩
  have run := ha.run cpos pins s1 σ H1 _ I1 q1
  rw [hs] at run ⊢
  refine Calls.callWith_builtin (by show (false || (backTo cpos (starEach [] X.env)).any (·.1)) = false; rw [hplain]; rfl) (Calls.evalArgs_plain (thn run fun us s2 ⟨vs, H2, I2, r2, q2⟩ => ?_))
  obtain ⟨m', b, k, Ks', e1, rfl, hm2, ht2, hb2, few, q3⟩ := q2
  cases e1
  rw [Vals.ref1 r2]
  exact add_up hu I2 hm2 ht2 hb2 few fun s' L' y n J => ⟨.non, _, J, rfl, q3 L' y n⟩
/-- {e for target in iter if ..}, e a tuple of ints: at M the new set, the ledger of what it holds within -/
def tSct (K : PySem.W.Frag) (P : Program) (w : World) (wi : TI) (g : TG) (tt : TT) (te : TE) (vs : List Nat) : TE := fun σ H Q => wi σ H fun J H1 => ∀ M, H1 M = none → ∃ W : Nat → Nat → Hp → Prop, (∃ n, W 0 n (upd H1 M (SetTO P w M []))) ∧ ∀ i n H2, W i n H2 →
  (J.stop i H2 ∧ Q (.ref M) H2) ∨ (J.go i H2 ∧ ∃ Nx : Hp → Prop, (∀ H', Nx H' → ∃ n', n' < n ∧ W (i + 1) n' H') ∧ ∀ x H', J.yld i H2 x H' → g x (wipe σ vs) H' fun σ2 H3 => wipe σ2 vs = wipe σ vs ∧ tt σ2 H3 fun b H4 =>
    if b = true then te σ2 H4 fun y H5 => ∃ (a : Addr) (k : List Int) (L : List (Addr × List Int)), y = .ref a ∧ SqT K H5 a (k.map V.int) ∧ H5 M = some (SetTO P w M L) ∧ (∀ p ∈ L, SqT K H5 p.1 (p.2.map V.int)) ∧ L.length + 1 < 64 ∧
      ∀ L', (k ∈ L.map (·.2) → L' = L) → (k ∉ L.map (·.2) → L'.Perm ((a, k) :: L)) → Nx (upd H5 M (SetTO P w M L')) else Nx H4)
theorem pe_sct {elt tg iter : Expr} {ifs : List Expr} {scope : Scope} {own : List (PySem.Str × Nat)} {pos : Pos} {wi : TI} {g : TG} {tt : TT} {te : TE} (calm : X.calm = true) (hu : X.A.units + 64 < cLine) (nd : X.N.Nodup) (pi : PI X tg iter wi) (blk : BlkOk X.N X.env.scope scope own)
    (pgs : ∀ (s : Shared) (H : Hp) (C : Addr) (cl : List (PySem.Str × Addr)) (fp : List Addr), PG (X.blk s H scope (compEnvC scope cl C X.env) fp) tg g)
    (pts : ∀ (s : Shared) (H : Hp) (C : Addr) (cl : List (PySem.Str × Addr)) (fp : List Addr), PTs (X.blk s H scope (compEnvC scope cl C X.env) fp) ifs tt)
    (pes : ∀ (s : Shared) (H : Hp) (C : Addr) (cl : List (PySem.Str × Addr)) (fp : List Addr), PE (X.blk s H scope (compEnvC scope cl C X.env) fp) elt te) (fold : ∀ x, foldedSetIterable iter X.env x = pure x := by intro _; rfl) :
    PE X (.SetComp elt [⟨tg, iter, ifs, 0⟩] scope pos) (tSct X.K X.prog X.w wi g tt te (own.map (·.2))) := by
  refine ⟨fun pins s σ H Q I hq => ?_⟩
  rw [PpSet.eval_SetComp]
  have cap : ∀ y ∈ scope.names, y.2 = .free → ∃ c, X.env.cells.lookup y.1 = some c := fun y hy e => (blk.free y hy e).elim (fun z => I.ok.has _ (.inl z)) (fun z => I.ok.has _ (.inr z))
  refine wpAny_comprehension_free (use := none) rfl fold (closure_ok cap) blk.kind (fun y hy e => by rw [blk.uniq y hy, e]) (thn (pi.run pins s σ H _ I hq) fun xv s1 hx => thn hx fun itv s2 hit => ?_)
  obtain ⟨it, fp, tn, J, H2, rfl, I2, T, st2, f2, q⟩ := hit
  refine PpSet.newSet_ok (newEnv_comp ?_)
  generalize eM : s2.heap.objs.size = M
  have noM : H2 M = none := I2.hok.fresh (Nat.le_of_eq eM)
  obtain ⟨W, ⟨n0, w0⟩, go⟩ := q M noM
  generalize e3 : ({ s2 with heap := s2.heap.push { cls := .type "set", dict := none, data := .set #[] 0 (.fresh 0 0 (!X.w.params.followText "set-order")) } } : Shared) = s3
  have p3 : s3.heap = s2.heap.push { cls := .type "set", dict := none, data := .set #[] 0 (.fresh 0 0 (!X.w.params.followText "set-order")) } := by rw [← e3]
  have I3 : L2.Inv X pins σ (upd H2 M (SetTO X.prog X.w M [])) s3 := by
    rw [← e3]
    refine I2.laid (t' := s2.toks) (fun b o z => Heap.get?_push_of_some _ z) (Nat.le_of_eq eM) (setTO_new (setTR_fresh (P := X.prog) (w := X.w) ?_).t0)
    rw [← eM]
    exact Heap.get?_push_size _ rfl
  have old : ∀ b ∈ fp, b < s2.heap.objs.size := fun b hb => let ⟨o, z, _⟩ := T.obj _ _ st2 b hb; Heap.lt_size z
  have f3 : ∀ b ∈ fp, FpOk X pins (upd H2 M (SetTO X.prog X.w M [])) b ∧ b < s3.heap.objs.size := fun b hb => by
    have lt := old b hb
    refine ⟨⟨?_, (f2 b hb).2⟩, by rw [p3, Heap.size_push]; exact Nat.lt_succ_of_lt lt⟩
    rw [upd_ne (by rw [← eM]; exact Nat.ne_of_lt lt)]
    exact (f2 b hb).1
  have st3 : tn 0 s3.heap := T.keep _ _ _ st2 fun b _ o z => by rw [p3]; exact Heap.get?_push_of_some _ z
  have I4 := block_start I3 blk nd f3
  have qg := pgs s3 (upd H2 M (SetTO X.prog X.w M [])) s3.heap.objs.size (cellsFrom (s3.heap.objs.size + 1) scope.names (cloFrom X.env.cells scope.names [])) fp
  have qt := pts s3 (upd H2 M (SetTO X.prog X.w M [])) s3.heap.objs.size (cellsFrom (s3.heap.objs.size + 1) scope.names (cloFrom X.env.cells scope.names [])) fp
  have qe := pes s3 (upd H2 M (SetTO X.prog X.w M [])) s3.heap.objs.size (cellsFrom (s3.heap.objs.size + 1) scope.names (cloFrom X.env.cells scope.names [])) fp
  show codeAny _ _ (.compStart (.SetComp elt [⟨tg, iter, ifs, 0⟩] scope pos) 0 (.ref it) (.ref M) (compEnvC scope (cellsFrom (s3.heap.objs.size + 1) scope.names (cloFrom X.env.cells scope.names [])) s3.heap.objs.size X.env))
    (compPost (model X.prog X.w) X.A X.xe none _ (.ref M) s3.heap.objs.size) { s3 with heap := pushCells (s3.heap.push { cls := .type "dict", data := .dict #[] }) scope.names }
  have nofp : ∀ b ∈ fp, (upd H2 M (SetTO X.prog X.w M [])) b = none := fun b hb => (f3 b hb).1.1
  generalize ece : compEnvC scope (cellsFrom (s3.heap.objs.size + 1) scope.names (cloFrom X.env.cells scope.names [])) s3.heap.objs.size X.env = ce at I4 qg qt qe ⊢
  have loc : ce.locals = s3.heap.objs.size := by rw [← ece]; rfl
  generalize eH3 : upd H2 M (SetTO X.prog X.w M []) = H3 at I3 I4 qg qt qe w0 nofp f3
  generalize e4 : ({ s3 with heap := pushCells (s3.heap.push { cls := .type "dict", data := .dict #[] }) scope.names } : Shared) = s4 at I4 ⊢
  have st4 : tn 0 s4.heap := T.keep _ _ _ st3 fun b _ o z => by rw [← e4]; exact pushCells_keeps _ _ _ _ (Heap.get?_push_of_some _ z)
  have at1 : ∀ {σ1 : L2.St} {H1 : Hp} {s1 : Shared}, L2.Inv (X.blk s3 H3 scope ce fp) [] σ1 H1 s1 → (∀ b ∈ fp, H1 b = none) → ∀ b ∈ fp, FpOk (X.blk s3 H3 scope ce fp) [] H1 b := fun {σ1 H1 s1} J1 hn b hb =>
    ⟨hn b hb, (J1.ok.exf b hb).1, J1.ok.exfs b hb, .inl hb, fun x c z => (J1.ok.exf b hb).2 x c z, fun p hp => by cases (show p ∈ ([] : List (Addr × Obj)) from hp)⟩
  refine DL.once (fun lp => PpSet.codeAny_compStart_set lp (T.self X.A 0 _ _ _ st4 lp)) ?_
  refine PpSet.compLoopS_any (fun n s5 => ∃ i H5, L2.Inv (X.blk s3 H3 scope ce fp) [] (wipe σ (own.map (·.2))) H5 s5 ∧ tn i s5.heap ∧ (∀ b ∈ fp, H5 b = none) ∧ W i n H5) ?_ n0 ⟨0, H3, I4, st4, nofp, w0⟩
  rintro n s5 ⟨i, H5, I5, st5, no5, w5⟩
  rcases go i n H5 w5 with ⟨stop, done⟩ | ⟨more, Nx, hNx, step⟩
  · refine thnF (T.done (X.blk s3 H3 scope ce fp) rfl rfl rfl calm i [] s5 _ H5 (fun _ _ => False) I5 (at1 I5 no5) st5 stop) fun r s6 ⟨hr, I6⟩ => ?_
    subst hr
    have I7 : L2.Inv X pins σ H5 s6 := I3.call' (ch := fp) I6.os I6.base I6.hok I6.bare fun b hb => let z := (f3 b hb).1.2; ⟨z.2.2.1, z.1, z.2.2.2.1, z.2.2.2.2⟩
    have noC : H5 s3.heap.objs.size = none := loc ▸ I6.free
    obtain ⟨m, hns, _⟩ := I6.loc
    have hns : s6.heap.Ns s3.heap.objs.size m := loc ▸ hns
    refine ⟨m, hns, fun h'' sb => ?_⟩
    obtain ⟨k0, k1, k2, k3, k4, k5⟩ := I3.fpOk (Nat.le_refl _) noC
    exact ⟨.ref M, H5, I7.turned (t' := s6.toks) (fun b o nb z => (sb.2 b nb).trans z) k0 k1 k3 k4 k5, rfl, done⟩
  · refine thnF (T.item (X.blk s3 H3 scope ce fp) rfl rfl rfl calm i [] s5 _ H5 (fun _ _ => False) I5 (at1 I5 no5) st5 more) fun r s6 ⟨u, hr, nxt⟩ => ?_
    subst hr
    refine thnF nxt fun _ s7 ⟨x, H7, I7, r7, y7, st7, no7⟩ => ?_
    refine thnF (qg.run _ s7 _ H7 x u _ (I7.pinned (at1 I7 no7) (T.obj _ _ st7)) r7 (step x H7 y7)) fun _ s8 ⟨σ8, H8, I8, wp8, q8⟩ => ?_
    refine thnF (qt.run _ s8 σ8 H8 _ I8 q8) fun b s9 ⟨H9, I9, q9⟩ => ?_
    have close : ∀ {s' : Shared} {H' : Hp}, L2.Inv (X.blk s3 H3 scope ce fp) ([] ++ pinsAt fp s7.heap) σ8 H' s' → Nx H' → ∃ m, m < n ∧ ∃ i H', L2.Inv (X.blk s3 H3 scope ce fp) [] (wipe σ (own.map (·.2))) H' s' ∧ tn i s'.heap ∧ (∀ b ∈ fp, H' b = none) ∧ W i m H' := fun {s' H'} J' nx => by
      obtain ⟨n', lt, w'⟩ := hNx H' nx
      have stays : ∀ b ∈ fp, ∀ o, s7.heap.get? b = some o → s'.heap.get? b = some o ∧ H' b = none := fun b hb o z =>
        let y := J'.pin (b, o) (List.mem_append_right _ (List.mem_append_right _ (mem_pinsAt hb z)))
        ⟨y.1, y.2.1⟩
      refine ⟨n', lt, i + 1, H', (J'.unpinned (pins := [])).weak (by rw [← wp8, wipe_length]) (fun j v z => ?_), T.keep _ _ _ st7 fun b hb o z => (stays b hb o z).1, fun b hb => ?_, w'⟩
      · rw [← wp8] at z
        exact (wipe_some z).1
      · obtain ⟨o, z, _⟩ := T.obj _ _ st7 b hb
        exact (stays b hb o z).2
    cases b with
    | false =>
      simp only [Bool.false_eq_true, if_false] at q9 ⊢
      exact close I9 q9
    | true =>
      simp only [if_true] at q9 ⊢
      refine thnF (qe.run _ s9 σ8 H9 _ I9 q9) fun z s10 ⟨yv, H10, I10, r10, a, k, L, ey, ha, hL, ht, few, nx⟩ => ?_
      subst ey
      cases (show z = Value.ref a from r10)
      exact add_up (X := X.blk s3 H3 scope ce fp) hu I10 hL ht ha few fun s11 L' y1 y2 I11 => close I11 (nx L' y1 y2)
end
end TSet
namespace DL
open PySem PySem.Spec PyProof.Rows L2 Evl Lay ErrX
section
variable (K : PySem.W.Frag) (P : Program) (w : World) {X : Cx}
theorem kx_newS (hP : X.prog = P := by rfl) (hw : X.w = w := by rfl) : CallR X (.type "set") (TSet.rNew P w) := by
  subst hP hw
  exact TSet.cr_new
theorem kx_inS (hu : X.A.units + 64 < cLine) (hK : X.K = K := by rfl) (hP : X.prog = P := by rfl) (hw : X.w = w := by rfl) : OpR X (compareOp .In) (TSet.rIn K P w) := by
  subst hK hP hw
  exact TSet.op_in hu
/-- len of a set of tuples -/
def rLenS : List V → Hp → VK → Prop := fun xs H Q => ∃ (m : Addr) (L : List (Addr × List Int)), xs = [.ref m] ∧ H m = some (SetTO P w m L) ∧ Q (.int (L.length : Nat)) H
theorem kx_lenS (hP : X.prog = P := by rfl) (hw : X.w = w := by rfl) : CallR X (.builtin "len") (rLenS P w) := by
  subst hP hw
  intro pins s σ H xs us Q I r h
  obtain ⟨m, L, rfl, hm, q⟩ := h
  rw [Vals.ref1 r]
  have R0 : SetT0 X.prog X.w s.heap m L := (I.hok m _ hm).1
  obtain ⟨es, ep, t, ⟨o, ho, ex, hd⟩, rows, tab, nd, pl, led, room, few⟩ := R0.ex
  have e1 : es.size = L.length := by
    have := congrArg List.length rows
    unfold rowsOf at this
    rw [Array.length_toList, List.length_map] at this
    exact this
  have e2 := tab.sz
  rw [List.length_map] at e2
  have fit : t.fits es.size = true := by
    unfold SetTable.fits SetTable.fill
    rw [tab.dm, Bool.and_eq_true, beq_iff_eq, decide_eq_true_eq]
    refine ⟨by omega, ?_⟩
    show t.place.size + 0 ≤ t.mask
    omega
  refine call_len_set ho ex hd fit (by omega) ⟨.int (L.length : Nat), H, I.tok _, ?_, q⟩
  rw [e1]
  exact ⟨_, rfl⟩
/-- m.add(e) -/
theorem kx_addS {o e : Expr} {to : TE} {t : TA} {apos cpos : Pos} (hu : X.A.units + 64 < cLine) (ho : PE X o to) (ha : PA X [e] t) (hbase : attributeBase o "add" X.env (eval o X.env) = eval o X.env := by rfl)
    (hfew : ((backTo cpos (starEach [e] X.env)).all (fun x => !x.1) && (backToKw cpos (keywordEach [] X.env)).all (fun x => x.1.isSome) && decide (([e] : List Expr).length + ([] : List Keyword).length + (if ([] : List Keyword).isEmpty then 0 else 1) < 30)) = true := by rfl)
    (hline : (apos.endLine == cpos.line) = true := by rfl) (hs : starEach [e] X.env = (false, eval e X.env) :: starEach [] X.env := by rfl) (hplain : (backTo cpos (starEach [] X.env)).any (·.1) = false := by rfl) (hK : X.K = K := by rfl) (hP : X.prog = P := by rfl) (hw : X.w = w := by rfl) :
    PE X (.Call (.Attribute o "add" apos) [e] [] cpos) (TSet.tAdd K P w to t) := by
  subst hK hP hw
  exact TSet.pe_add hu ho ha hbase hfew hline hs hplain
theorem kx_sct {elt tg iter : Expr} {ifs : List Expr} {scope : Scope} {own : List (PySem.Str × Nat)} {pos : Pos} {wi : TI} {g : TG} {tt : TT} {te : TE} (calm : X.calm = true) (hu : X.A.units + 64 < cLine) (nd : X.N.Nodup) (pi : PI X tg iter wi) (blk : BlkOk X.N X.env.scope scope own)
    (pgs : ∀ (s : Shared) (H : Hp) (C : Addr) (cl : List (PySem.Str × Addr)) (fp : List Addr), PG (X.blk s H scope (compEnvC scope cl C X.env) fp) tg g)
    (pts : ∀ (s : Shared) (H : Hp) (C : Addr) (cl : List (PySem.Str × Addr)) (fp : List Addr), PTs (X.blk s H scope (compEnvC scope cl C X.env) fp) ifs tt)
    (pes : ∀ (s : Shared) (H : Hp) (C : Addr) (cl : List (PySem.Str × Addr)) (fp : List Addr), PE (X.blk s H scope (compEnvC scope cl C X.env) fp) elt te) (fold : ∀ x, foldedSetIterable iter X.env x = pure x := by intro _; rfl) (hK : X.K = K := by rfl) (hP : X.prog = P := by rfl) (hw : X.w = w := by rfl) :
    PE X (.SetComp elt [⟨tg, iter, ifs, 0⟩] scope pos) (TSet.tSct K P w wi g tt te (own.map (·.2))) := by
  subst hK hP hw
  exact TSet.pe_sct calm hu nd pi blk pgs pts pes fold
end
section
variable {K : PySem.W.Frag} {P : Program} {w : World}
theorem RA.intsT {F H : Hp} {p : Addr} {ns : List Int} (e : Ex F H) (r : R K F (.ref p) (.t (ns.map D.i))) : SqT K H p (ns.map V.int) := by
  cases r with
  | t h ra =>
    have := ra.toInts
    subst this
    exact ex_t e h
theorem perm2 {p : Addr} {ns : List Int} {L L' : List (Addr × List Int)} {ks : List (List Int)} (h : L'.Perm ((p, ns) :: L)) (pm : (L.map (·.2)).Perm ks) : (L'.map (·.2)).Perm (ns :: ks) := by
  have z : (L'.map (fun z : Addr × List Int => z.2)).Perm (ns :: L.map (fun z : Addr × List Int => z.2)) := h.map _
  exact z.trans (List.Perm.cons ns pm)
/-- x = set() -/
abbrev wNewS (P : Program) (w : World) (k : Nat) : WS := fun Po Γ => Po.nx (put Γ k (.os (SetTO P w) []))
theorem s_newS {k : Nat} : SOk K (tAsg (tCB (TSet.rNew P w) tNil) (gName k)) (wNewS P w k) := fun Po Γ hq F0 H0 F H σ r E want => ⟨rfl, fun p hp => by
  have e := Ext.heap r.fh (Ex.new (o := SetTO P w p []) hp)
  exact want.nx _ _ _ _ hq ((r.ext e).setW (fresh_back r.fh hp) (ExT.back r.h0 hp) upd_same ⟨[], rfl, List.Perm.nil, fun q hq => by cases hq⟩ fun m ys _ q s => by
    obtain ⟨p', _, a, _, _, d, _⟩ := r.ow m ys q
    rw [s] at a
    cases a
    rw [hp] at d
    cases d)⟩
/-- e in x, x a set of one's own -/
abbrev wInS (P : Program) (w : World) (k : Nat) (a : WE) : WE := fun Γ Q => a Γ fun x => match x with
  | .t xs => match nth Γ k with
    | .w (.s f ks _) => f = SetTO P w ∧ ∃ ns : List Int, xs = ns.map D.i ∧ Q (.b (decide (ns ∈ ks)))
    | _ => False
  | _ => False
theorem e_inS {k : Nat} {ta : TE} {wa : WE} (ha : EOk K ta wa) : EOk K (tOp (TSet.rIn K P w) ta (tVar k)) (wInS P w k wa) := fun Γ Q hq F0 H0 F H σ r QV want =>
  ha Γ _ hq F0 H0 F H σ r _ fun v d F1 H1 z e1 rv => by
    cases rv with
    | @t p vs xs h ra =>
      have z : (match nth Γ k with | .w (.s f ks _) => f = SetTO P w ∧ ∃ ns : List Int, xs = ns.map D.i ∧ Q (.b (decide (ns ∈ ks))) | _ => False) := z
      cases q : nth Γ k with
      | u => rw [q] at z; exact z.elim
      | d x => rw [q] at z; exact z.elim
      | w o =>
        rw [q] at z
        cases o with
        | l xs => exact z.elim
        | la _ _ _ => exact z.elim
        | s f ks nt =>
          obtain ⟨rfl, ns, rfl, hQ⟩ := z
          obtain ⟨m, ho, a, b, c, hd, L, rfl, pm, ht⟩ := (r.ext e1).ow k _ q
          refine ⟨.ref m, a, p, m, ns, L, rfl, rfl, RA.intsT e1.fh (.t h ra), hd, fun q hq => ex_t e1.fh (ht q hq), ?_⟩
          have e : decide (ns ∈ L.map (·.2)) = decide (ns ∈ ks) := by
            rw [Bool.eq_iff_iff, decide_eq_true_iff, decide_eq_true_iff]
            exact pm.mem_iff
          rw [e]
          exact want _ _ F1 H1 hQ e1 (.b _)
    | _ => exact z.elim
/-- x.add(e), x a set of one's own -/
abbrev wAddS (P : Program) (w : World) (k : Nat) (a : WE) : WS := fun Po Γ => match nth Γ k with
  | .w (.s f ks _) => f = SetTO P w ∧ ks.length + 1 < 64 ∧ a Γ fun x => match x with
    | .t xs => ∃ ns : List Int, xs = ns.map D.i ∧ (ns ∈ ks → Po.nx Γ) ∧ (ns ∉ ks → Po.nx (put Γ k (.os (SetTO P w) (ns :: ks))))
    | _ => False
  | _ => False
theorem s_addS {k : Nat} {te : TE} {we : WE} (h : EOk K te we) : SOk K (tDrop (TSet.tAdd K P w (tVar k) (tCons te tNil))) (wAddS P w k we) := fun Po Γ hq F0 H0 F H σ r E want => by
  unfold wAddS at hq
  cases q : nth Γ k with
  | u => rw [q] at hq; exact hq.elim
  | d x => rw [q] at hq; exact hq.elim
  | w o =>
    rw [q] at hq
    cases o with
    | l xs => exact hq.elim
    | la _ _ _ => exact hq.elim
    | s f ks nt =>
      obtain ⟨rfl, few, hq⟩ := hq
      obtain ⟨m, ho, a, b, c, hd, L, eL, pm, ht⟩ := r.ow k _ q
      subst eL
      refine ⟨.ref m, a, ⟨m, L, rfl, hd⟩, h Γ _ hq F0 H0 F H σ r _ fun v d F1 H1 z e1 rv => ?_⟩
      cases rv with
      | @t p vs xs hp ra =>
        obtain ⟨ns, rfl, z1, z2⟩ := z
        have r1 := r.ext e1
        have tt : ∀ q ∈ L, SqT K F1 q.1 (q.2.map V.int) := fun q hq => ex_t e1.ff (ht q hq)
        have tf : SqT K F1 p (ns.map V.int) := by
          have := ra.toInts
          subst this
          exact hp
        have len : L.length = ks.length := by
          have := pm.length_eq
          rw [List.length_map] at this
          exact this
        refine ⟨m, p, ns, L, rfl, rfl, e1.hh.kp hd, fun q hq => ex_t e1.fh (tt q hq), ex_t e1.fh tf, by omega, fun L' y1 y2 => ?_⟩
        by_cases hin : ns ∈ ks
        · rw [y1 (pm.mem_iff.mpr hin)]
          have same : upd H1 m (SetTO P w m L) = H1 := by
            funext b
            unfold upd
            split
            · rename_i e
              rw [e]
              exact (e1.hh.kp hd).symm
            · rfl
          rw [same]
          exact want.nx _ _ _ _ (z1 hin) r1
        · have pm' := y2 fun z => hin (pm.mem_iff.mp z)
          refine want.nx _ _ _ _ (z2 hin) (r1.chgW q a ⟨L', rfl, perm2 pm' pm, fun q hq => ?_⟩)
          rcases List.mem_cons.mp (pm'.mem_iff.mp hq) with rfl | hq
          · exact tf
          · exact tt q hq
      | _ => exact z.elim
/-- which different ones come of n turns -/
def SelS (c : Nat → Bool) (Pd : Nat → List Int → Prop) : Nat → List (List Int) → Prop
  | 0, ys => ys = []
  | n + 1, ys => if c n = true then ∃ zs y, SelS c Pd n zs ∧ Pd n y ∧ ((y ∈ zs ∧ ys = zs) ∨ (y ∉ zs ∧ ys.Perm (y :: zs))) else SelS c Pd n ys
theorem SelS.len {c : Nat → Bool} {Pd : Nat → List Int → Prop} : ∀ {n : Nat} {ys : List (List Int)}, SelS c Pd n ys → ys.length ≤ n
  | 0, ys, h => by
    cases (show ys = [] from h)
    exact Nat.le_refl _
  | n + 1, ys, h => by
    unfold SelS at h
    split at h
    · obtain ⟨zs, y, h1, _, h2⟩ := h
      have := SelS.len h1
      rcases h2 with ⟨_, rfl⟩ | ⟨_, h2⟩
      · omega
      · have := h2.length_eq
        simp at this
        omega
    · have := SelS.len h
      omega
theorem SelS.perm {c : Nat → Bool} {Pd : Nat → List Int → Prop} {n : Nat} {ys zs : List (List Int)} (h : SelS c Pd n ys) (p : zs.Perm ys) : ∃ us, SelS c Pd n us ∧ us.length = zs.length := ⟨ys, h, p.length_eq.symm⟩
/-- len({e for ..}) -/
abbrev wLenSc (it : WA) (g : WG) (t : WT) (e : WE) (vs : List Nat) : WE := fun Γ Q => it Γ fun xs => xs.length ≤ 60 ∧ ∃ (c : Nat → Bool) (Pd : Nat → List Int → Prop),
  (∀ k x, xs[k]? = some x → g x (wipeG Γ vs) fun Γ2 => t Γ2 fun b => b = c k ∧ (b = true → e Γ2 fun d => ∃ ns : List Int, d = .t (ns.map D.i) ∧ Pd k ns)) ∧ ∀ ys, SelS c Pd xs.length ys → Q (.i (ys.length : Nat))
theorem e_lenSc {wi : TI} {g : TG} {tt : TT} {te : TE} {vs js : List Nat} {wit : WA} {wg : WG} {wt : WT} {we : WE} (hi : IOk K wi wit) (hg : GOk K g wg js) (ht : TOk K tt wt) (he : EOk K te we) (hj : ∀ j ∈ js, j ∈ vs := by decide) :
    EOk K (tCB (rLenS P w) (tCons (TSet.tSct K P w wi g tt te vs) tNil)) (wLenSc wit wg wt we vs) := fun Γ Q hq F0 H0 F H σ r QV want =>
  hi Γ _ hq F0 H0 F H σ r _ fun J xs F1 H1 z e1 hit => by
    obtain ⟨lx, c, Pd, turn, fin⟩ := z
    obtain ⟨Gd, Y, wk, good, yld⟩ := hit
    intro M hM
    have r1 := (r.ext e1).wipe vs
    refine ⟨fun i n H' => n = xs.length - i ∧ i ≤ xs.length ∧ ∃ F' L ys, Ext F1 H1 F' H' ∧ F' M = none ∧ H' M = some (SetTO P w M L) ∧ (L.map (·.2)).Perm ys ∧ (∀ q ∈ L, SqT K F' q.1 (q.2.map V.int)) ∧ SelS c Pd i ys,
      ⟨xs.length, by simp, Nat.zero_le _, F1, [], [], Ext.heap e1.fh (Ex.new hM), fresh_back e1.fh hM, upd_same, List.Perm.nil, fun q hq => (by cases hq), rfl⟩, ?_⟩
    rintro i n H' ⟨rfl, hi, F', L, ys, x, hf, hd, pm, ht2, hs⟩
    have gd := good F' H' x.ff x.fh
    by_cases lt : i < xs.length
    · refine .inr ⟨wk.goes i H' lt gd, fun H2 => i + 1 ≤ xs.length ∧ ∃ F' L ys, Ext F1 H1 F' H2 ∧ F' M = none ∧ H2 M = some (SetTO P w M L) ∧ (L.map (·.2)).Perm ys ∧ (∀ q ∈ L, SqT K F' q.1 (q.2.map V.int)) ∧ SelS c Pd (i + 1) ys, fun H2 q => ⟨_, by omega, rfl, q.1, q.2⟩, fun v H2 y => ?_⟩
      obtain ⟨F2, d, hx, e2, rv⟩ := yld i F' H' v H2 lt x.ff x.fh (wk.yields i H' v H2 lt gd y)
      have nof : ∀ {F3 H3 : Hp}, Ext F' H' F3 H3 → F3 M = none := fun {F3 H3} e3 => by
        cases q : F3 M with
        | none => rfl
        | some o =>
          have := e3.nw M o q hf
          rw [hd] at this
          cases this
      refine hg d _ _ (turn i d hx) F0 H0 F2 H2 _ v (r1.ext (x.trans e2)) rv _ fun Γ3 σ3 F3 H3 z3 r3 e3 w3 => ⟨by rw [w3 vs hj]; exact wipe_twice σ vs, ?_⟩
      refine ht Γ3 _ z3 F0 H0 F3 H3 σ3 r3 _ fun b F4 H4 z4 e4 => ?_
      obtain ⟨hb, z4⟩ := z4
      have e34 := (e2.trans e3).trans e4
      cases b with
      | true =>
        show te σ3 H4 _
        refine he Γ3 _ (z4 rfl) F0 H0 F4 H4 σ3 (r3.ext e4) _ fun u dy F5 H5 z5 e5 ru => ?_
        obtain ⟨ns, rfl, pd⟩ := z5
        have e25 := e34.trans e5
        cases ru with
        | @t p us _ hp ra =>
          have := ra.toInts
          subst this
          have tt2 : ∀ q ∈ L, SqT K F5 q.1 (q.2.map V.int) := fun q hq => ex_t e25.ff (ht2 q hq)
          have len : L.length = ys.length := by
            have := pm.length_eq
            rw [List.length_map] at this
            exact this
          have ll := hs.len
          refine ⟨p, ns, L, rfl, ex_t e5.fh hp, e25.hh.kp hd, fun q hq => ex_t e5.fh (tt2 q hq), by omega, fun L' y1 y2 => ?_⟩
          have x5 := x.trans e25
          have up : ∀ (o : HO), Ext F1 H1 F5 (upd H5 M o) := fun o => ⟨x5.ff, x5.hh.mut hM, (fun a o' q => by rw [upd_ne (ne_of_none q (nof e25))]; exact x5.fh a o' q), x5.tb.mut (e25.hh.kp hd) noTab_set, x5.nw⟩
          refine ⟨lt, ?_⟩
          by_cases hin : ns ∈ ys
          · rw [y1 (pm.mem_iff.mpr hin)]
            refine ⟨F5, L, ys, up _, nof e25, upd_same, pm, tt2, ?_⟩
            unfold SelS
            rw [← hb, if_pos rfl]
            exact ⟨ys, ns, hs, pd, .inl ⟨hin, rfl⟩⟩
          · have pm' := y2 fun z => hin (pm.mem_iff.mp z)
            refine ⟨F5, L', ns :: ys, up _, nof e25, upd_same, perm2 pm' pm, fun q hq => ?_, ?_⟩
            · rcases List.mem_cons.mp (pm'.mem_iff.mp hq) with rfl | hq
              · exact hp
              · exact tt2 q hq
            · unfold SelS
              rw [← hb, if_pos rfl]
              exact ⟨ys, ns, hs, pd, .inr ⟨hin, List.Perm.refl _⟩⟩
      | false =>
        show _ ∧ _
        refine ⟨lt, F4, L, ys, x.trans e34, nof e34, e34.hh.kp hd, pm, fun q hq => ex_t e34.ff (ht2 q hq), ?_⟩
        unfold SelS
        rw [← hb, if_neg (by decide)]
        exact hs
    · have e : i = xs.length := by omega
      subst e
      refine .inl ⟨wk.stops H' gd, M, L, rfl, hd, ?_⟩
      have len : L.length = ys.length := by
        have := pm.length_eq
        rw [List.length_map] at this
        exact this
      rw [len]
      exact want _ _ F' H' (fin ys hs) (e1.trans x) (.i _)
end
end DL
namespace Lay
open PySem PySem.Spec PyProof.Rows L2 Evl
/-- the abstract heap in which the script alone is told, as an object that stays -/
def tell (a : Addr) (o : Obj) (xs : List V) (on : Bool) : Hp := fun b => if on = true ∧ b = a then some (.frz o (.lst xs)) else none
theorem tell_on {a : Addr} {o : Obj} {xs : List V} : tell a o xs true a = some (.frz o (.lst xs)) := if_pos ⟨rfl, rfl⟩
theorem tell_some {a b : Addr} {o : Obj} {xs : List V} {on : Bool} {u : HO} (h : tell a o xs on b = some u) : on = true ∧ b = a ∧ u = .frz o (.lst xs) := by
  unfold tell at h
  split at h
  · rename_i z
    cases h
    exact ⟨z.1, z.2, rfl⟩
  · cases h
theorem law_callG {P : Program} {w : World} {K : PySem.W.Frag} {mg mb : Str → Option Value} {k : Nat} {fa a : Addr} {ps : List Str} {sp : Sp} {s : Shared} {vs : List Value} {ns : List Int}
    (KX : K.In s.heap) (hg : s.heap.Ns mainGlobals mg) (hb : s.heap.Ns builtinsNs mb) (hbb : ∀ x : Str, x ≠ "__name__" → mb x = bootBuiltins x) (hlim : s.heap.NoLimit) (hgens : s.gens = #[])
    (ha : s.heap.get? a = some { cls := .type "list", data := .seq vs.toArray }) (hi : IntsAre vs ns) (hl : ns.length ≤ sizeLine) (hr : Room k callerA)
    (F : ∀ base : Heap, K.In base → base.Ns mainGlobals mg → ∃ fd, FnG P w K mg base CX0 k fa fd ps sp ∧ BindsTo s fd ⟨[.ref a], []⟩ (ps.zip [.ref a]))
    (hsp : ∀ H : Hp, SqL K H a (ns.map V.int) → sp [.ref a] H (fun v _ => v = .bl true) E0) :
    codeAny (model P w) callerA (.call (.ref fa) ⟨[.ref a], []⟩) (fun r s' => r = .ok (.ret (.bool true)) ∧ OldK s.heap s'.heap ∧ s'.os = s.os ∧ AllBare s'.gens) s := by
  have rv := vals_ints hi
  have lenV := hi.length
  let on := (K.lookup a).isNone
  let oa : Obj := { cls := .type "list", data := .seq vs.toArray }
  let H : Hp := tell a oa (ns.map V.int) on
  -- what is not told stands in the base
  have old : ∀ {b o}, s.heap.get? b = some o → H b = none → (hidT s.heap H).get? b = some o := fun e n => hidT_get e n
  have offK : ∀ {b o}, K.lookup b = some o → H b = none := fun {b o} e => by
    cases q : H b with
    | none => rfl
    | some u =>
      obtain ⟨q1, rfl, _⟩ := tell_some q
      have q2 : (K.lookup b).isNone = true := q1
      rw [e] at q2
      cases q2
  have offD : ∀ {b o es ep}, s.heap.get? b = some o → o.data = .dict es ep → H b = none := fun {b o es ep} e d => by
    cases q : H b with
    | none => rfl
    | some u =>
      obtain ⟨_, rfl, _⟩ := tell_some q
      rw [ha] at e
      cases e
      cases (show Data.seq vs.toArray _ = Data.dict es ep from d)
  have ns_base : ∀ {b : Addr} {m : Str → Option Value}, s.heap.Ns b m → (hidT s.heap H).Ns b m := fun {b m} ⟨o, es, ep, e, d, r⟩ => ⟨o, es, ep, old e (offD e d), d, r⟩
  have kb : K.In (hidT s.heap H) := fun b o e => old (KX b o e) (offK e)
  have hM : Mod K mg (hidT s.heap H) := ⟨kb, ns_base hg, ⟨mb, ns_base hb, hbb⟩, let ⟨mc, h1, h2⟩ := hlim; ⟨mc, ns_base h1, h2⟩⟩
  have hok : HOk P w H s.heap := fun b u q => by
    obtain ⟨_, rfl, rfl⟩ := tell_some q
    exact ⟨ha, by rw [List.length_map]; exact hl, vs, _, rv, ha⟩
  have e0 : Env0 P w K mg (hidT s.heap H) callerA [] s H := ⟨rfl, hM, fun b o e => of_hidT e, Nat.le_of_eq (hidT_size _ _), trivial, fun b hb => absurd (show b ∈ ([] : List Addr) from hb) (by simp), hok, .of_eq hgens⟩
  have hS : SqL K H a (ns.map V.int) := by
    cases q : K.lookup a with
    | none =>
      have z : H a = some (.frz oa (.lst (ns.map V.int))) := by
        show tell a oa (ns.map V.int) (K.lookup a).isNone a = _
        rw [q]
        exact tell_on
      exact .inl (.inr ⟨oa, z⟩)
    | some o =>
      have e := KX a o q
      rw [ha] at e
      cases e
      exact .inr ⟨_, vs.toArray, _, q, rfl, rfl, rfl, by rw [List.size_toArray, lenV]; exact hl, by simpa using rv⟩
  obtain ⟨fd, F0, hbind⟩ := F _ kb (ns_base hg)
  refine codeAny_mono (F0.run callerA [] s H ⟨[.ref a], []⟩ [.ref a] [.ref a] _ _ hr rfl e0 hbind (.cons rfl .nil) (hsp H hS)) fun r s' h => ?_
  cases r with
  | error e => exact False.elim h
  | ok fl =>
    cases fl with
    | next => exact False.elim h
    | brk => exact False.elim h
    | cont => exact False.elim h
    | ret u =>
      obtain ⟨v, H', os, bare, un, hok', r', q⟩ := h
      obtain rfl : v = .bl true := q
      obtain rfl : u = Value.bool true := r'
      refine ⟨rfl, OldK.of_keep fun b o e => ?_, os, bare⟩
      cases q : H b with
      | none => exact un.keep b o e q (by intro z; exact absurd (show b ∈ ([] : List Addr) from z) (by simp)) (by simp)
      | some u =>
        obtain ⟨_, rfl, rfl⟩ := tell_some q
        have e1 := (hok b _ q).1
        have e2 := (hok' b _ (un.frzs b oa _ q)).1
        rw [e] at e1
        cases e1
        exact e2
end Lay
namespace DL
open PySem PySem.Spec PyProof.Rows L2 Evl Lay ErrX
open PySem.W (Frag nsIn codeIn keepIn)
def chkM (K : Frag) (n : Str) (v : Int) : Bool := match nsIn K mainGlobals n with
  | some (some (.int i _)) => i == v
  | _ => false
theorem m_of {K : Frag} {h : Heap} {mg : Str → Option Value} (X : K.In h) (G : h.Ns mainGlobals mg) {n : Str} {v : Int} (hm : chkM K n v = true) : ∃ t, mg n = some (.int v t) := by
  unfold chkM at hm
  split at hm
  · rename_i i t e
    have := beq_iff_eq.mp hm
    subst this
    exact ⟨t, PySem.W.mg_of X G e⟩
  · cases hm
end DL
theorem L2.Room.u65 {k : Nat} {A : PySem.Around} (r : L2.Room k A) : A.units + 65 < PySem.cLine := by
  have := r.un
  omega
namespace DL
open PySem PySem.Spec PyProof.Rows L2 Evl Lay ErrX
section
variable {X : Cx}
variable (K : PySem.W.Frag)
theorem kx_notInD (hu : X.A.units + 65 < cLine) (h : X.K = K := by rfl) : OpR X (compareOp .NotIn) (rNotInD K) := h ▸ op_notInD hu
end
section
variable {K : PySem.W.Frag}
abbrev isN : D → Bool := fun x => match x with
  | .n => true
  | _ => false
abbrev wIsN : D → D → (D → Prop) → Prop := fun x y Q => match y with
  | .n => Q (.b (isN x))
  | _ => False
abbrev wNotN : D → D → (D → Prop) → Prop := fun x y Q => match y with
  | .n => Q (.b (!isN x))
  | _ => False
theorem isN_ok {F : Hp} {v : V} {x : D} (r : R K F v x) : decide (v = .non) = isN x := by
  cases r <;> rfl
theorem o_isN : OOk K (fun x y H Q => y = .non ∧ Q (.bl (decide (x = .non))) H) wIsN := fun x y Q hq F H vx vy e rx ry QV q => by
  unfold wIsN at hq
  split at hq
  · cases ry
    refine ⟨rfl, ?_⟩
    rw [isN_ok rx]
    exact q _ _ F H hq (Ext.refl e) (.b _)
  · exact hq.elim
theorem o_notN : OOk K (fun x y H Q => y = .non ∧ Q (.bl (!decide (x = .non))) H) wNotN := fun x y Q hq F H vx vy e rx ry QV q => by
  unfold wNotN at hq
  split at hq
  · cases ry
    refine ⟨rfl, ?_⟩
    rw [isN_ok rx]
    exact q _ _ F H hq (Ext.refl e) (.b _)
  · exact hq.elim
/-- a + b of lists: a new list -/
abbrev wCat (a b : WE) : WA := fun Γ Q => a Γ fun x => b Γ fun y => match x, y with
  | .l xs, .l ys => xs.length + ys.length ≤ 100000 ∧ Q (xs ++ ys)
  | _, _ => False
theorem f_cat {ta tb : TE} {a b : WE} (h1 : EOk K ta a) (h2 : EOk K tb b) : FOk K (tOp rCat ta tb) (wCat a b) := fun Γ Q hq F0 H0 F H σ r QV w =>
  h1 Γ _ hq F0 H0 F H σ r _ fun v x F1 H1 z1 e1 rx => h2 Γ _ z1 F0 H0 F1 H1 σ (r.ext e1) _ fun u y F2 H2 z2 e2 ry => by
    have z2 : (match (generalizing := false) x, y with | .l xs, .l ys => xs.length + ys.length ≤ 100000 ∧ Q (xs ++ ys) | _, _ => False) := z2
    have rx := rx.mono e2.ff
    split at z2
    · cases rx with
      | @l p vs xs hp ra =>
        cases ry with
        | @l p' ws ys hp' rb =>
          refine ⟨p, p', vs, ws, rfl, rfl, e2.fh _ _ hp, e2.fh _ _ hp', sz_of (by rw [ra.len, rb.len]; exact z2.1), fun a ha => ?_⟩
          exact w a (vs ++ ws) _ F2 _ z2.2 ((e1.trans e2).trans (Ext.heap e2.fh (Ex.new ha))) (ExT.back (e1.trans e2).hh ha) (fresh_back e2.fh ha) upd_same (ra.app rb)
    · exact z2.elim
/-- tuple(l) -/
def rTupleOf (K : PySem.W.Frag) : List V → Hp → VK → Prop := fun xs H Q => ∃ p ys, xs = [.ref p] ∧ ((SqL K H p ys ∧ ∀ l, H l = none → Q (.ref l) (upd H l (.tup ys))) ∨ (SqT K H p ys ∧ Q (.ref p) H))
theorem kx_tupleOf (K : PySem.W.Frag) {X : Cx} (h : X.K = K := by rfl) : CallR X (.type "tuple") (rTupleOf K) := h ▸ call_tuple_of
abbrev wTupleOf : List D → (D → Prop) → Prop := fun xs Q => match xs with
  | [.l ys] => Q (.t ys)
  | [.t ys] => Q (.t ys)
  | _ => False
theorem c_tupleOf : COk K (rTupleOf K) wTupleOf := fun xs Q hq F H vs e r QV q => by
  unfold wTupleOf at hq
  split at hq
  · cases r with
    | cons a r =>
      cases r
      cases a with
      | @l p ws _ hp ra =>
        refine ⟨p, ws, rfl, .inl ⟨sq_of (e _ _ hp), fun l hl => ?_⟩⟩
        exact q _ _ (upd F l (.tup ws)) _ hq (Ext.new e hl) (.t (st_of upd_same) (ra.mono (Ex.new (fresh_back e hl))))
  · cases r with
    | cons a r =>
      cases r
      cases a with
      | @t p ws _ hp ra => exact ⟨p, ws, rfl, .inr ⟨ex_t e hp, q _ _ F H hq (Ext.refl e) (.t hp ra)⟩⟩
  · exact hq.elim
def wNotInD : D → D → (D → Prop) → Prop := fun x y Q => ∃ d xs ds, y = .l xs ∧ py x = some d ∧ pyA xs = some ds ∧ SeqAt.shaped d = true ∧ SeqAt.shaped (.list ds) = true ∧ Q (.b (!ds.any fun z => PyData.eqv z d))
theorem o_notInD : OOk K (rNotInD K) wNotInD := fun x y Q ⟨d, xs, ds, hy, h1, h2, s1, s2, hq⟩ F H vx vy x' rx ry QV q => by
  subst hy
  exact ⟨d, ds, rx.dp x' h1, ry.dp x' (by show (pyA xs).map PyData.list = _; rw [h2]; rfl), s1, s2, q _ _ F H hq (Ext.refl x') (.b _)⟩
end
open PySem.W (Frag nsIn) in
def chkB (K : Frag) (n : Str) (v : String) : Bool := match nsIn K mainGlobals n with
  | some (some (.builtin i)) => i == v
  | _ => false
open PySem.W (Frag nsIn) in
theorem b_of {K : Frag} {h : Heap} {mg : Str → Option Value} (X : K.In h) (G : h.Ns mainGlobals mg) {n : Str} {v : String} (hm : chkB K n v = true) : mg n = some (.builtin v) := by
  unfold chkB at hm
  split at hm
  · rename_i i e
    have := beq_iff_eq.mp hm
    subst this
    exact PySem.W.mg_of X G e
  · cases hm
end DL
namespace DL
open PySem PySem.Spec PyProof.Rows L2 Evl Lay ErrX
section
variable {K : PySem.W.Frag}
def cutD (xs : List D) (lo hi : Option Int) : List D := (xs.drop (HT.sIx xs.length 0 lo)).take (HT.sIx xs.length xs.length hi - HT.sIx xs.length 0 lo)
theorem RA.cut {F : Hp} {vs : List V} {xs : List D} (r : RA K F vs xs) (lo hi : Option Int) : RA K F (cutV vs lo hi) (cutD xs lo hi) := by
  unfold cutV cutD
  rw [r.len]
  exact (r.drop _).take _
theorem RA.rep {F : Hp} {vs : List V} {xs : List D} (r : RA K F vs xs) : ∀ n : Nat, RA K F (List.replicate n vs).flatten (List.replicate n xs).flatten
  | 0 => .nil
  | n + 1 => by
    rw [List.replicate_succ, List.replicate_succ, List.flatten_cons, List.flatten_cons]
    exact r.app (r.rep n)
abbrev WPt := G → (Option Int → Prop) → Prop
def PtOk (K : PySem.W.Frag) (tp : L2.St → Hp → (Option Int → Hp → Prop) → Prop) (wp : WPt) : Prop := ∀ Γ Q, wp Γ Q → ∀ F0 H0 F H σ, Rep K F0 H0 F H σ Γ → ∀ QV : Option Int → Hp → Prop, (∀ o F' H', Q o → Ext F H F' H' → QV o H') → tp σ H QV
abbrev wNoPart : WPt := fun _ Q => Q none
abbrev wPart (e : WE) : WPt := fun Γ Q => e Γ fun d => match d with
  | .i k => Q (some k)
  | _ => False
theorem p_none : PtOk K tNoPart wNoPart := fun Γ Q hq F0 H0 F H σ r QV q => q none F H hq (Ext.refl r.fh)
theorem p_some {te : TE} {we : WE} (h : EOk K te we) : PtOk K (tPart te) (wPart we) := fun Γ Q hq F0 H0 F H σ r QV q =>
  h Γ _ hq F0 H0 F H σ r _ fun v d F1 H1 z e1 rv => by
    cases rv with
    | i k => exact ⟨k, rfl, q (some k) F1 H1 z e1⟩
    | _ => exact z.elim
end
end DL
namespace DL
open PySem PySem.Spec PyProof.Rows L2 Evl Lay ErrX
end DL
namespace DO
open PySem PySem.Spec PyProof.Rows L2 Evl Lay ErrX DL
/-- what is asked of a class of the program -/
structure Cl (K : PySem.W.Frag) (C : Addr) : Prop where
  cls : Cls K C
  ha : PySem.W.findIn K (.ref C) "__class__" = some (some (.builtin "object.__class__"))
  hn : PySem.W.specialIn K (.builtin "object.__class__") "__get__" = some (some (.builtin "getset_descriptor.__get__"))
  htk : PySem.W.takesIn K (.builtin "object.__class__") = some true
  hm : PySem.W.mroIn K C (.type "object") = some true
  no : ∀ n, n ∈ ["NoneType", "bool", "int", "str", "tuple", "list", "dict"] → PySem.W.kitOne K (.type n) (.ref C) = some false
section
variable {X : Cx} {x : Str} {p pos : Pos} {e : Expr} {es : List Expr} {t : TA} {k : Nat} {ps : List Str} {sp : Sp} {C f : Addr} {fd : FuncData}
/-- C(..), its __init__ a def that knows the guards -/
theorem run_mkG {pins : List (Addr × Obj)} {σ : L2.St} {H : Hp} {s : Shared} {Q : VK} {us : List Value} {vs : List V} (M : Mk X.K C f) (F : FnG X.prog X.w X.K X.mg X.base CX0 k f fd ps sp) (room : Room (k + 1) X.A) (gd : X.A.guards = some []) (bd : Binds X.K fd ps [])
    (I : L2.Inv X pins σ H s) (r : Vals vs us) (h : ∀ x dx, H x = none → H dx = none → dx ≠ x → sp (.ref x :: vs) (upd (upd H dx (.own x)) x (.ins C dx [])) (fun v H2 => v = .non ∧ Q (.ref x) H2) E0) :
    wpAny (model X.prog X.w) X.A (call (.ref C) us) (EP X pins σ Q) X.xe s := by
  have q0 := h (s.heap.objs.size + 1) s.heap.objs.size (I.hok.fresh (Nat.le_succ _)) (I.hok.fresh (Nat.le_refl _)) (fun z => absurd z (Nat.ne_of_lt (Nat.lt_succ_self _)))
  have I' := L2.Inv.made (C := C) I
  have rr : Vals (V.ref (s.heap.objs.size + 1) :: vs) (Value.ref (s.heap.objs.size + 1) :: us) := .cons rfl r
  have ll : ((Value.ref (s.heap.objs.size + 1) :: us) ++ []).length = ps.length := by
    rw [List.append_nil, ← rr.length]
    exact F.len _ _ _ _ q0
  have b0 := bd _ (Value.ref (s.heap.objs.size + 1) :: us) I'.kIn ll
  rw [List.append_nil] at b0
  refine wpAny_call (make_map (f := f) I.kIn M.makes M.init (beq_iff_eq.mp M.fn) (codeAny_mono (F.run (X.A.under (.builtin "type.__call__" ⟨.ref C :: us, []⟩)) X.stack _ _ ⟨Value.ref (s.heap.objs.size + 1) :: us, []⟩ _ _ _ E0 (room.make C us []) (by exact gd) (I'.env0.make C us []) b0 rr q0) fun res s' z => ?_))
  cases res with
  | error er => exact False.elim z
  | ok fl =>
    cases fl with
    | ret u =>
      obtain ⟨v, H', J, rv, ev, q⟩ := I'.after z
      subst ev
      exact ⟨rv, ⟨V.ref (s.heap.objs.size + 1), H', J, rfl, q⟩⟩
    | next => exact False.elim z
    | brk => exact False.elim z
    | cont => exact False.elim z
end
/-- a class with an __init__, and what this promises -/
structure MkOk (P : Program) (w : World) (K : PySem.W.Frag) (mg : Str → Option Value) (base : Heap) (x : Str) (C : Addr) (k : Nat) (ps : List Str) (sp : Sp) : Prop where
  ex : ∃ f fd, FnG P w K mg base CX0 k f fd ps sp ∧ Binds K fd ps [] ∧ Mk K C f
  mg : mg x = some (.ref C)
section
variable {X : Cx} {x : Str} {p pos : Pos} {e : Expr} {es : List Expr} {t : TA} {k : Nat} {ps : List Str} {sp : Sp} {C : Addr}
theorem pe_mkG (M : MkOk X.prog X.w X.K X.mg X.base x C k ps sp) (room : Room (k + 1) X.A) (gd : X.A.guards = some []) (ha : PA X (e :: es) t) (gl : Gl X x := by rfl) (hdb : (x == ("__debug__" : Str)) = false := by decide)
    (h1 : starEach (e :: es) X.env = (false, eval e X.env) :: starEach es X.env := by rfl) (h2 : (backTo pos (starEach es X.env)).any (·.1) = false := by rfl) : PE X (.Call (.Name x p) (e :: es) [] pos) (tMake C sp [] E0 t) := by
  obtain ⟨f, fd, F, bd, mk⟩ := M.ex
  refine ⟨fun pins s σ H Q I h => wpAny_Call_Name_kw (ld_glob I gl M.mg ?_ hdb)⟩
  refine PySem.W.callWith_K (h₀ := X.base) I.ok.mod.kin mk.kp (thn (ha.run pos pins s σ H _ I h) fun us s1 ⟨vs, H1, I1, r, q⟩ => ⟨I1.kIn, ?_⟩) h1 h2
  exact run_mkG mk F room gd bd I1 r fun x dx a b c => by
    have := q x dx a b c
    rw [List.append_nil] at this
    exact this
end
section
variable {K : PySem.W.Frag}
/-- what an __init__ does, over data: from the arguments (but self) to the attributes -/
def spMk (K : PySem.W.Frag) (C : Addr) (ns : List Str) (S : List D → (List D → Prop) → Prop) : Sp := fun vs H Q _ => ∃ (x dx : Addr) (ws : List V) (F : Hp) (ds : List D) (P : List D → Prop), vs = .ref x :: ws ∧ H x = some (.ins C dx []) ∧ Ex F H ∧ RA K F ws ds ∧ S ds P ∧
  ∀ F' H' us xs, P xs → Ext F H F' H' → RA K F' us xs → ns.length = us.length → Q .non (upd H' x (.ins C dx (ns.zip us)))
abbrev wMk (C : Addr) (ns : List Str) (S : List D → (List D → Prop) → Prop) (a : WA) : WE := fun Γ Q => a Γ fun ds => S ds fun xs => Q (.o C ns xs)
theorem e_mk {C : Addr} {ns : List Str} {S : List D → (List D → Prop) → Prop} {ta : TA} {wa : WA} (h : AOk K ta wa) : EOk K (tMake C (spMk K C ns S) [] E0 ta) (wMk C ns S wa) := fun Γ Q hq F0 H0 F H σ r QV w =>
  h Γ _ hq F0 H0 F H σ r _ fun vs ds F1 H1 z e1 ra => by
    intro x dx nx ndx ne
    rw [List.append_nil]
    have fx := fresh_back e1.fh nx
    have fdx := fresh_back e1.fh ndx
    have up : Ex H1 (upd (upd H1 dx (.own x)) x (.ins C dx [])) := fun a o q => by
      rw [upd_ne (ne_of_none q nx), upd_ne (ne_of_none q ndx)]
      exact q
    refine ⟨x, dx, vs, F1, ds, _, rfl, upd_same, e1.fh.trans up, ra, z, fun F' H' us xs hx e rx hl => ⟨rfl, ?_⟩⟩
    have f'x : F' x = none := by
      cases q : F' x with
      | none => rfl
      | some o =>
        have := e.nw x o q fx
        rw [upd_same] at this
        cases this
    have f'dx : F' dx = none := by
      cases q : F' dx with
      | none => rfl
      | some o =>
        have := e.nw dx o q fdx
        rw [upd_ne ne, upd_same] at this
        cases this
    have h'dx : H' dx = some (.own x) := e.hh.kp (by rw [upd_ne ne, upd_same])
    have ff : Ex F' (upd (upd F' dx (.own x)) x (.ins C dx (ns.zip us))) := fun a o q => by
      rw [upd_ne (ne_of_none q f'x), upd_ne (ne_of_none q f'dx)]
      exact q
    refine w (.ref x) _ (upd (upd F' dx (.own x)) x (.ins C dx (ns.zip us))) _ hx ?_ (.o (dx := dx) (vs := us) upd_same (by rw [upd_ne ne, upd_same]) hl (rx.mono ff))
    refine ⟨e1.ff.trans (e.ff.trans ff), ((e1.hh.trans (ExT.of up)).trans e.hh).mut (ExT.back e1.hh nx), fun a o q => ?_, ((e1.tb.trans (TabG.of up)).trans e.tb).mut (e.hh.kp upd_same) noTab_ins, fun a o q n => ?_⟩
    · by_cases ax : a = x
      · subst ax
        rw [upd_same] at q ⊢
        exact q
      · rw [upd_ne ax] at q ⊢
        by_cases ad : a = dx
        · subst ad
          rw [upd_same] at q
          cases q
          exact h'dx
        · rw [upd_ne ad] at q
          exact e.fh _ _ q
    · by_cases ax : a = x
      · rw [ax]
        exact ExT.back e1.hh nx
      · rw [upd_ne ax] at q
        by_cases ad : a = dx
        · rw [ad]
          exact ExT.back e1.hh ndx
        · rw [upd_ne ad] at q
          cases q1 : F1 a with
          | none =>
            have := e.nw a o q q1
            rw [upd_ne ax, upd_ne ad] at this
            exact ExT.back e1.hh this
          | some o1 => exact e1.nw a o1 q1 n
/-- an attribute, a property that tells one -/
def luD (f : Str) : List Str → List D → Option D
  | n :: ns, x :: xs => if f == n then some x else luD f ns xs
  | _, _ => none
theorem luD_ok {F : Hp} {f : Str} : ∀ {ns : List Str} {vs : List V} {xs : List D} {y : D}, RA K F vs xs → luD f ns xs = some y → ∃ v, (ns.zip vs).lookup f = some v ∧ R K F v y
  | [], _, _, _, _, h => by cases h
  | n :: ns, _, _, y, .nil, h => by cases h
  | n :: ns, _, _, y, .cons a r, h => by
    unfold luD at h
    rw [List.zip_cons_cons, List.lookup_cons]
    split at h
    · rename_i q
      rw [q]
      cases h
      exact ⟨_, rfl, a⟩
    · rename_i q
      rw [Bool.not_eq_true] at q
      rw [q]
      exact luD_ok r h
theorem at_ok {C : Addr} {f : Str} {Q : D → Prop} {F H : Hp} {v : V} {d : D} (e : Ex F H) (rv : R K F v d) (z : match (generalizing := false) d with | .o C' ns xs => C' = C ∧ (match luD f ns xs with | some y => Q y | none => False) | _ => False) : ∃ a dx fs u y, v = .ref a ∧ H a = some (.ins C dx fs) ∧ fs.lookup f = some u ∧ R K F u y ∧ Q y := by
  split at z
  · rename_i C' ns xs
    obtain ⟨rfl, z⟩ := z
    cases rv with
    | @o a _ dx _ vs _ h1 h2 h3 ra =>
      cases q : luD f ns xs with
      | none => rw [q] at z; exact z.elim
      | some y =>
        rw [q] at z
        obtain ⟨u, lu, ru⟩ := luD_ok ra q
        exact ⟨a, dx, _, u, y, rfl, e _ _ h1, lu, ru, z⟩
  · exact z.elim
/-- the one attribute -/
abbrev wAtC (C : Addr) (f : Str) (a : WE) : WE := fun Γ Q => a Γ fun d => ∃ y, d = .o C [f] [y] ∧ Q y
theorem luD_one {f : Str} {y : D} : luD f [f] [y] = some y := by
  unfold luD
  simp
theorem e_prop1 {C : Addr} {f : Str} {ta : TE} {wa : WE} (h : EOk K ta wa) : EOk K (tProp C (getSp C f) [] E0 ta) (wAtC C f wa) := fun Γ Q hq F0 H0 F H σ r QV w =>
  h Γ _ hq F0 H0 F H σ r _ fun v d F1 H1 z e1 rv => by
    obtain ⟨y, rfl, hy⟩ := z
    obtain ⟨a, dx, fs, u, y', rfl, ha, lu, ru, q⟩ := at_ok (Q := Q) (f := f) e1.fh rv ⟨rfl, by rw [luD_one]; exact hy⟩
    exact ⟨a, dx, fs, rfl, ha, a, dx, fs, u, rfl, ha, lu, w u y' F1 H1 q e1 ru⟩
/-- isinstance(x, C) -/
abbrev wIsC (C : Addr) (a : WE) : WE := fun Γ Q => a Γ fun x => match x with
  | .o C' _ _ => C' = C ∧ Q (.b true)
  | _ => match tyS x with
    | some _ => Q (.b false)
    | none => False
theorem tyS_mem {x : D} {n : String} (h : tyS x = some n) : n ∈ ["NoneType", "bool", "int", "str", "tuple", "list", "dict"] := by
  unfold tyS at h
  split at h <;> first | (cases h; simp) | cases h
theorem e_isC {C : Addr} {te : TE} {we : WE} (c : Cl K C) (h : EOk K te we) : EOk K (tCB (rIsi K) (tCons te (tCons (tC (.ref C)) tNil))) (wIsC C we) := fun Γ Q hq F0 H0 F H σ r QV w =>
  h Γ _ hq F0 H0 F H σ r _ fun v d F1 H1 z e1 rv => by
    have other : ∀ n, tyS d = some n → Q (.b false) → tCons (tC (.ref C)) tNil σ H1 fun vs H2 => rIsi K (v :: vs) H2 QV := fun n q z => ⟨v, .ref C, .type n, .ref C, false, rfl, .own C, tyX e1.fh rv q, c.no n (tyS_mem q), w _ _ F1 H1 z e1 (.b false)⟩
    have z : (match (generalizing := false) d with | .o C' _ _ => C' = C ∧ Q (.b true) | _ => match tyS d with | some _ => Q (.b false) | none => False) := z
    split at z
    · rename_i C' ns xs
      obtain ⟨rfl, z⟩ := z
      cases rv with
      | @o a _ dx _ vs _ h1 h2 h3 ra =>
        exact ⟨.ref a, _, _, _, true, rfl, .own _, .base (.ins (e1.fh _ _ h1) c.cls c.ha c.hn c.htk c.hm), by unfold PySem.W.kitOne; rw [if_pos (by simp)], w _ _ F1 H1 z e1 (.b true)⟩
    · cases q : tyS d with
      | none => rw [q] at z; exact z.elim
      | some n => rw [q] at z; exact other n q z
end
end DO
namespace DO
open PySem PySem.Spec PyProof.Rows L2 Evl Lay ErrX DL
abbrev Pr := Int × Int
def pt (p : Pr) : D := .t [.i p.1, .i p.2]
def tp (p : Pr) : PyData := .tuple [.int p.1, .int p.2]
theorem pt_inj {p q : Pr} (h : pt p = pt q) : p = q := by
  unfold pt at h
  injection h with h
  injection h with h1 h2
  injection h1 with h1
  injection h2 with h2 _
  injection h2 with h2
  exact Prod.ext h1 h2
theorem pyA_pt : ∀ X : List Pr, pyA (X.map pt) = some (X.map tp)
  | [] => rfl
  | p :: X => by
    show (py (pt p)).bind (fun d => (pyA (X.map pt)).map fun ds => d :: ds) = _
    rw [pyA_pt X]
    rfl
theorem eqv_tp (p q : Pr) : PyData.eqv (tp p) (tp q) = true ↔ p = q := by
  have z := eqv_eq (ID.p2 (k := 0) (a := p.1) (b := p.2)) (ID.p2 (k := 0) (a := q.1) (b := q.2)) (d := tp p) (e := tp q) rfl rfl
  rw [z]
  constructor
  · intro h
    injection h with h
    injection h with h1 h2
    injection h1 with h1
    injection h2 with h2 _
    injection h2 with h2
    exact Prod.ext h1 h2
  · rintro rfl
    rfl
theorem id_pt {k : Nat} {p : Pr} : ID (k + 1) (pt p) := ID.p2
theorem id_pts {k : Nat} {X : List Pr} : ID (k + 2) (.t (X.map pt)) := .t fun x hx => by
  obtain ⟨p, _, rfl⟩ := List.mem_map.mp hx
  exact id_pt
theorem id_ptsL {k : Nat} {X : List Pr} : ID (k + 2) (.l (X.map pt)) := .l fun x hx => by
  obtain ⟨p, _, rfl⟩ := List.mem_map.mp hx
  exact id_pt
theorem shp {X : List Pr} : SeqAt.shaped (.list (X.map tp)) = true := by
  obtain ⟨d, p1, p2, p3⟩ := (id_ptsL (k := 0) (X := X)).py
  have : d = .list (X.map tp) := by
    have q : py (.l (X.map pt)) = some (.list (X.map tp)) := by
      show (pyA (X.map pt)).map PyData.list = _
      rw [pyA_pt]
      rfl
    rw [q] at p1
    exact (Option.some.inj p1).symm
  subst this
  unfold SeqAt.shaped
  rw [p2, decide_eq_true (Nat.le_trans p3 (by decide))]
  rfl
theorem any_tp {X : List Pr} {p : Pr} : ((X.map tp).any fun z => PyData.eqv z (tp p)) = decide (p ∈ X) := by
  rw [Bool.eq_iff_iff, decide_eq_true_iff]
  constructor
  · intro h
    obtain ⟨z, hz, ez⟩ := List.any_eq_true.mp h
    obtain ⟨q, hq, rfl⟩ := List.mem_map.mp hz
    have := (eqv_tp q p).mp ez
    subst this
    exact hq
  · intro h
    exact List.any_eq_true.mpr ⟨tp p, List.mem_map.mpr ⟨p, h, rfl⟩, (eqv_tp p p).mpr rfl⟩
theorem notIn_of {X : List Pr} {p : Pr} {Q : D → Prop} (h : Q (.b (decide (p ∉ X)))) : wNotInD (pt p) (.l (X.map pt)) Q :=
  ⟨tp p, X.map pt, X.map tp, rfl, rfl, pyA_pt X, rfl, shp, by rw [any_tp, show (!decide (p ∈ X)) = decide (p ∉ X) by simp]; exact h⟩
section
variable {K : PySem.W.Frag}
def wMaxL : List D → (D → Prop) → Prop := fun xs Q => ∃ ns : List Int, xs = [.l (ns.map D.i)] ∧ 0 < ns.length ∧ ∀ m, m ∈ ns → (∀ y, y ∈ ns → y ≤ m) → Q (.i m)
def wMinL : List D → (D → Prop) → Prop := fun xs Q => ∃ ns : List Int, xs = [.l (ns.map D.i)] ∧ 0 < ns.length ∧ ∀ m, m ∈ ns → (∀ y, y ∈ ns → m ≤ y) → Q (.i m)
theorem one_l {F : Hp} {vs : List V} {ys : List D} (r : RA K F vs [.l ys]) : ∃ p us, vs = [.ref p] ∧ F p = some (.lst us) ∧ RA K F us ys := by
  cases r with
  | cons a r =>
    cases r
    cases a with
    | l h r => exact ⟨_, _, rfl, h, r⟩
theorem kx_maxL (K : PySem.W.Frag) {X : Cx} (hc : X.calm = true) (hK : X.K = K := by rfl) : CallR X (.builtin "max") (rMax K) := hK ▸ cr_max hc
theorem kx_minL (K : PySem.W.Frag) {X : Cx} (hc : X.calm = true) (hK : X.K = K := by rfl) : CallR X (.builtin "min") (rMin K) := hK ▸ cr_min hc
theorem c_maxL : COk K (rMax K) wMaxL := fun xs Q ⟨ns, e0, hl, hq⟩ F H vs e r QV q => by
  subst e0
  obtain ⟨p, us, rfl, h, ra⟩ := one_l r
  have := ra.toInts
  subst this
  exact ⟨p, ns, rfl, sq_of (e _ _ h), hl, fun m h1 h2 => q _ _ F H (hq m h1 h2) (Ext.refl e) (.i m)⟩
theorem c_minL : COk K (rMin K) wMinL := fun xs Q ⟨ns, e0, hl, hq⟩ F H vs e r QV q => by
  subst e0
  obtain ⟨p, us, rfl, h, ra⟩ := one_l r
  have := ra.toInts
  subst this
  exact ⟨p, ns, rfl, sq_of (e _ _ h), hl, fun m h1 h2 => q _ _ F H (hq m h1 h2) (Ext.refl e) (.i m)⟩
/-- by columns, then by lines -/
def lexle (p q : Pr) : Prop := p.1 < q.1 ∨ (p.1 = q.1 ∧ p.2 ≤ q.2)
theorem lexle_anti {p q : Pr} (h1 : lexle p q) (h2 : lexle q p) : p = q := by
  unfold lexle at h1 h2
  exact Prod.ext (by omega) (by omega)
/-- sorted(xs), xs a list of pairs of ints -/
def rSortQ (K : PySem.W.Frag) : List V → Hp → VK → Prop := fun vs H Q => ∃ (a : Addr) (Z : List (V × Pr)), vs = [.ref a] ∧ SqL K H a (Z.map (·.1)) ∧ (∀ z ∈ Z, ∃ t, z.1 = .ref t ∧ SqT K H t [.int z.2.1, .int z.2.2]) ∧
  ∀ (Z' : List (V × Pr)) (p : Addr), Z'.Perm Z → (Z'.map (·.2)).Pairwise lexle → H p = none → Q (.ref p) (upd H p (.lst (Z'.map (·.1))))
theorem perm_lift {α β : Type} (f : α → β) : ∀ {ys : List β} {Z : List α}, ys.Perm (Z.map f) → ∃ Z' : List α, Z'.Perm Z ∧ Z'.map f = ys
  | [], Z, h => by
    have : Z = [] := List.map_eq_nil_iff.mp h.symm.eq_nil
    subst this
    exact ⟨[], List.Perm.refl _, rfl⟩
  | y :: ys, Z, h => by
    have hy : y ∈ Z.map f := h.mem_iff.mp (List.mem_cons_self ..)
    obtain ⟨z, hz, rfl⟩ := List.mem_map.mp hy
    obtain ⟨A, B, rfl⟩ := List.append_of_mem hz
    have p2 : (A ++ z :: B).Perm (z :: (A ++ B)) := List.perm_middle
    have h2 : ys.Perm ((A ++ B).map f) := (h.trans (p2.map f)).cons_inv
    obtain ⟨Z', q1, q2⟩ := perm_lift f h2
    exact ⟨z :: Z', (q1.cons z).trans p2.symm, by rw [List.map_cons, q2]⟩
theorem snds {kv : Value → Pr} : ∀ {Z : List (V × Pr)} {out : List Value}, Z.map (·.1) = out.map backV → (∀ u ∈ out, ∃ a, u = Value.ref a) → (∀ z ∈ Z, ∀ t, z.1 = .ref t → kv (.ref t) = z.2) → Z.map (·.2) = out.map kv
  | [], [], _, _, _ => rfl
  | [], _ :: _, h, _, _ => by cases h
  | _ :: _, [], h, _, _ => by cases h
  | z :: Z, u :: out, h, h1, h2 => by
    rw [List.map_cons, List.map_cons] at h
    injection h with e1 e2
    obtain ⟨a, rfl⟩ := h1 u (List.mem_cons_self ..)
    rw [List.map_cons, List.map_cons, snds e2 (fun v hv => h1 v (List.mem_cons_of_mem _ hv)) fun y hy => h2 y (List.mem_cons_of_mem _ hy), h2 z (List.mem_cons_self ..) a e1]
open Classical in
theorem kx_sortQ (K : PySem.W.Frag) {X : Cx} (hK : X.K = K := by rfl) : CallR X (.builtin "sorted") (rSortQ K) := by
  subst hK
  intro pins s σ H vs us Q I r h
  obtain ⟨a, Z, rfl, hs, hz, q⟩ := h
  obtain ⟨its, rv, hl, hsz⟩ := I.list hs
  rw [Vals.ref1 r]
  have refs : ∀ x ∈ Z.map (·.1), ∃ a, x = V.ref a := fun x hx => by
    obtain ⟨z, hz', rfl⟩ := List.mem_map.mp hx
    obtain ⟨t, e, _⟩ := hz z hz'
    exact ⟨t, e⟩
  obtain ⟨e1, e2⟩ := refs_back rv refs
  have kdef : ∃ kv : Value → Pr, ∀ z ∈ Z, ∀ t, z.1 = .ref t → kv (.ref t) = z.2 := by
    refine ⟨fun u => match u with | .ref t => (if h : ∃ p : Pr, SqT X.K H t [.int p.1, .int p.2] then Classical.choose h else (0, 0)) | _ => (0, 0), fun z hz' t et => ?_⟩
    obtain ⟨t', e, st⟩ := hz z hz'
    rw [et] at e
    cases e
    have ex : ∃ p : Pr, SqT X.K H t [.int p.1, .int p.2] := ⟨z.2, st⟩
    show (if h : ∃ p : Pr, SqT X.K H t [.int p.1, .int p.2] then Classical.choose h else (0, 0)) = z.2
    rw [dif_pos ex]
    have e3 := I.tuple_inj (Classical.choose_spec ex) st
    injection e3 with e4 e5
    injection e4 with e4
    injection e5 with e5 _
    injection e5 with e5
    exact Prod.ext e4 e5
  obtain ⟨kv, hk⟩ := kdef
  refine SrtO.sorted_pairsO (k := kv) hl.isList (by rw [← rv.length]; exact hsz) (fun v hv => ?_) fun h' d out h1 h2 kp hd hn => ?_
  · obtain ⟨t, rfl⟩ := e2 v hv
    have hm : V.ref t ∈ Z.map (·.1) := by rw [e1]; exact List.mem_map.mpr ⟨_, hv, rfl⟩
    obtain ⟨z, hz', ez⟩ := List.mem_map.mp hm
    obtain ⟨t', e, st⟩ := hz z hz'
    have ez : z.1 = V.ref t := ez
    rw [ez] at e
    cases e
    obtain ⟨its2, r2, ⟨o, ho, hc, n, hd⟩, _⟩ := I.tuple st
    obtain ⟨u1, u2, rfl, ri, rj⟩ := vals2 r2
    obtain ⟨t1, rfl⟩ := ri
    obtain ⟨t2, rfl⟩ := rj
    rw [hk z hz' t ez]
    exact ⟨t, o, t1, t2, n, rfl, ho, hc, hd⟩
  · have h3 : ∀ u ∈ out, ∃ a, u = Value.ref a := fun u hu => e2 u (h2.perm.mem_iff.mp hu)
    obtain ⟨n, hn⟩ := hn
    have pm : (out.map backV).Perm (Z.map (·.1)) := by
      rw [e1]
      exact h2.perm.map backV
    obtain ⟨Z', q1, q2⟩ := perm_lift _ pm
    have sn := snds (kv := kv) q2 h3 fun z hz' => hk z (q1.mem_iff.mp hz')
    have pw : (Z'.map (·.2)).Pairwise lexle := by
      rw [sn, List.pairwise_map]
      refine h1.imp fun {x y} z => ?_
      have := SrtO.lexB_no.mp z
      unfold lexle
      omega
    refine ⟨.ref d, upd H d (.lst (Z'.map (·.1))), I.laid (t' := s.toks) kp hd ⟨?_, out, n, by rw [q2]; exact vals_back h3, hn⟩, rfl, q Z' d q1 pw (I.hok.fresh hd)⟩
    rw [List.length_map, q1.length_eq]
    rw [List.length_map] at hsz
    exact hsz
def wSortQ : List D → (D → Prop) → Prop := fun xs Q => ∃ L : List Pr, xs = [.l (L.map pt)] ∧ ∀ L' : List Pr, L'.Perm L → L'.Pairwise lexle → Q (.l (L'.map pt))
theorem pt_tupI {F H : Hp} {v : V} {p : Pr} (e : Ex F H) (r : R K F v (pt p)) : TupI K H v [p.1, p.2] := by
  cases r with
  | @t a vs _ h ra =>
    have := (ra.toInts (ns := [p.1, p.2]))
    subst this
    exact ⟨a, rfl, ex_t e h⟩
theorem ra_pairs {F : Hp} : ∀ {vs : List V} {L : List Pr}, RA K F vs (L.map pt) → ∃ Z : List (V × Pr), Z.map (·.1) = vs ∧ Z.map (·.2) = L ∧ ∀ z ∈ Z, R K F z.1 (pt z.2)
  | [], [], _ => ⟨[], rfl, rfl, fun z hz => by cases hz⟩
  | [], _ :: _, h => by cases h
  | _ :: _, [], h => by cases h
  | u :: vs, p :: L, h => by
    cases h with
    | cons a r =>
      obtain ⟨Z, h1, h2, h3⟩ := ra_pairs r
      exact ⟨(u, p) :: Z, by rw [List.map_cons, h1], by rw [List.map_cons, h2], fun z hz => by
        rcases List.mem_cons.mp hz with rfl | hz
        · exact a
        · exact h3 z hz⟩
theorem ra_of {F : Hp} : ∀ {Z : List (V × Pr)}, (∀ z ∈ Z, R K F z.1 (pt z.2)) → RA K F (Z.map (·.1)) ((Z.map (·.2)).map pt)
  | [], _ => .nil
  | z :: Z, h => .cons (h z (List.mem_cons_self ..)) (ra_of fun y hy => h y (List.mem_cons_of_mem _ hy))
theorem c_sortQ : COk K (rSortQ K) wSortQ := fun xs Q ⟨L, e0, hq⟩ F H vs e r QV q => by
  subst e0
  obtain ⟨a, us, rfl, h, ra⟩ := one_l r
  obtain ⟨Z, z1, z2, z3⟩ := ra_pairs ra
  refine ⟨a, Z, rfl, by rw [z1]; exact sq_of (e _ _ h), fun z hz => ?_, fun Z' p pm pw np => ?_⟩
  · obtain ⟨t, e1, st⟩ := pt_tupI e (z3 z hz)
    exact ⟨t, e1, st⟩
  · have z3' : ∀ z ∈ Z', R K F z.1 (pt z.2) := fun z hz => z3 z (pm.mem_iff.mp hz)
    have pm2 : (Z'.map (·.2)).Perm L := z2 ▸ pm.map (·.2)
    exact q _ _ (upd F p (.lst (Z'.map (·.1)))) _ (hq (Z'.map (·.2)) pm2 pw) (Ext.new e np) (.l upd_same ((ra_of z3').mono (Ex.new (fresh_back e np))))
end
end DO
namespace DL
open PySem PySem.Spec PyProof.Rows L2 Evl Lay ErrX
section
variable {K : PySem.W.Frag}
/-- what a list of one's own holds -/
def ownL : Sl → Option (List D)
  | .w (.l xs) => some xs
  | .w (.la _ _ xs) => some xs
  | _ => none
theorem Rep.own {F0 H0 F H : Hp} {σ : L2.St} {Γ : G} (r : Rep K F0 H0 F H σ Γ) {k : Nat} {xs : List D} (h : ownL (nth Γ k) = some xs) : ∃ p vs, σ[k]? = some (some (.ref p)) ∧ H p = some (.lst vs) ∧ RA K F vs xs := by
  cases q : nth Γ k with
  | u => rw [q] at h; cases h
  | d x => rw [q] at h; cases h
  | w o =>
    rw [q] at h
    obtain ⟨p, ho, a, b, c, d, f⟩ := r.ow k _ q
    cases o with
    | s _ _ => cases h
    | l ys =>
      cases h
      obtain ⟨vs, rfl, ra⟩ := f
      exact ⟨p, vs, a, d, ra⟩
    | la q vs ys =>
      cases h
      obtain ⟨_, rfl, ra⟩ := f
      exact ⟨p, vs, a, d, ra⟩
abbrev inOwn (neg : Bool) (x : D) (xs : List D) (Q : D → Prop) : Prop := ∃ d ds, py x = some d ∧ pyA xs = some ds ∧ SeqAt.shaped d = true ∧ SeqAt.shaped (.list ds) = true ∧ Q (.b (xor neg (ds.any fun z => PyData.eqv z d)))
abbrev wInO (neg : Bool) (k : Nat) (a : WE) : WE := fun Γ Q => a Γ fun x => match ownL (nth Γ k) with
  | some xs => inOwn neg x xs Q
  | none => False
theorem inO_ok {neg : Bool} {k : Nat} {Q : D → Prop} {x : D} {F0 H0 F H : Hp} {σ : L2.St} {Γ : G} {v : V} (r : Rep K F0 H0 F H σ Γ) (rv : R K F v x) (z : match (generalizing := false) ownL (nth Γ k) with | some xs => inOwn neg x xs Q | none => False) :
    ∃ p d ds, σ[k]? = some (some (.ref p)) ∧ Dp K H v d ∧ Dp K H (.ref p) (.list ds) ∧ SeqAt.shaped d = true ∧ SeqAt.shaped (.list ds) = true ∧ Q (.b (xor neg (ds.any fun z => PyData.eqv z d))) := by
  cases q : ownL (nth Γ k) with
  | none => rw [q] at z; exact z.elim
  | some xs =>
    rw [q] at z
    obtain ⟨d, ds, h1, h2, s1, s2, hq⟩ := z
    obtain ⟨p, vs, a, hd, ra⟩ := r.own q
    exact ⟨p, d, ds, a, R.dp r.fh rv h1, .lst (sq_of hd) (RA.dp r.fh ra h2), s1, s2, hq⟩
theorem e_notInO {k : Nat} {ta : TE} {wa : WE} (h : EOk K ta wa) : EOk K (tOp (rNotInD K) ta (tVar k)) (wInO true k wa) := fun Γ Q hq F0 H0 F H σ r QV w =>
  h Γ _ hq F0 H0 F H σ r _ fun v x F1 H1 z e1 rv => by
    obtain ⟨p, d, ds, a, h1, h2, s1, s2, hQ⟩ := inO_ok (r.ext e1) rv z
    rw [Bool.true_xor] at hQ
    exact ⟨.ref p, a, d, ds, h1, h2, s1, s2, w _ _ F1 H1 hQ e1 (.b _)⟩
end
end DL
namespace DL
open PySem PySem.Spec PyProof.Rows L2 Evl Lay ErrX
section
variable {K : PySem.W.Frag}
/-- l[i], l one's own -/
abbrev wIxO (k : Nat) (b : WE) : WE := fun Γ Q => match ownL (nth Γ k) with
  | some xs => b Γ fun y => match y with
    | .i i => ∃ x, L2.atI xs i = some x ∧ Q x
    | _ => False
  | none => False
theorem e_ixO {k : Nat} {tb : TE} {wb : WE} (hb : EOk K tb wb) : EOk K (tOp (rIxL K) (tVar k) tb) (wIxO k wb) := fun Γ Q hq F0 H0 F H σ r QV w => by
  cases q : ownL (nth Γ k) with
  | none =>
    have hq : (match (generalizing := false) ownL (nth Γ k) with | some xs => wb Γ fun y => (match y with | .i i => ∃ x, L2.atI xs i = some x ∧ Q x | _ => False) | none => False) := hq
    rw [q] at hq
    exact hq.elim
  | some xs =>
    have hq : (match (generalizing := false) ownL (nth Γ k) with | some xs => wb Γ fun y => (match y with | .i i => ∃ x, L2.atI xs i = some x ∧ Q x | _ => False) | none => False) := hq
    rw [q] at hq
    obtain ⟨p, vs, a, hd, ra⟩ := r.own q
    refine ⟨.ref p, a, hb Γ _ hq F0 H0 F H σ r _ fun u y F1 H1 z e1 ru => ?_⟩
    cases ru with
    | i i =>
      obtain ⟨x, hx, hQ⟩ := z
      obtain ⟨v, hv, rv⟩ := (ra.mono e1.ff).atI hx
      exact ⟨p, vs, i, v, rfl, rfl, sq_of (e1.hh.kp hd), hv, w _ _ F1 H1 hQ e1 rv⟩
    | _ => exact z.elim
end
end DL
namespace DO
open PySem PySem.Spec PyProof.Rows L2 Evl Lay ErrX DL
/-- the j-th statement of a class -/
def clsFn (s : Stmt) (j : Nat) : Stmt := match s with
  | .ClassDef _ _ _ body _ _ _ _ _ _ _ => body.getD j (.Pass ⟨0, 0, 0, 0⟩)
  | _ => .Pass ⟨0, 0, 0, 0⟩
/-- where a property stands, and what it tells -/
structure PropD (P : Program) (w : World) (K : PySem.W.Frag) (mg : Str → Option Value) (base : Heap) (C : Addr) (f fld : Str) (k : Nat) : Prop where
  cls : Cls K C
  ex : ∃ p g fd, PropOf K C f p g ∧ FnOk P w K mg base CX0 k g fd ["self"] (getSp C fld) ∧ Binds K fd ["self"] []
theorem pe_propD {X : Cx} {C : Addr} {f fld : Str} {k : Nat} {e : Expr} {pos : Pos} {ta : TE} (D : PropD X.prog X.w X.K X.mg X.base C f fld k) (room : Room (k + 1) X.A) (he : PE X e ta) (hab : attributeBase e f X.env (eval e X.env) = eval e X.env) :
    PE X (.Attribute e f pos) (tProp C (getSp C fld) [] E0 ta) := by
  obtain ⟨p, g, fd, hp, F, bd⟩ := D.ex
  exact pe_prop he D.cls hp F room bd .nil (fun _ _ _ _ _ _ _ z => z.elim) hab
theorem propD_mk {P : Program} {w : World} {K : PySem.W.Frag} {mg : Str → Option Value} {base : Heap} {C p g : Addr} {f fld qual : Str} {st : Stmt} {fd : FuncData} {N : List Str} {p1 p2 p3 : Pos} (c : Cls K C) (n : NoAttr K C fld) (hp : PropOf K C f p g) (F : Fun K f qual st g fd) (S : FnScope N ["self"] (defScope st)) (hN : N[0]? = some ("self" : Str))
    (hb : defBody st = [.Return (some (.Attribute (.Name "self" p1) fld p2)) p3]) (bd : Binds K fd ["self"] []) : PropD P w K mg base C f fld 1 := by
  obtain ⟨oc, od, kV, doc, pm, an, cdv, ct, osl, rfl, lk, code⟩ := F.ex
  exact ⟨c, p, g, _, hp, fn_getter (k := 0) lk code S hN hb c n, bd⟩
/-- a class's __init__ by its body -/
theorem mkok {P : Program} {w : World} {K : PySem.W.Frag} {mg : Str → Option Value} {base : Heap} {x qual : Str} {st : Stmt} {f C : Addr} {fd : FuncData} {N ps : List Str} {k : Nat} {sp : Sp} (hm : mg x = some (.ref C)) (M : Mk K C f) (F : Fun K "__init__" qual st f fd) (bd : Binds K fd ps []) (S : FnScope N ps (defScope st)) (len : ∀ vs H Q E, sp vs H Q E → vs.length = ps.length)
    (body : ∀ (cdv : Value) (A : Around) (outer : List Env) (s : Shared) (H : Hp) (vs : List V) (Q : VK) (E : XK), Room k (cxOf CX0 P w K mg base N qual (defScope st) f cdv A outer s H E).A → (cxOf CX0 P w K mg base N qual (defScope st) f cdv A outer s H E).A.guards = some [] → sp vs H Q E →
      ∃ t, PSs (cxOf CX0 P w K mg base N qual (defScope st) f cdv A outer s H E).nox (defBody st) t ∧ t { nx := fun _ H' => Q .non H', rt := Q } (start N vs) H) : MkOk P w K mg base x C (k + 1) ps sp := by
  refine ⟨⟨f, fd, fng F S len fun cdv A outer s H vs Q E hr hg h => ?_, bd, M⟩, hm⟩
  obtain ⟨t, ht, q⟩ := body cdv A outer s H vs Q E hr hg h
  exact ⟨t, ht.nox, q⟩
/-- self is not told -/
theorem rep_self {K : PySem.W.Frag} {F H : Hp} {x : Addr} {ws : List V} {ds : List D} {N : List Str} (e : Ex F H) (r : RA K F ws ds) (hl : ds.length + 1 ≤ N.length) : Rep K F H F H (start N (.ref x :: ws)) (.u :: (ds.map Sl.d ++ List.replicate (N.length - (ds.length + 1)) .u)) := by
  have r0 := rep_start (vs := .non :: ws) (ds := .n :: ds) (N := N) e (.cons .n r) hl
  exact r0.drop (k := 0) (o := some (.ref x))
section
variable {K : PySem.W.Frag}
/-- f(..) alone; self.a = g(..) -/
theorem init2 {C : Addr} {fld : Str} {N : List Str} {Q : VK} {ws : List V} {ds : List D} {x dx : Addr} {F H : Hp} {t1 t2 : TE} {w1 w2 : WE} {Pd : D → Prop} (c : Cls K C) (n : NoAttr K C fld) (h1 : EOk K t1 w1) (h2 : EOk K t2 w2) (hx : H x = some (.ins C dx [])) (e : Ex F H) (ra : RA K F ws ds) (hl : ds.length + 1 ≤ N.length)
    (hq : w1 (.u :: (ds.map Sl.d ++ List.replicate (N.length - (ds.length + 1)) .u)) fun _ => w2 (.u :: (ds.map Sl.d ++ List.replicate (N.length - (ds.length + 1)) .u)) Pd)
    (fin : ∀ F' H' v y, Pd y → Ext F H F' H' → R K F' v y → Q .non (upd H' x (.ins C dx [(fld, v)]))) :
    t1 (start N (.ref x :: ws)) H fun _ H1 => sFld K (tVar 0) t2 fld { nx := fun _ H' => Q .non H', rt := Q } (start N (.ref x :: ws)) H1 := by
  have r := rep_self (x := x) e ra hl
  refine h1 _ _ hq F H F H _ r _ fun v y F1 H1 z e1 rv => ?_
  refine h2 _ _ z F H F1 H1 _ (r.ext e1) _ fun v2 y2 F2 H2 z2 e2 rv2 => ?_
  exact ⟨.ref x, rfl, x, C, dx, [], rfl, (e1.trans e2).hh.kp hx, c, n, by decide, fin F2 H2 v2 y2 z2 (e1.trans e2) rv2⟩
end
end DO
namespace Lay
open PySem PySem.Spec PyProof.Rows L2 Evl
end Lay
namespace DO
open PySem PySem.Spec PyProof.Rows L2 Evl Lay ErrX DL
theorem shaped_id {k : Nat} {x : D} {d : PyData} (h : ID k x) (hp : py x = some d) (hk : k ≤ 64 := by decide) : SeqAt.shaped d = true := by
  obtain ⟨e, p1, p2, p3⟩ := h.py
  rw [hp] at p1
  cases p1
  unfold SeqAt.shaped
  rw [p2, decide_eq_true (Nat.le_trans p3 hk)]
  rfl
theorem shp1 {q : Pr} : SeqAt.shaped (tp q) = true := shaped_id (id_pt (k := 0) (p := q)) rfl
theorem shpT {X : List Pr} : SeqAt.shaped (.tuple (X.map tp)) = true := shaped_id (id_pts (k := 0) (X := X)) (by show (pyA (X.map pt)).map PyData.tuple = _; rw [pyA_pt]; rfl)
def rInT (K : PySem.W.Frag) (neg : Bool) : V → V → Hp → VK → Prop := fun x y H Q => ∃ (L : List Pr) (q : Pr), Dp K H x (tp q) ∧ Dp K H y (.tuple (L.map tp)) ∧ Q (.bl (xor neg (decide (q ∈ L)))) H
theorem kx_inT (K : PySem.W.Frag) {X : Cx} (hu : X.A.units + 65 < cLine) (hK : X.K = K := by rfl) : OpR X (compareOp .In) (rInT K false) := by
  subst hK
  intro pins s σ H x y v u Q I rx ry h
  obtain ⟨L, q, hx, hy, hq⟩ := h
  obtain ⟨as, r1⟩ := Dp.reads I _ x v hx rx
  obtain ⟨bs, r2⟩ := Dp.reads I _ y u hy ry
  refine SeqAt.in_tuple_reads r2 r1 (SeqAt.canLay_of_shaped shpT) (SeqAt.canLay_of_shaped shp1) (room_in_shaped shp1 hu) ?_
  have e : ((L.map tp).any fun z => PyData.eqv z (tp q)) = decide (q ∈ L) := any_tp
  show EP X pins σ Q (.bool ((L.map tp).any fun z => PyData.eqv z (tp q))) s
  rw [e]
  rw [Bool.false_xor] at hq
  exact ⟨.bl _, H, I, rfl, hq⟩
theorem kx_notInT (K : PySem.W.Frag) {X : Cx} (hu : X.A.units + 65 < cLine) (hK : X.K = K := by rfl) : OpR X (compareOp .NotIn) (rInT K true) := by
  subst hK
  intro pins s σ H x y v u Q I rx ry h
  obtain ⟨L, q, hx, hy, hq⟩ := h
  obtain ⟨as, r1⟩ := Dp.reads I _ x v hx rx
  obtain ⟨bs, r2⟩ := Dp.reads I _ y u hy ry
  refine SeqAt.notIn_tuple_reads r2 r1 (SeqAt.canLay_of_shaped shpT) (SeqAt.canLay_of_shaped shp1) (room_in_shaped shp1 hu) ?_
  have e : ((L.map tp).any fun z => PyData.eqv z (tp q)) = decide (q ∈ L) := any_tp
  show EP X pins σ Q (.bool (!(L.map tp).any fun z => PyData.eqv z (tp q))) s
  rw [e]
  rw [Bool.true_xor] at hq
  exact ⟨.bl _, H, I, rfl, hq⟩
section
variable {K : PySem.W.Frag}
def wInT (neg : Bool) : D → D → (D → Prop) → Prop := fun x y Q => ∃ (L : List Pr) (q : Pr), x = pt q ∧ y = .t (L.map pt) ∧ Q (.b (xor neg (decide (q ∈ L))))
theorem o_inT {neg : Bool} : OOk K (rInT K neg) (wInT neg) := fun x y Q ⟨L, q, h1, h2, hq⟩ F H vx vy e rx ry QV w => by
  subst h1 h2
  exact ⟨L, q, R.dp e rx rfl, R.dp e ry (by show (pyA (L.map pt)).map PyData.tuple = _; rw [pyA_pt]; rfl), w _ _ F H hq (Ext.refl e) (.b _)⟩
end
end DO
namespace Lay
open PySem PySem.Spec PyProof.Rows L2 DL
/-- parameters by name in another order -/
def g210 {α : Type} : List α → List α
  | [a, b, c] => [c, b, a]
  | l => l
theorem g210_vals : ∀ {zs : List V} {ws : List Value}, Vals zs ws → Vals (g210 zs) (g210 ws)
  | _, _, .cons a (.cons b (.cons c .nil)) => .cons c (.cons b (.cons a .nil))
  | _, _, .nil => .nil
  | _, _, .cons a .nil => .cons a .nil
  | _, _, .cons a (.cons b .nil) => .cons a (.cons b .nil)
  | _, _, .cons a (.cons b (.cons c (.cons d r))) => .cons a (.cons b (.cons c (.cons d r)))
end Lay
namespace DL
open PySem PySem.Spec PyProof.Rows L2 Lay
theorem RA.g210 {K : PySem.W.Frag} {F : Hp} : ∀ {vs : List V} {ds : List D}, RA K F vs ds → RA K F (Lay.g210 vs) (Lay.g210 ds)
  | _, _, .cons a (.cons b (.cons c .nil)) => .cons c (.cons b (.cons a .nil))
  | _, _, .nil => .nil
  | _, _, .cons a .nil => .cons a .nil
  | _, _, .cons a (.cons b .nil) => .cons a (.cons b .nil)
  | _, _, .cons a (.cons b (.cons c (.cons d r))) => .cons a (.cons b (.cons c (.cons d r)))
end DL
namespace DL
open PySem PySem.Spec PyProof.Rows L2 Evl Lay ErrX
section
variable {K : PySem.W.Frag}
def noOwn : G → Bool
  | [] => true
  | .w _ :: _ => false
  | _ :: Γ => noOwn Γ
theorem noOwn_nth : ∀ {Γ : G} {k : Nat} {o : Own}, noOwn Γ = true → nth Γ k = .w o → False
  | [], _, _, _, h => by simp [nth] at h
  | .u :: Γ, 0, _, _, h => by simp [nth] at h
  | .d _ :: Γ, 0, _, _, h => by simp [nth] at h
  | .w _ :: Γ, _, _, n, _ => by simp [noOwn] at n
  | .u :: Γ, k + 1, o, n, h => noOwn_nth (Γ := Γ) (k := k) n h
  | .d _ :: Γ, k + 1, o, n, h => noOwn_nth (Γ := Γ) (k := k) n h
theorem Rep.mut {F0 H0 F H : Hp} {σ : L2.St} {Γ : G} (r : Rep K F0 H0 F H σ Γ) (no : noOwn Γ = true) {p : Addr} {o u : HO} (hf : F p = none) (h0 : H0 p = none) (hp : H p = some u) (nt : NoTab p u) : Rep K F0 H0 F (upd H p o) σ Γ :=
  ⟨r.f0, r.h0.mut h0, fun a ob q => by
    rw [upd_ne (ne_of_none q hf)]
    exact r.fh a ob q, r.tb.mut hp nt, r.nw, r.len, r.sl, fun k o h => (noOwn_nth no h).elim, fun k m o o' p _ h => (noOwn_nth no h).elim⟩
end
end DL
namespace DO
open PySem PySem.Spec PyProof.Rows L2 Evl Lay ErrX DL
def prL (l : List Int) : Pr := (l.getD 0 0, l.getD 1 0)
section
variable {P : Program} {w : World} {s : Shared} {A : Around} {E : Value → Shared → Prop}
theorem pair_at {h : Heap} {b : Addr} {x y : Int} (t : TS.TupInts h (.ref b) [x, y]) : Srt.IsPair h (.ref b) x y := by
  obtain ⟨a, xs, e, ⟨o, ho, hc, n, hd⟩, i⟩ := t
  obtain ⟨l⟩ := xs
  cases i with
  | cons n1 t1 i =>
    cases i with
    | cons n2 t2 i =>
      cases i with
      | nil => exact ⟨a, o, t1, t2, n, e, ho, hc, hd⟩
def kQ (h : Heap) (v : Value) : Pr := prL (TS.intsOf h v)
theorem sorted_setQ {a : Addr} {L : List (Addr × List Int)} {es : Array (Int × Value)} {ep : Nat} {t : SetTable} {Q : Value → Shared → Prop} (R : SetTR P w s.heap a L es ep t) (hh : A.handled = none) (h2 : ∀ p ∈ L, ∃ x y, p.2 = [x, y])
    (hQ : ∀ s' p (out : List Value) (c : Nat) (L' : List (Addr × List Int)), (∀ b o, s.heap.get? b = some o → s'.heap.get? b = some o) → s'.gens = s.gens → s'.os = s.os → s.heap.objs.size ≤ p →
      s'.heap.get? p = some (seqObj "list" out.toArray c) → L'.map (fun q => Value.ref q.1) = out → L'.Perm L → (L'.map fun q => prL q.2).Pairwise lexle → Q (.ref p) s') :
    wpAny (model P w) A (call (.builtin "sorted") [.ref a]) Q E s := by
  obtain ⟨o, ho, hex, hd⟩ := R.ob
  refine Calls.call_function_entry kind_sorted plain_sorted entry_sorted (args_sorted1 _) ?_
  unfold Builtin.«sorted»
  refine wpAny_bind (m := checkCount "sorted" 1 1 _) (wpAny_pure ?_)
  have few := R.few
  have sz := R.size
  refine wpAny_bind (collect_set (A := A.in1) hh ⟨o, ho, hex.1, hd⟩ R.fits (by unfold scanBound; omega) R.tab.ris R.led fun s1 vs k1 hz g1 o1 pm => ?_)
  have hes : es.toList.map (·.2) = L.map fun q => Value.ref q.1 := by
    rw [R.rows]
    unfold rowsOf
    rw [List.map_map] <;> rfl
  rw [hes] at pm
  have hvl : vs.length < 64 := by rw [pm.length_eq, List.length_map]; exact few
  have hz2 : vs.length ≤ sizeLine := by rw [sizeLine_eq]; omega
  refine wpAny_bind (wpAny_newList ?_ hz2)
  have hoL : (s1.heap.push (seqObj "list" vs.toArray 0)).get? s1.heap.objs.size = some (seqObj "list" vs.toArray 0) := Heap.get?_push_size _ rfl
  generalize hG : s1.heap.push (seqObj "list" vs.toArray 0) = G at hoL ⊢
  have kG : ∀ b u, s.heap.get? b = some u → G.get? b = some u := fun b u e => by
    rw [← hG]
    exact Heap.get?_push_of_some _ (k1 b u e)
  have tk : ∀ q ∈ L, TS.TupInts G (.ref q.1) q.2 := fun q hq => tupInts_of (P := P) (w := w) (isT_keep (R.tup q hq) kG)
  have hp : ∀ v ∈ vs, Srt.IsPair G v (kQ G v).1 (kQ G v).2 := fun v hv => by
    obtain ⟨q, hq, e⟩ := List.mem_map.mp (pm.mem_iff.mp hv)
    obtain ⟨x, y, exy⟩ := h2 q hq
    have tq := tk q hq
    have ei : kQ G v = (x, y) := by
      rw [← e]
      unfold kQ
      rw [tq.ints, exy]
      rfl
    rw [ei, ← e]
    rw [exy] at tq
    exact pair_at tq
  refine wpAny_bind (wpAny_holding (wpAny_call_entry slot_list_sort ⟨_, hoL, rfl⟩ entry_list_sort (SrtO.list_sort_ord (s := { s1 with heap := G }) (SrtO.swo_lex (kQ G)) hoL hz2 (fun h2 => SrtO.pairs_sortableO (by omega) hp fun o e => by
    have e : G.get? s1.heap.objs.size = some o := e
    rw [hoL] at e
    injection e with e
    rw [← e]
    exact fun c => absurd (Value.type.inj c) (by decide)) fun out a1 a2 => ⟨_, rfl, ?_⟩) (args_list_sort _)))
  obtain ⟨c, hc⟩ := sortedHeap_at (vs := vs) (out := out.toArray) hoL
  obtain ⟨L', q1, q2⟩ := perm_lift (fun q : Addr × List Int => Value.ref q.1) (a2.perm.trans pm)
  refine wpAny_pure ⟨_, rfl, hQ _ s1.heap.objs.size out c L' (fun b u e => ?_) g1 o1 hz hc q2 q1 ?_⟩
  · have q := k1 b u e
    have hlt := Heap.lt_size q
    have hz3 : G.objs.size = s1.heap.objs.size + 1 := by rw [← hG, size_push']
    show (sortedHeap G s1.heap.objs.size vs out.toArray).get? b = some u
    rw [sortedHeap_old (Nat.ne_of_lt hlt) (by rw [hz3]; exact Nat.lt_succ_of_lt hlt)]
    exact kG b u e
  · rw [← q2] at a1
    rw [List.pairwise_map]
    refine List.Pairwise.imp_of_mem (fun {x y} hx hy z => ?_) (List.pairwise_map.mp a1)
    have z := SrtO.lexB_no.mp z
    have ek : ∀ q ∈ L', kQ G (.ref q.1) = prL q.2 := fun q hq => by
      unfold kQ
      rw [(tk q (q1.mem_iff.mp hq)).ints]
    rw [ek x hx, ek y hy] at z
    unfold lexle
    omega
end
section
variable {X : Cx}
/-- sorted(set), the tuples pairs of ints -/
def rSortS (K : PySem.W.Frag) (P : Program) (w : World) : List V → Hp → VK → Prop := fun vs H Q => ∃ (a : Addr) (L : List (Addr × List Int)), vs = [V.ref a] ∧ H a = some (SetTO P w a L) ∧ (∀ p ∈ L, SqT K H p.1 (p.2.map V.int)) ∧ (∀ p ∈ L, ∃ x y, p.2 = [x, y]) ∧
  ∀ (L' : List (Addr × List Int)) (p : Addr), L'.Perm L → (L'.map (·.2)).Nodup → (L'.map fun q => prL q.2).Pairwise lexle → H p = none → Q (.ref p) (upd H p (.lst (L'.map fun q => V.ref q.1)))
theorem kx_sortS (K : PySem.W.Frag) (hc : X.calm = true) (hK : X.K = K := by rfl) : CallR X (.builtin "sorted") (rSortS K X.prog X.w) := by
  subst hK
  intro pins s σ H vs us Q I r h
  obtain ⟨a, L, rfl, ha, hk, h2, q⟩ := h
  have R0 : SetT0 X.prog X.w s.heap a L := (I.hok a _ ha).1
  obtain ⟨es, ep, t, R⟩ := R0.full fun p hp => I.isT (hk p hp)
  rw [Vals.ref1 r]
  refine sorted_setQ R (I.ok.hd hc) h2 fun s' p out c L' k g o hp hg hout pm pw => ?_
  have few := R.few
  have hlen : (L'.map fun q => V.ref q.1).length ≤ sizeLine := by rw [List.length_map, sizeLine_eq, pm.length_eq]; omega
  have hn : H p = none := I.hok.fresh hp
  have hv : Vals (L'.map fun q => V.ref q.1) out := by rw [← hout]; exact vals_of_refs L'
  obtain ⟨h1, t1, dr1, tk1, os1⟩ := s'
  cases g
  cases o
  have J : L2.Inv X pins σ (upd H p (.lst (L'.map fun q => V.ref q.1))) { s with heap := h1, gens := s.gens, drawn := dr1, toks := tk1 } :=
    I.call (ch := []) (Un.laid k hp hn) (I.hok.laid k hp ⟨hlen, out, c, hv, hg⟩) I.bare (fun _ z => nomatch z)
  exact ⟨.ref p, _, J, rfl, q L' p pm ((pm.map (·.2)).nodup_iff.mpr R.nd) pw hn⟩
end
end DO
namespace DO
open PySem PySem.Spec PyProof.Rows L2 Evl Lay ErrX DL
end DO
namespace DL
open PySem PySem.Spec PyProof.Rows L2 Evl Lay ErrX
section
variable {K : PySem.W.Frag}
abbrev wLc2T (it : WA) (g : WG) (t : WT) (it1 : WA) (g1 : WG) (t1 : WT) (e : WE) (vs vs1 : List Nat) : WA := fun Γ Q => it Γ fun xs => xs.length ≤ 1000 ∧ ∃ (c : Nat → Bool) (Pd : Nat → List D → Prop),
  (∀ k x, xs[k]? = some x → g x (wipeG Γ vs) fun Γ2 => t Γ2 fun b => b = c k ∧ (b = true → noOwn (wipeG Γ2 vs1) = true ∧ it1 Γ2 fun ys => ys.length ≤ 100 ∧ ∃ (c1 : Nat → Bool) (P1 : Nat → D → Prop),
    (∀ j y, ys[j]? = some y → g1 y (wipeG Γ2 vs1) fun Γ3 => t1 Γ3 fun b1 => b1 = c1 j ∧ (b1 = true → e Γ3 (P1 j))) ∧ ∀ zs, Sel c1 P1 ys.length zs → Pd k zs)) ∧
  ∀ zss : List (List D), zss.length = xs.length → (∀ k zs, zss[k]? = some zs → if c k = true then Pd k zs else zs = []) → Q zss.flatten
theorem f_lc2T {wi wi1 : TI} {g g1 : TG} {tt tt1 : TT} {te : TE} {vs vs1 js js1 : List Nat} {wit wit1 : WA} {wg wg1 : WG} {wt wt1 : WT} {we : WE} (hi : IOk K wi wit) (hg : GOk K g wg js) (ht : TOk K tt wt) (hi1 : IOk K wi1 wit1) (hg1 : GOk K g1 wg1 js1) (ht1 : TOk K tt1 wt1) (he : EOk K te we) (hj : ∀ j ∈ js, j ∈ vs := by decide) (hj1 : ∀ j ∈ js1, j ∈ vs1 := by decide) :
    FOk K (tLc2 wi g tt wi1 g1 tt1 te vs vs1) (wLc2T wit wg wt wit1 wg1 wt1 we vs vs1) := fun Γ Q hq F0 H0 F H σ r QV w =>
  hi Γ _ hq F0 H0 F H σ r _ fun J xs F1 H1 z e1 hit => by
    obtain ⟨lx, c, Pd, turn, fin⟩ := z
    obtain ⟨Gd, Y, wk, good, yld⟩ := hit
    intro Dl hD
    have r1 := (r.ext e1).wipe vs
    refine ⟨fun i m H' => m = xs.length - i ∧ i ≤ xs.length ∧ ∃ F' zss ws, Ext F1 H1 F' H' ∧ F' Dl = none ∧ H' Dl = some (.lst ws) ∧ RA K F' ws (List.flatten zss) ∧ zss.length = i ∧ (∀ k zs, zss[k]? = some zs → if c k = true then Pd k zs else zs = []) ∧ (List.flatten zss).length ≤ i * 100,
      ⟨xs.length, by simp, Nat.zero_le _, F1, [], [], Ext.heap e1.fh (Ex.new hD), fresh_back e1.fh hD, upd_same, .nil, rfl, fun k zs h => by simp at h, Nat.zero_le _⟩, ?_⟩
    rintro i m H' ⟨rfl, hile, F', zss, ws, x, hf, hd, ra, zl, zp, zn⟩
    have gd := good F' H' x.ff x.fh
    have nof : ∀ {F' H' F3 H3 : Hp} {ws : List V}, F' Dl = none → H' Dl = some (.lst ws) → Ext F' H' F3 H3 → F3 Dl = none := fun {F' H' F3 H3 ws} hf hd e3 => by
      cases q : F3 Dl with
      | none => rfl
      | some o =>
        have := e3.nw Dl o q hf
        rw [hd] at this
        cases this
    by_cases lt : i < xs.length
    · refine .inr ⟨wk.goes i H' lt gd, fun H2 => i + 1 ≤ xs.length ∧ ∃ F' zss ws, Ext F1 H1 F' H2 ∧ F' Dl = none ∧ H2 Dl = some (.lst ws) ∧ RA K F' ws (List.flatten zss) ∧ zss.length = i + 1 ∧ (∀ k zs, zss[k]? = some zs → if c k = true then Pd k zs else zs = []) ∧ (List.flatten zss).length ≤ (i + 1) * 100, fun H2 q => ⟨_, by omega, rfl, q.1, q.2⟩, fun v H2 y => ?_⟩
      obtain ⟨F2, d, hx, e2, rv⟩ := yld i F' H' v H2 lt x.ff x.fh (wk.yields i H' v H2 lt gd y)
      refine hg d _ _ (turn i d hx) F0 H0 F2 H2 _ v (r1.ext (x.trans e2)) rv _ fun Γ3 σ3 F3 H3 z3 r3 e3 w3 => ⟨by rw [w3 vs hj]; exact wipe_twice σ vs, ?_⟩
      refine ht Γ3 _ z3 F0 H0 F3 H3 σ3 r3 _ fun b F3' H3' zt et => ?_
      obtain ⟨hb, z3⟩ := zt
      have e3 := e3.trans et
      have r3 := r3.ext et
      cases b with
      | false =>
        show i + 1 ≤ xs.length ∧ ∃ F' zss ws, _
        have e23 := e2.trans e3
        refine ⟨by omega, F3', zss ++ [[]], ws, x.trans e23, nof hf hd e23, e23.hh.kp hd, ?_, by rw [List.length_append, zl]; rfl, fun k zs' h => ?_, ?_⟩
        · rw [List.flatten_append, List.flatten_singleton, List.append_nil]
          exact ra.mono e23.ff
        · rw [List.getElem?_append] at h
          split at h
          · exact zp k zs' h
          · rename_i hk
            have : k = zss.length := by
              have := (List.getElem?_eq_some_iff.mp h).1
              simp at this
              omega
            subst this
            simp at h
            subst h
            rw [zl, ← hb, if_neg (by decide)]
        · rw [List.flatten_append, List.flatten_singleton, List.append_nil]
          omega
      | true =>
      obtain ⟨no3, z3⟩ := z3 rfl
      show wi1 σ3 H3' _
      refine hi1 Γ3 _ z3 F0 H0 F3' H3' σ3 r3 _ fun J1 ys F4 H4 z4 e4 hit1 => ?_
      obtain ⟨ly, c1, P1, turn1, fin1⟩ := z4
      obtain ⟨Gd1, Y1, wk1, good1, yld1⟩ := hit1
      have e24 := (e2.trans e3).trans e4
      have x4 := x.trans e24
      have r4 := (r3.ext e4).wipe vs1
      have h0D : H0 Dl = none := ExT.back r1.h0 hD
      refine ⟨fun j m H' => m = ys.length - j ∧ j ≤ ys.length ∧ ∃ F' zs ws, Ex F4 F' ∧ Rep K F0 H0 F' H' (L2.wipe σ3 vs1) (wipeG Γ3 vs1) ∧ Ext F1 H1 F' H' ∧ F' Dl = none ∧ H' Dl = some (.lst ws) ∧ RA K F' ws (List.flatten zss ++ zs) ∧ Sel c1 P1 j zs,
        ⟨ys.length, by simp, Nat.zero_le _, F4, [], ws, Ex.refl F4, r4, x4, nof hf hd e24, e24.hh.kp hd, by rw [List.append_nil]; exact ra.mono e24.ff, rfl⟩, ?_⟩
      rintro j m H5 ⟨rfl, hjle, F5, zs, ws5, x45, r5, x15, hf5, hd5, ra5, sel⟩
      have gd1 := good1 F5 H5 x45 r5.fh
      by_cases lt1 : j < ys.length
      · refine .inr ⟨wk1.goes j H5 lt1 gd1, fun H2 => j + 1 ≤ ys.length ∧ ∃ F' zs ws, Ex F4 F' ∧ Rep K F0 H0 F' H2 (L2.wipe σ3 vs1) (wipeG Γ3 vs1) ∧ Ext F1 H1 F' H2 ∧ F' Dl = none ∧ H2 Dl = some (.lst ws) ∧ RA K F' ws (List.flatten zss ++ zs) ∧ Sel c1 P1 (j + 1) zs, fun H2 q => ⟨_, by omega, rfl, q.1, q.2⟩, fun v1 H6 y1 => ?_⟩
        obtain ⟨F6, d1, hx1, e6, rv1⟩ := yld1 j F5 H5 v1 H6 lt1 x45 r5.fh (wk1.yields j H5 v1 H6 lt1 gd1 y1)
        refine hg1 d1 _ _ (turn1 j d1 hx1) F0 H0 F6 H6 _ v1 (r5.ext e6) rv1 _ fun Γ7 σ7 F7 H7 z7 r7 e7 w7 => ⟨by rw [w7 vs1 hj1]; exact wipe_twice σ3 vs1, ?_⟩
        refine ht1 Γ7 _ z7 F0 H0 F7 H7 σ7 r7 _ fun b1 F7' H7' zt1 et1 => ?_
        obtain ⟨hb1, z7⟩ := zt1
        have e67 := (e6.trans e7).trans et1
        cases b1 with
        | false =>
          show j + 1 ≤ ys.length ∧ ∃ F' zs ws, _
          refine ⟨by omega, F7', zs, ws5, x45.trans e67.ff, r5.ext e67, x15.trans e67, nof hf5 hd5 e67, e67.hh.kp hd5, ra5.mono e67.ff, ?_⟩
          unfold Sel
          rw [← hb1, if_neg (by decide)]
          exact sel
        | true =>
          show te σ7 H7' _
          refine he Γ7 _ (z7 rfl) F0 H0 F7' H7' σ7 (r7.ext et1) _ fun u dy F8 H8 z8 e8 ru => ?_
          have e58 := e67.trans e8
          have slen : zs.length ≤ j := sel.len
          have f8 := nof hf5 hd5 e58
          refine ⟨ws5, e58.hh.kp hd5, sz_lt (by rw [ra5.len, List.length_append]; omega), by omega, F8, zs ++ [dy], ws5 ++ [u], x45.trans e58.ff, (r5.ext e58).mut no3 f8 h0D (e58.hh.kp hd5) noTab_lst, ?_, f8, upd_same, ?_, ?_⟩
          · have x8 := x15.trans e58
            refine ⟨x8.ff, x8.hh.mut hD, fun a o q => ?_, x8.tb.mut (e58.hh.kp hd5) noTab_lst, x8.nw⟩
            rw [upd_ne (ne_of_none q f8)]
            exact x8.fh a o q
          · rw [← List.append_assoc]
            exact (ra5.mono e58.ff).snoc ru
          · unfold Sel
            rw [← hb1, if_pos rfl]
            exact ⟨zs, dy, rfl, sel, z8⟩
      · have ej : j = ys.length := by omega
        subst ej
        refine .inl ⟨wk1.stops H5 gd1, by omega, F5, zss ++ [zs], ws5, x15, hf5, hd5, ?_, by rw [List.length_append, zl]; rfl, fun k zs' h => ?_, ?_⟩
        · rw [List.flatten_append, List.flatten_singleton]
          exact ra5
        · rw [List.getElem?_append] at h
          split at h
          · exact zp k zs' h
          · rename_i hk
            have : k = zss.length := by
              have := (List.getElem?_eq_some_iff.mp h).1
              simp at this
              omega
            subst this
            simp at h
            subst h
            rw [zl, ← hb, if_pos rfl]
            exact fin1 zs sel
        · have slen : zs.length ≤ ys.length := sel.len
          rw [List.flatten_append, List.flatten_singleton, List.length_append]
          omega
    · have ei : i = xs.length := by omega
      subst ei
      exact .inl ⟨wk.stops H' gd, w Dl ws _ F' H' (fin zss zl zp) (e1.trans x) (ExT.back e1.hh hD) hf hd ra⟩
end
end DL
namespace DO
open PySem PySem.Spec PyProof.Rows L2 Evl Lay ErrX DL
def tI (ns : List Int) : D := .t (ns.map D.i)
section
variable {X : Cx}
/-- len of a set of tuples: as many as different ones -/
def rLenN (P : Program) (w : World) : List V → Hp → VK → Prop := fun xs H Q => ∃ (m : Addr) (L : List (Addr × List Int)), xs = [.ref m] ∧ H m = some (SetTO P w m L) ∧ ((L.map (·.2)).Nodup → Q (.int (L.length : Nat)) H)
theorem kx_lenN (P : Program) (w : World) (hP : X.prog = P := by rfl) (hw : X.w = w := by rfl) : CallR X (.builtin "len") (rLenN P w) := by
  have base := kx_lenS (X := X) P w hP hw
  subst hP hw
  intro pins s σ H xs us Q I r h
  obtain ⟨m, L, rfl, hm, q⟩ := h
  have R0 : SetT0 X.prog X.w s.heap m L := (I.hok m _ hm).1
  obtain ⟨es, ep, t, ⟨o, ho, ex, hd⟩, rows, tab, nd, rest⟩ := R0.ex
  exact base pins s σ H _ us Q I r ⟨m, L, rfl, hm, q nd⟩
end
section
variable {K : PySem.W.Frag} {P : Program} {w : World}
theorem ra_kN {F : Hp} : ∀ {vs : List V} {L : List (List Int)}, RA K F vs (L.map tI) → ∃ ks : List (Addr × List Int), vs = ks.map (fun k => V.ref k.1) ∧ ks.map (·.2) = L ∧ ∀ k ∈ ks, R K F (.ref k.1) (tI k.2)
  | [], [], _ => ⟨[], rfl, rfl, fun z hz => by cases hz⟩
  | [], _ :: _, h => by cases h
  | _ :: _, [], h => by cases h
  | u :: vs, p :: L, h => by
    cases h with
    | cons a r =>
      obtain ⟨ks, h1, h2, h3⟩ := ra_kN r
      have hu : ∃ t, u = V.ref t := by
        cases a with
        | @t a vs _ h ra => exact ⟨a, rfl⟩
      obtain ⟨t, rfl⟩ := hu
      refine ⟨(t, p) :: ks, by rw [List.map_cons, h1], by rw [List.map_cons, h2], fun z hz => ?_⟩
      rcases List.mem_cons.mp hz with rfl | hz
      · exact a
      · exact h3 z hz
end
end DO
namespace DO
open PySem PySem.Spec PyProof.Rows L2 Evl Lay ErrX DL
def FewK (ks : List (Addr × List Int)) : Prop := ∀ U : List (List Int), U.Nodup → (∀ u ∈ U, u ∈ ks.map (·.2)) → U.length < 63
section
variable {P : Program} {w : World} {A : Around} {E : Value → Shared → Prop} {s : Shared}
/-- what stands before the loop, behind its first i turns -/
structure Mid (P : Program) (w : World) (h0 : Heap) (S : Addr) (ks : List (Addr × List Int)) (i : Nat) (h : Heap) : Prop where
  keep : ∀ b o, h0.get? b = some o → h.get? b = some o
  got : ∃ L es ep t, SetTR P w h S L es ep t ∧ Got ks i L
theorem few_now {h : Heap} {S : Addr} {ks L : List (Addr × List Int)} {i : Nat} {es : Array (Int × Value)} {ep : Nat} {t : SetTable} (R : SetTR P w h S L es ep t) (g : Got ks i L) (f : FewK ks) : L.length + 1 < 64 := by
  have := f (L.map (·.2)) R.nd fun u hu => by
    obtain ⟨p, hp, e⟩ := List.mem_map.mp hu
    exact List.mem_map.mpr ⟨p, List.mem_of_mem_take (g.sub p hp), e⟩
  rw [List.length_map] at this
  omega
section
variable {I S : Addr} {fp wr : List Addr} {G : Array GenState → Array GenState → Prop} {Pv : Nat → Value → Prop} {St : Nat → Shared → Prop} {R : Result → Shared → Prop} {ks : List (Addr × List Int)} {h0 : Heap}
theorem loop_few {n : Nat} (W : WalksS P w A.in1 I fp wr G n Pv St) (hn : ks.length = n) (nS : S ∉ fp) (f : FewK ks) (tells : ∀ j v, Pv j v → ∃ q, ks[j]? = some q ∧ v = .ref q.1) (tup : ∀ q ∈ ks, IsT P w h0 q.2 q.1) (S0 : h0.get? S = none) (wr0 : ∀ b ∈ wr, h0.get? b = none) (un : A.in1.units < cLine) :
    ∀ (m j : Nat) (s : Shared), j + m = ks.length → St j s → Mid P w h0 S ks j s.heap → (∀ s', Moved (S :: wr) G s s' → Mid P w h0 S ks ks.length s'.heap → R (.ok (.ret .none)) s') →
      codeAny (model P w) A (.builtin "set.update.loop" ⟨[.ref S, .ref I], []⟩) R s := by
  subst hn
  have nw : S ∉ wr := fun h => nS (W.sub _ h)
  have up : ∀ b ∈ wr, b ∈ S :: wr := fun b => List.mem_cons_of_mem _
  have kept : ∀ {x y : Shared}, Moved wr G x y → ∀ {L es ep t}, SetTR P w x.heap S L es ep t → (∀ q ∈ L, q ∈ ks) → (∀ b o, h0.get? b = some o → x.heap.get? b = some o) →
      (∀ b o, h0.get? b = some o → y.heap.get? b = some o) ∧ SetTR P w y.heap S L es ep t := fun {x y} mv {L es ep t} T sub k => by
    have k' : ∀ b o, h0.get? b = some o → y.heap.get? b = some o := fun b o z => mv.heap b o (fun hb => absurd (wr0 b hb) (by rw [z]; exact Option.some_ne_none o)) (k b o z)
    exact ⟨k', T.keep (fun o z => mv.heap S o nw z) fun q hq => isT_keep (tup q (sub q hq)) k'⟩
  intro m
  induction m with
  | zero =>
    intro j s hj st ⟨k, L, es, ep, t, T, g⟩ fin
    obtain rfl : j = ks.length := hj
    refine codeAny_builtin F.entry_set_update_loop ?_
    rw [Around.under_plainId F.plain_set_update_loop _]
    show wpAny _ A.in1 (pyNext (.ref I) >>= _) _ _ s
    refine wpAny_bind (W.done s _ _ st fun s1 mv => ?_)
    obtain ⟨k', T'⟩ := kept mv T (fun q hq => List.mem_of_mem_take (g.sub q hq)) k
    exact wpAny_pure (fin s1 (mv.mono up) ⟨k', L, es, ep, t, T', g⟩)
  | succ m ih =>
    intro j s hj st ⟨k, L, es, ep, t, T, g⟩ fin
    refine codeAny_builtin F.entry_set_update_loop ?_
    rw [Around.under_plainId F.plain_set_update_loop _]
    show wpAny _ A.in1 (pyNext (.ref I) >>= _) _ _ s
    refine wpAny_bind (W.item j s _ _ (by omega) st fun v s1 pv st1 mv => ?_)
    obtain ⟨q, hq, rfl⟩ := tells j v pv
    obtain ⟨k1, T1⟩ := kept mv T (fun q hq => List.mem_of_mem_take (g.sub q hq)) k
    have qT : IsT P w s1.heap q.2 q.1 := isT_keep (tup q (List.mem_of_getElem? hq)) k1
    show wpAny _ A.in1 (holding [Value.ref q.1] (setAdd S (.ref q.1)) >>= _) _ _ s1
    refine wpAny_bind (wpAny_holding ?_)
    unfold setAdd
    refine wpAny_holding (wpAny_bind (wpAny_pyHash_tuple un qT ?_))
    refine add_at (s := { s1 with toks := s1.toks + (q.2.length + 1) }) T1 qT un (few_now T1 g f) fun _ h2 L2 es2 ep2 t2 sb T2 old new => ?_
    have g2 : Got ks (j + 1) L2 := (Classical.em (q.2 ∈ L.map (·.2))).elim (fun c => by rw [old c]; exact g.same hq c) fun c => g.more hq (new c)
    have off : ∀ b, b ≠ S → ∀ o, s1.heap.get? b = some o → h2.get? b = some o := fun b nb o z => (sb.2 b nb).trans z
    refine wpAny_pure ⟨plainId_quiet F.plain_set_update_loop _, ih (j + 1) _ (by omega) (W.frame _ s1 _ _ st1 (Nat.le_add_right _ _) fun b hb o z => off b (fun e => nS (e ▸ hb)) o z) ⟨fun b o z => off b (fun e => absurd S0 (by rw [← e, z]; exact Option.some_ne_none o)) o (k1 b o z), L2, es2, ep2, t2, T2, g2⟩ fun s2 mv2 md => ?_⟩
    exact fin s2 (Moved.trans W.gtrans ((mv.mono up).then_heap (Nat.le_add_right _ _) fun b o nb z => off b (fun e => nb (by rw [e]; exact List.mem_cons_self)) o z) mv2) md
end
/-- a set that was just made -/
def setNew (w : World) : Obj := { cls := .type "set", dict := none, data := .set #[] 0 (.fresh 0 0 (!w.params.followText "set-order")) }
theorem none_past {h : Heap} {b : Addr} (hb : h.objs.size ≤ b) : h.get? b = none := by
  cases q : h.get? b with
  | none => rfl
  | some o => exact absurd (Heap.lt_size q) (Nat.not_lt.mpr hb)
/-- what the call of set leaves -/
def Left (P : Program) (w : World) (ks : List (Addr × List Int)) (s s' : Shared) : Prop := ∃ h' tk, s' = { s with heap := h', toks := tk } ∧ Mid P w s.heap s.heap.objs.size ks ks.length h'
theorem init_few {l : Addr} {items : Array Value} {ks : List (Addr × List Int)} (calm : A.handled = none) (isl : s.heap.IsList l items) (refs : items.toList = ks.map fun q => Value.ref q.1) (tup : ∀ q ∈ ks, IsT P w s.heap q.2 q.1) (f : FewK ks) (un : A.in1.in1.units < cLine) {Q : PySem.Fin → Shared → Prop} (q : ∀ s', Left P w ks s s' → wpAny (model P w) A.in1 (ret Value.none) Q E s') :
    wpAny (model P w) A.in1 (Builtin.«set.__init__» ⟨[.ref s.heap.objs.size, .ref l], []⟩) Q E { s with heap := s.heap.push (setNew w) } := by
  have sz : items.size = ks.length := by
    rw [← Array.length_toList, refs, List.length_map]
  obtain ⟨ol, hol, hcl, nl, hdl⟩ := isl
  obtain ⟨ocls, odict, odata, oslots⟩ := ol
  simp only at hcl hdl
  subst hcl hdl
  have hol' : (s.heap.push (setNew w)).get? l = some { cls := .type "list", dict := odict, data := .seq items nl, slots := oslots } := Heap.get?_push_of_some _ hol
  have il : (s.heap.push (setNew w)).IsList l items := ⟨_, hol', rfl, nl, rfl⟩
  have hT : Shared.TypeIs { s with heap := s.heap.push (setNew w) } (.ref s.heap.objs.size) "set" := ⟨_, Heap.get?_push_size _ rfl, rfl⟩
  have sub1 := F.sub_list_set
  have sub2 := F.sub_list_frozenset
  have ned : (Value.type "list" == Value.type "dict") = false := by decide
  unfold Builtin.«set.__init__» noKeywords Builtin.Frozenset.updateFrom
  generalize iterG : pyIter = PI
  wp_walk
  subst iterG
  refine wpAny_pyIter_list il (wpAny_bind (wpAny_runValue ?_))
  have lS : l < s.heap.objs.size := Heap.lt_size hol
  have sz1 : (s.heap.push (setNew w)).objs.size = s.heap.objs.size + 1 := Heap.size_push ..
  have lI : l ≠ (s.heap.push (setNew w)).objs.size := by rw [sz1]; exact Nat.ne_of_lt (Nat.lt_succ_of_lt lS)
  have hget : ((s.heap.push (setNew w)).push { cls := .type "list_iterator", data := .fields #[.ref l, .int 0 0] }).get? s.heap.objs.size = some (setNew w) := Heap.get?_push_of_some _ (Heap.get?_push_size _ rfl)
  refine loop_few (ks := ks) (h0 := s.heap) (S := s.heap.objs.size) (Walks.list (by simp [calm]) _ l lI items).toS sz.symm (fun z => ?_) f (fun i v hv => ?_) tup (none_past (Nat.le_refl _)) (fun b hb => ?_) un ks.length 0 _ (Nat.zero_add _) ⟨⟨_, Heap.get?_push_size _ rfl, rfl, rfl⟩, il.push _⟩ ⟨fun b o e => Heap.get?_push_of_some _ (Heap.get?_push_of_some _ e), [], #[], 0, .fresh 0 0 (!w.params.followText "set-order"), ?fresh, Got.zero ks⟩ fun s' mv md => ?_
  case fresh => exact setTR_fresh hget
  · rw [sz1] at z
    simp only [List.mem_cons, List.not_mem_nil, or_false] at z
    exact z.elim (fun e => absurd e (Nat.ne_of_lt (Nat.lt_succ_self _))) fun e => absurd e.symm (Nat.ne_of_lt lS)
  · have e : items.toList[i]? = some v := by rw [Array.getElem?_toList]; exact hv
    rw [refs, List.getElem?_map] at e
    cases r : ks[i]? with
    | none => rw [r] at e; cases e
    | some p =>
      rw [r] at e
      exact ⟨p, rfl, (Option.some.inj e).symm⟩
  · refine none_past ?_
    rw [List.mem_singleton.mp hb, sz1]
    omega
  · obtain ⟨h', g', d', tk', os'⟩ := s'
    have e1 : g' = s.gens := mv.gens
    have e2 : d' = s.drawn := mv.drawn
    have e3 : os' = s.os := mv.os
    subst e1 e2 e3
    show wpAny _ _ _ _ _ _
    exact wpAny_pure (q _ ⟨h', tk', rfl, md⟩)
/-- set(xs) -/
theorem set_few {l : Addr} {items : Array Value} {ks : List (Addr × List Int)} (calm : A.handled = none) (isl : s.heap.IsList l items) (refs : items.toList = ks.map fun q => Value.ref q.1) (tup : ∀ q ∈ ks, IsT P w s.heap q.2 q.1) (f : FewK ks) (un : A.units + 3 < cLine) {Q : Value → Shared → Prop} (q : ∀ s', Left P w ks s s' → Q (.ref s.heap.objs.size) s') :
    wpAny (model P w) A (call (.type "set") [.ref l]) Q E s := by
  have hc := F.called_set
  obtain ⟨c, tl, hmro⟩ := hc.mro
  have g1 := hc.made
  have g2 := hc.sub
  have g3 := hc.notType
  have g4 := hc.canCreate
  have g5 := F.typeCall_set_1 (.ref l)
  refine wpAny_call (codeAny_of_tree ?_)
  show wpAny _ _ (callAny (.type "set") _) _ _ _
  refine wpAny_pure ⟨Code.quiet_builtin _ (by decide +kernel), codeAny_builtin F.entry_type_call ?_⟩
  rw [Around.under_plain (weight_type_call_type "set" [.ref l] []) rfl]
  repeat (any_goals (first | assumption | wp_step))
  refine codeAny_mono (code_set_led1 (.ref l) (E := E) (Q₁ := fun ob s1 => ob = .ref s.heap.objs.size ∧ s1 = { s with heap := s.heap.push (setNew w) }) ⟨rfl, rfl⟩) fun r s1 hr => ?_
  cases r with
  | error e => exact hr
  | ok fl =>
    cases fl with
    | ret ob =>
      obtain ⟨rfl, rfl⟩ := hr
      have hT : Shared.TypeIs { s with heap := s.heap.push (setNew w) } (.ref s.heap.objs.size) "set" := ⟨_, Heap.get?_push_size _ rfl, rfl⟩
      have g6 := hc.init.lookup
      have g7 := hc.init.bind (.ref s.heap.objs.size)
      repeat (any_goals (first | assumption | wp_step))
      refine codeAny_mono (codeAny_call_builtin (R := wants (fun r s2 => r = .none ∧ Left P w ks s s2) E) hc.init.plain F.entry_set_init (check_set_init_1 hT ?_)) fun r2 s2 h2 => ?_
      · exact init_few (A := A.in1) (by simp [calm]) isl refs tup f un fun s2 z => wpAny_pure ⟨rfl, z⟩
      cases r2 with
      | error e => exact h2
      | ok fl2 =>
        cases fl2 with
        | ret r =>
          obtain ⟨rfl, z⟩ := h2
          have q2 := q s2 z
          repeat (any_goals (first | assumption | wp_step))
        | _ => exact h2.elim
    | _ => exact hr.elim
end
section
variable {X : Cx}
def rSetFew (K : PySem.W.Frag) (P : Program) (w : World) : List V → Hp → VK → Prop := fun xs H Q => ∃ (l : Addr) (ks : List (Addr × List Int)), xs = [V.ref l] ∧ SqL K H l (ks.map fun p => V.ref p.1) ∧ (∀ p ∈ ks, SqT K H p.1 (p.2.map V.int)) ∧ FewK ks ∧
  ∀ a L, H a = none → (∀ p ∈ L, p ∈ ks) → (∀ p ∈ ks, p.2 ∈ L.map (·.2)) → Q (.ref a) (upd H a (SetTO P w a L))
theorem cr_setFew (hc : X.calm = true) (hu : X.A.units + 64 < cLine) : CallR X (.type "set") (rSetFew X.K X.prog X.w) := by
  intro pins s σ H xs us Q I r h
  obtain ⟨l, ks, rfl, hl, hk, f, q⟩ := h
  rw [Vals.ref1 r]
  obtain ⟨its, rv, pl, _⟩ := I.list hl
  have fresh : H s.heap.objs.size = none := I.hok.fresh (Nat.le_refl _)
  refine set_few (P := X.prog) (w := X.w) (I.ok.hd hc) pl.isList (by simpa using refs_of_vals rv) (fun p hp => I.isT (hk p hp)) f (by omega) fun s' z => ?_
  obtain ⟨h', tk, rfl, keep, L, es, ep, t, R, g⟩ := z
  exact ⟨.ref s.heap.objs.size, _, I.laid (t' := tk) keep (Nat.le_refl _) (setTO_new R.t0), rfl, q _ L fresh (fun p hp => List.mem_of_mem_take (g.sub p hp)) fun p hp => g.all p (by rw [List.take_length]; exact hp)⟩
end
section
variable {K : PySem.W.Frag} {P : Program} {w : World}
abbrev wLsetF (we : WE) : WE := fun Γ Q => we Γ fun d => ∃ L : List (List Int), d = .l (L.map tI) ∧ (∀ U : List (List Int), U.Nodup → (∀ u ∈ U, u ∈ L) → U.length < 63) ∧ ∀ U : List (List Int), U.Nodup → (∀ x, x ∈ U ↔ x ∈ L) → Q (.i (U.length : Nat))
theorem e_lsetF {te : TE} {we : WE} (h : EOk K te we) : EOk K (tCB (rLenN P w) (tCons (tCB (rSetFew K P w) (tCons te tNil)) tNil)) (wLsetF we) := fun Γ Q hq F0 H0 F H σ r QV q =>
  h Γ _ hq F0 H0 F H σ r _ fun v d F1 H1 z e1 rv => by
    obtain ⟨L, e0, few, h1⟩ := z
    subst e0
    cases rv with
    | @l a vs _ ha ra =>
      obtain ⟨ks, k1, k2, k3⟩ := ra_kN ra
      refine ⟨a, ks, rfl, ?_, fun p hp => RA.intsT e1.fh (k3 p hp), (fun U nd sub => few U nd (by rw [← k2]; exact sub)), fun b LL hb sub all => ⟨b, LL, rfl, upd_same, fun nd => ?_⟩⟩
      · rw [← k1]
        exact sq_of (e1.fh _ _ ha)
      · have e3 : Ext F1 H1 F1 (upd H1 b (SetTO P w b LL)) := Ext.heap e1.fh (Ex.new hb)
        have := h1 (LL.map (·.2)) nd fun x => by
          rw [← k2]
          constructor
          · intro hx
            obtain ⟨p, hp, rfl⟩ := List.mem_map.mp hx
            exact List.mem_map.mpr ⟨p, sub p hp, rfl⟩
          · intro hx
            obtain ⟨p, hp, rfl⟩ := List.mem_map.mp hx
            exact all p hp
        rw [List.length_map] at this
        exact q _ _ F1 _ this (e1.trans e3) (.i _)
end
end DO
namespace DO
open PySem PySem.Spec PyProof.Rows L2 Evl Lay ErrX DL
theorem kx_catT {X : Cx} (K : PySem.W.Frag) (hK : X.K = K := by rfl) : OpR X (binaryOp .Add) (rCatA K) := by
  subst hK
  exact op_catA
section
variable {K : PySem.W.Frag}
abbrev wCatT : D → D → (D → Prop) → Prop := fun x y Q => ∃ xs ys, x = .t xs ∧ y = .t ys ∧ xs.length + ys.length ≤ 100000 ∧ Q (.t (xs ++ ys))
theorem o_catT : OOk K (rCatA K) wCatT := fun x y Q hq F H vx vy e rx ry QV q => by
  obtain ⟨xs, ys, rfl, rfl, l, h⟩ := hq
  cases rx with
  | @t a vs _ ha ra =>
    cases ry with
    | @t b ws _ hb rb =>
      refine ⟨a, b, vs, ws, rfl, rfl, ex_t e ha, ex_t e hb, sz_of (by rw [ra.len, rb.len]; exact l), fun z => ?_, fun z z2 => ?_, fun z z2 p hp => ?_⟩
      · subst z
        cases ra
        exact q _ _ F H h (Ext.refl e) (.t hb rb)
      · subst z2
        cases rb
        rw [List.append_nil] at h
        exact q _ _ F H h (Ext.refl e) (.t ha ra)
      · exact q _ _ _ _ h (Ext.new e hp) (.t (st_of upd_same) ((ra.app rb).mono (Ex.new (fresh_back e hp))))
end
end DO
namespace DO
open PySem PySem.Spec PyProof.Rows L2 Evl Lay ErrX DL
end DO
namespace DO
open PySem PySem.Spec PyProof.Rows L2 Evl Lay ErrX DL
section
variable {K : PySem.W.Frag}
/-- t[lo:hi], the whole among them -/
abbrev wSlA (a : WE) (lo hi : WPt) : WE := fun Γ Q => a Γ fun x => lo Γ fun l => hi Γ fun u => match x with
  | .t xs => Q (.t (DL.cutD xs l u))
  | _ => False
theorem kx_slA (K : PySem.W.Frag) {X : Cx} (hK : X.K = K := by rfl) : SlR X (rSlA K) := by
  subst hK
  exact sl_tupA
theorem cutD_whole {xs : List D} {l u : Option Int} (h : HT.sIx xs.length 0 l = 0 ∧ HT.sIx xs.length xs.length u = xs.length) : DL.cutD xs l u = xs := by
  unfold DL.cutD
  rw [h.1, h.2]
  simp
theorem e_slA {ta : TE} {tl th : L2.St → Hp → (Option Int → Hp → Prop) → Prop} {wa : WE} {wl wh : WPt} (ha : EOk K ta wa) (hl : PtOk K tl wl) (hh : PtOk K th wh) : EOk K (tSl (rSlA K) ta tl th) (wSlA wa wl wh) := fun Γ Q hq F0 H0 F H σ r QV q =>
  ha Γ _ hq F0 H0 F H σ r _ fun v x F1 H1 z1 e1 rv => hl Γ _ z1 F0 H0 F1 H1 σ (r.ext e1) _ fun lo F2 H2 z2 e2 => hh Γ _ z2 F0 H0 F2 H2 σ ((r.ext e1).ext e2) _ fun hi F3 H3 z3 e3 => by
    cases rv with
    | @t p vs xs hp ra =>
      have e23 := e2.trans e3
      refine ⟨p, vs, rfl, ex_t e3.fh (ex_t e23.ff hp), fun h => ?_, fun h a ha => ?_⟩
      · rw [ra.len] at h
        have z3 : Q (.t (DL.cutD xs lo hi)) := z3
        rw [cutD_whole h] at z3
        exact q _ _ F3 H3 z3 (e1.trans e23) (.t (ex_t e23.ff hp) (ra.mono e23.ff))
      · exact q _ _ (upd F3 a (.tup (cutV vs lo hi))) _ z3 ((e1.trans e23).trans (Ext.new e3.fh ha)) (.t (st_of upd_same) (((ra.mono e23.ff).cut lo hi).mono (Ex.new (fresh_back e3.fh ha))))
    | _ => exact z3.elim
/-- list(xs) -/
def rListOf (K : PySem.W.Frag) : List V → Hp → VK → Prop := fun xs H Q => ∃ p ys, xs = [.ref p] ∧ (SqL K H p ys ∨ SqT K H p ys) ∧ ∀ l, H l = none → Q (.ref l) (upd H l (.lst ys))
theorem kx_listOf (K : PySem.W.Frag) {X : Cx} (h : X.K = K := by rfl) : CallR X (.type "list") (rListOf K) := h ▸ call_list_of
abbrev wListOf (a : WA) : WA := fun Γ Q => a Γ fun xs => match xs with
  | [.t ys] => Q ys
  | [.l ys] => Q ys
  | _ => False
theorem f_listOf {ta : TA} {wa : WA} (ha : AOk K ta wa) : FOk K (tCB (rListOf K) ta) (wListOf wa) := fun Γ Q h F0 H0 F H σ rp QV q =>
  ha Γ _ h F0 H0 F H σ rp _ fun vs ds F1 H1 h1 e1 r1 => by
    have h1 : (match (generalizing := false) ds with | [.t ys] => Q ys | [.l ys] => Q ys | _ => False) := h1
    split at h1
    · cases r1 with
      | cons a r =>
        cases r
        cases a with
        | @t p ws _ hp ra => exact ⟨p, ws, rfl, .inr (ex_t e1.fh hp), fun l hl => q l ws _ F1 _ h1 (e1.trans (Ext.heap e1.fh (Ex.new hl))) (ExT.back e1.hh hl) (fresh_back e1.fh hl) upd_same ra⟩
    · cases r1 with
      | cons a r =>
        cases r
        cases a with
        | @l p ws _ hp ra => exact ⟨p, ws, rfl, .inl (sq_of (e1.fh _ _ hp)), fun l hl => q l ws _ F1 _ h1 (e1.trans (Ext.heap e1.fh (Ex.new hl))) (ExT.back e1.hh hl) (fresh_back e1.fh hl) upd_same ra⟩
    · exact h1.elim
end
end DO
namespace DO
open PySem PySem.Spec PyProof.Rows L2 Evl Lay ErrX DL
end DO
namespace TStr
open PySem PySem.Spec PyProof.Rows L2
theorem draws_str {prog : Program} {w : World} {A : Around} (hh : A.handled = none) (it : Addr) (x : Str) (t : Tok) :
    Draws prog w A it [it] x.cps.size (fun i v => ∃ c u, x.cps[i]? = some c ∧ v = .str ⟨#[c]⟩ u) (fun i h => h.IsStrIter it (strIterType x) x t i) := by
  unfold strIterType
  split
  · exact Draws.strAscii hh it x t
  · exact Draws.strWide hh it x t
/-- the signs of a string, each in a new pair with its place -/
def Iest (x : Str) : It :=
  ⟨fun i _ => i < x.cps.size, fun i H v H' => ∃ T c, v = .ref T ∧ H T = none ∧ x.cps[i]? = some c ∧ H' = upd H T (.tup [.int (i : Nat), .str ⟨#[c]⟩]), fun i _ => i = x.cps.size⟩
theorem turn_est {P : Program} {w : World} {K : PySem.W.Frag} {elts : List Expr} {kk : Nat} {tpos : Pos} (x : Str) (t : Tok) (e it : Addr) :
    Turn P w K (.Tuple elts kk tpos) (Iest x) [e, it] e (fun i h => (∃ old, IsEnum h e it ((i : Nat) : Int) old) ∧ h.IsStrIter it (strIterType x) x t i ∧ e ≠ it) where
  mem := List.mem_cons_self ..
  obj := fun i h st b hb => by
    obtain ⟨⟨old, he⟩, ⟨o, ho, hc, hd⟩, _⟩ := st
    rcases List.mem_cons.mp hb with rfl | hb
    · exact ⟨_, he, fun v z => (nomatch z)⟩
    · rcases List.mem_cons.mp hb with rfl | hb
      · exact ⟨o, ho, fun v z => by rw [hd] at z; cases z⟩
      · cases hb
  keep := fun i h h' st kp => ⟨let ⟨⟨old, he⟩, _⟩ := st; ⟨old, kp e (by simp) _ he⟩, let ⟨_, ⟨o, ho, r⟩, _⟩ := st; ⟨o, kp it (by simp) o ho, r⟩, st.2.2⟩
  item := by
    intro X hP hw hK hc i pins s σ H E I hf st hg
    subst hP hw hK
    obtain ⟨⟨old, he⟩, hit, ne⟩ := st
    have hg : i < x.cps.size := hg
    have le : e < s.heap.objs.size := Heap.lt_size he
    have li : it < s.heap.objs.size := by
      obtain ⟨_, z, _⟩ := hit
      exact Heap.lt_size z
    refine wpAny_pyNext_enum_itemD (draws_str (A := X.A.in1) (I.ok.hd hc) it x t) he hit hg ne (fun z => ?_) fun y h' tk hy ho st' hT hsz hk => ?_
    · exact ne (by simpa using z)
    obtain ⟨c, u, hx, rfl⟩ := hy
    refine ⟨_, rfl, wpAny_letOwnedTupleGo_enum (s := { s with heap := h', toks := tk + 1 }) ho fun h2 he' sb => ?_⟩
    have hT2 := (sb.2 _ (Nat.ne_of_gt le)).trans hT
    have new : ObjOk X.prog X.w (upd H s.heap.objs.size (.tup [.int (i : Nat), .str ⟨#[c]⟩])) h2 s.heap.objs.size (.tup [.int (i : Nat), .str ⟨#[c]⟩]) :=
      ⟨by show 2 ≤ sizeLine; decide, [.int i tk, .str ⟨#[c]⟩ u], .cons ⟨_, rfl⟩ (.cons ⟨_, rfl⟩ .nil), ⟨_, hT2, rfl, _, rfl⟩⟩
    have J : L2.Inv X pins σ (upd H s.heap.objs.size (.tup [.int (i : Nat), .str ⟨#[c]⟩])) { s with heap := h2, toks := tk + 1 } :=
      I.turnedNew (ch := [e, it]) (fun b ob nb q => by
        have n1 : b ≠ e := fun z => nb (by rw [z]; exact List.mem_cons_self ..)
        have n2 : b ≠ it := fun z => nb (by rw [z]; exact List.mem_cons_of_mem _ (List.mem_cons_self ..))
        exact (sb.2 b n1).trans (hk b ob n1 n2 q)) hf (Nat.le_refl _) new
    refine ⟨.ref s.heap.objs.size, _, J, rfl, ⟨_, c, rfl, I.hok.fresh (Nat.le_refl _), hx, rfl⟩, ⟨⟨.str ⟨#[c]⟩ u, ?_⟩, let ⟨o, q, r⟩ := st'; ⟨o, (sb.2 it (Ne.symm ne)).trans q, r⟩, ne⟩, fun b hb => ?_⟩
    · rw [show ((i + 1 : Nat) : Int) = (i : Int) + 1 by omega]
      exact he'
    · have lb : b < s.heap.objs.size := by
        rcases List.mem_cons.mp hb with rfl | hb
        · exact le
        · rcases List.mem_cons.mp hb with rfl | hb
          · exact li
          · cases hb
      rw [upd_ne (Nat.ne_of_lt lb)]
      exact (hf b hb).1
  done := by
    intro X hP hw hK hc i pins s σ H E I hf st hg
    subst hP hw hK
    obtain ⟨⟨old, he⟩, hit, ne⟩ := st
    have hg : i = x.cps.size := hg
    obtain ⟨f0, f1, f2, f3, f4, f5⟩ := hf it (by simp)
    exact wpAny_pyNext_enum_endD (draws_str (A := X.A.in1) (I.ok.hd hc) it x t) he (hg ▸ hit) fun h' eb => ⟨rfl, I.turned (t' := s.toks) (fun b o hb q => eb b o hb q) f0 f1 f3 f4 f5⟩
  self := fun A i s Q E st h => let ⟨⟨_, he⟩, _⟩ := st; wpAny_pyIter_enum he h
def iEst (ta : TA) : TI := fun σ H R => ta σ H fun vs H1 => ∃ x, vs = [.str x] ∧ R (Iest x) H1
theorem pi_enumS {X : Cx} {e : Expr} {ta : TA} {p pos tpos : Pos} {elts : List Expr} {kk : Nat} (hg : Gl X "enumerate") (hm : X.mg "enumerate" = none) (ha : PA X [e] ta) (hs : starEach [e] X.env = [(false, eval e X.env)] := by rfl) :
    PI X (.Tuple elts kk tpos) (.Call (.Name "enumerate" p) [e] [] pos) (iEst ta) := by
  refine ⟨fun pins s σ H R I h => ?_⟩
  refine Call_ (ld_blt I hg hm boot_enumerate (PyProof.Rows.callWith_type1 (thn (ha.run pos pins s σ H _ I h) fun us s1 ⟨vs, H1, I1, r1, q1⟩ => ?_) hs rfl))
  obtain ⟨x, rfl, q⟩ := q1
  obtain ⟨u, rfl, t, rfl⟩ := vals1 r1
  refine call_enumerate_str fun h' he hit hsz hk => wpAny_pyIter_enum he ?_
  refine ⟨s1.heap.objs.size + 1, [s1.heap.objs.size + 1, s1.heap.objs.size], _, _, H1, rfl, I1.kept (t' := s1.toks) hk, turn_est x t _ s1.heap.objs.size, ⟨⟨.none, he⟩, hit, Nat.succ_ne_self _⟩, fun b hb => ?_, q⟩
  have le : s1.heap.objs.size ≤ b := by
    rcases List.mem_cons.mp hb with rfl | hb
    · exact Nat.le_succ _
    · rcases List.mem_cons.mp hb with rfl | hb
      · exact Nat.le_refl _
      · cases hb
  exact I1.fpOk le (I1.hok.fresh le)
theorem walk_est {x : Str} : Walk (Iest x) x.cps.size (fun _ => True) (YPair (fun i => some (.int (i : Nat))) (fun i => (x.cps[i]?).map fun c => V.str ⟨#[c]⟩)) where
  goes := fun i _ hi _ => hi
  stops := fun _ _ => rfl
  yields := fun i H v H' _ _ ⟨T, c, h1, h2, h3, h4⟩ => ⟨T, .int (i : Nat), .str ⟨#[c]⟩, h1, h2, h4, rfl, by show (x.cps[i]?).map (fun c => V.str ⟨#[c]⟩) = _; rw [h3]; rfl⟩
def iAny (K : PySem.W.Frag) (tl : TE) : TI := fun σ H R => tl σ H fun x H1 => ∃ a, x = .ref a ∧ (((∃ xs, SqT K H1 a xs) ∧ R (Itt K a) H1) ∨ ((∃ xs, SqL K H1 a xs) ∧ R (Itl K a) H1))
theorem pi_any (K : PySem.W.Frag) {X : Cx} {tg l : Expr} {tl : TE} (hl : PE X l tl) (hK : X.K = K := by rfl) : PI X tg l (iAny K tl) := by
  subst hK
  refine ⟨fun pins s σ H R I h => ?_⟩
  refine thn (hl.run pins s σ H _ I h) fun v s1 ⟨x, H1, I1, r1, q1⟩ => ?_
  obtain ⟨a, rfl, q⟩ := q1
  cases r1
  have fp : ∀ b ∈ [s1.heap.objs.size], _ := fun b hb => by
    obtain rfl : b = s1.heap.objs.size := by simpa using hb
    exact I1.fpOk (Nat.le_refl _) (I1.hok.fresh (Nat.le_refl _))
  rcases q with ⟨⟨xs, hq⟩, q⟩ | ⟨⟨xs, hq⟩, q⟩
  · obtain ⟨its, rv, p, hz⟩ := I1.tuple hq
    refine wpAny_pyIter_tuple (show s1.heap.IsTuple a its.toArray from p) ?_
    exact ⟨s1.heap.objs.size, [s1.heap.objs.size], _, _, H1, rfl, I1.kept (t' := s1.toks) fun b o e => Heap.get?_push_of_some _ e, turn_tuple a _, ⟨_, Heap.get?_push_size _ rfl, rfl, rfl⟩, fp, q⟩
  · obtain ⟨its, rv, p, hz⟩ := I1.list hq
    refine wpAny_pyIter_list p.isList ?_
    exact ⟨s1.heap.objs.size, [s1.heap.objs.size], _, _, H1, rfl, I1.kept (t' := s1.toks) fun b o e => Heap.get?_push_of_some _ e, turn_list a _, ⟨_, Heap.get?_push_size _ rfl, rfl, rfl⟩, fp, q⟩
end TStr
namespace DL
open PySem PySem.Spec PyProof.Rows L2 Evl Lay ErrX TStr
section
variable {K : PySem.W.Frag}
/-- the signs of a string -/
def signs (x : Str) : List D := x.cps.toList.map fun c => D.s ⟨#[c]⟩
def wItEst (a : WA) : WA := fun Γ Q => a Γ fun ds => match ds with
  | [.s x] => Q (enumD 0 (signs x))
  | _ => False
theorem i_enumS {ta : TA} {wa : WA} (h : AOk K ta wa) : IOk K (iEst ta) (wItEst wa) := fun Γ Q hq F0 H0 F H σ r QI w =>
  h Γ _ hq F0 H0 F H σ r _ fun vs ds F1 H1 z e1 ra => by
    cases ra with
    | nil => exact z.elim
    | cons a ra =>
      cases ra with
      | cons _ _ => cases a <;> exact z.elim
      | nil =>
        cases a with
        | s x =>
          refine ⟨x, rfl, w _ _ F1 H1 z e1 ⟨fun _ => True, YPair (fun i => some (.int (i : Nat))) (fun i => (x.cps[i]?).map fun c => V.str ⟨#[c]⟩), ?_, fun _ _ _ _ => trivial, fun k F2 H2 v H3 lt a b y => ?_⟩⟩
          · rw [enumD_len, show (signs x).length = x.cps.size by unfold signs; simp]
            exact walk_est
          · obtain ⟨T, x1, y1, rfl, hT, rfl, q1, q2⟩ := y
            cases q1
            have q2 : (x.cps[k]?).map (fun c => V.str ⟨#[c]⟩) = some y1 := q2
            cases q3 : x.cps[k]? with
            | none => rw [q3] at q2; cases q2
            | some c =>
              rw [q3] at q2
              cases q2
              obtain ⟨F3, x3, r3⟩ := pair_ok b hT (.i (k : Nat)) (.s ⟨#[c]⟩)
              refine ⟨F3, _, enumD_get (k := 0) (show (signs x)[k]? = some (.s ⟨#[c]⟩) from by unfold signs; rw [List.getElem?_map, Array.getElem?_toList, q3]; rfl), x3, ?_⟩
              rw [Nat.zero_add]
              exact r3
        | _ => exact z.elim
abbrev wItA (e : WE) : WA := fun Γ Q => e Γ fun d => match d with
  | .t xs => Q xs
  | .l xs => Q xs
  | _ => False
theorem i_any {te : TE} {we : WE} (h : EOk K te we) : IOk K (iAny K te) (wItA we) := fun Γ Q hq F0 H0 F H σ r QI w =>
  h Γ _ hq F0 H0 F H σ r _ fun v d F1 H1 z e1 rv => by
    cases rv with
    | @t p vs xs hp ra =>
      exact ⟨p, rfl, .inl ⟨⟨vs, ex_t e1.fh hp⟩, w _ xs F1 H1 z e1 ⟨_, _, ra.len ▸ walk_tup (xs := vs), fun F2 H2 a b => ex_t b (ex_t a hp), fun k F2 H2 v H3 lt a b y => by
        obtain ⟨rfl, y⟩ := y
        obtain ⟨x, q1, q2⟩ := ra.walk a y
        exact ⟨F2, x, q1, Ext.refl b, q2⟩⟩⟩⟩
    | @l p vs xs hp ra =>
      exact ⟨p, rfl, .inr ⟨⟨vs, sq_of (e1.fh _ _ hp)⟩, w _ xs F1 H1 z e1 ⟨_, _, ra.len ▸ walk_list (xs := vs), fun F2 H2 a b => sq_of (b _ _ (a _ _ hp)), fun k F2 H2 v H3 lt a b y => by
        obtain ⟨rfl, y⟩ := y
        obtain ⟨x, q1, q2⟩ := ra.walk a y
        exact ⟨F2, x, q1, Ext.refl b, q2⟩⟩⟩⟩
    | _ => exact z.elim
end
end DL
namespace StrM
open PySem PySem.Builtin PySem.Builtin.Str PySem.StrLaws
theorem at_iff {x : Str} {c k : Nat} : At x ⟨#[c]⟩ x.length k ↔ x.cps.toList[k]? = some c := subAt_one x c k
theorem count_chain (x : Str) (c : Nat) : ∀ (cuts : List Nat) (a f : Nat), ChainG x ⟨#[c]⟩ x.length a cuts f → (∀ k, f ≤ k → ¬ At x ⟨#[c]⟩ x.length k) → cuts.length = (x.cps.toList.drop a).count c
  | [], a, f, h, hn => by
    have e : f = a := h
    subst e
    rw [List.length_nil, eq_comm, List.count_eq_zero]
    intro hm
    obtain ⟨j, hj⟩ := List.getElem?_of_mem hm
    rw [List.getElem?_drop] at hj
    exact hn (f + j) (by omega) (at_iff.mpr hj)
  | d :: r, a, f, h, hn => by
    obtain ⟨h1, h2, h3, h4⟩ := h
    have ih := count_chain x c r _ f h4 hn
    have hd := at_iff.mp h2
    have hl := (List.getElem?_eq_some_iff.mp hd).1
    have e : x.cps.toList.drop a = (x.cps.toList.drop a).take (d - a) ++ c :: x.cps.toList.drop (d + 1) := by
      have q : x.cps.toList.drop d = c :: x.cps.toList.drop (d + 1) := by
        rw [List.drop_eq_getElem_cons hl]
        congr 1
        rw [List.getElem?_eq_getElem hl] at hd
        exact Option.some.inj hd
      rw [← q, show x.cps.toList.drop d = (x.cps.toList.drop a).drop (d - a) by rw [List.drop_drop]; congr 1; omega, List.take_append_drop]
    rw [e, List.count_append, List.count_cons_self, List.length_cons, ih]
    have z : ((x.cps.toList.drop a).take (d - a)).count c = 0 := by
      rw [List.count_eq_zero]
      intro hm
      obtain ⟨j, hj⟩ := List.getElem?_of_mem hm
      have lt : j < d - a := by
        have := (List.getElem?_eq_some_iff.mp hj).1
        rw [List.length_take] at this
        omega
      rw [List.getElem?_take_of_lt lt, List.getElem?_drop] at hj
      exact h3 (a + j) (by omega) (by omega) (at_iff.mpr hj)
    rw [z]
    show (x.cps.toList.drop (d + 1)).count c + 1 = _
    omega
theorem count_one (x : Str) (c : Nat) : Txt.count x ⟨#[c]⟩ = ((x.cps.toList.count c : Nat) : Int) := by
  obtain ⟨f, h, hn⟩ := occ_tight x ⟨#[c]⟩ (Nat.le_refl 1)
  have := count_chain x c _ 0 f h hn
  rw [List.drop_zero] at this
  unfold Txt.count
  rw [this]
/-- lines, each with c between -/
def jl (c : Nat) : List (List Nat) → List Nat
  | [] => []
  | [x] => x
  | x :: y :: r => x ++ c :: jl c (y :: r)
theorem join_list (c : Nat) : ∀ ys : List Str, (Str.join ⟨#[c]⟩ ys).cps.toList = jl c (ys.map (·.cps.toList))
  | [] => rfl
  | [x] => rfl
  | x :: y :: r => by
    have ih := join_list c (y :: r)
    show (x.cps ++ #[c] ++ (Str.join ⟨#[c]⟩ (y :: r)).cps).toList = _
    rw [Array.toList_append, Array.toList_append, ih]
    simp [jl]
theorem cut_first {c : Nat} : ∀ {x y : List Nat} {u v : List Nat}, c ∉ x → c ∉ y → x ++ c :: u = y ++ c :: v → x = y ∧ u = v
  | [], [], u, v, _, _, h => ⟨rfl, by simpa using h⟩
  | [], b :: y, u, v, _, hy, h => by
    simp only [List.nil_append, List.cons_append, List.cons.injEq] at h
    exact absurd (by rw [h.1]; exact List.mem_cons_self ..) hy
  | a :: x, [], u, v, hx, _, h => by
    simp only [List.nil_append, List.cons_append, List.cons.injEq] at h
    exact absurd (by rw [← h.1]; exact List.mem_cons_self ..) hx
  | a :: x, b :: y, u, v, hx, hy, h => by
    simp only [List.cons_append, List.cons.injEq] at h
    obtain ⟨e1, e2⟩ := cut_first (fun z => hx (List.mem_cons_of_mem _ z)) (fun z => hy (List.mem_cons_of_mem _ z)) h.2
    exact ⟨by rw [h.1, e1], e2⟩
theorem jl_inj {c : Nat} : ∀ {xs ys : List (List Nat)}, xs ≠ [] → ys ≠ [] → (∀ x ∈ xs, c ∉ x) → (∀ y ∈ ys, c ∉ y) → jl c xs = jl c ys → xs = ys
  | [], _, h, _, _, _, _ => absurd rfl h
  | _, [], _, h, _, _, _ => absurd rfl h
  | [x], [y], _, _, _, _, e => by rw [show x = y from e]
  | [x], y :: y' :: r, _, _, hx, _, e => by
    have e : x = y ++ c :: jl c (y' :: r) := e
    exact absurd (by rw [e]; exact List.mem_append_right _ (List.mem_cons_self ..)) (hx x (List.mem_cons_self ..))
  | x :: x' :: r, [y], _, _, _, hy, e => by
    have e : x ++ c :: jl c (x' :: r) = y := e
    exact absurd (by rw [← e]; exact List.mem_append_right _ (List.mem_cons_self ..)) (hy y (List.mem_cons_self ..))
  | x :: x' :: r, y :: y' :: q, _, _, hx, hy, e => by
    have e : x ++ c :: jl c (x' :: r) = y ++ c :: jl c (y' :: q) := e
    obtain ⟨e1, e2⟩ := cut_first (hx x (List.mem_cons_self ..)) (hy y (List.mem_cons_self ..)) e
    rw [e1, jl_inj (by simp) (by simp) (fun z hz => hx z (List.mem_cons_of_mem _ hz)) (fun z hz => hy z (List.mem_cons_of_mem _ hz)) e2]
theorem split_ne (x : Str) (c : Nat) : Txt.split x ⟨#[c]⟩ ≠ [] := by
  intro h
  have := join_split x ⟨#[c]⟩
  unfold Txt.split at h
  split at h
  · cases h
  · split at h
    · cases h
    · rw [partsBetween_eq] at h
      have : ∀ (w a : Nat) (l : List Nat), partsFrom x w a l ≠ [] := fun w a l z => by
        obtain ⟨p, q, e⟩ := partsFrom_ne x w a l
        rw [e] at z
        cases z
      exact this _ _ _ h
theorem str_ext {x y : Str} (h : x.cps.toList = y.cps.toList) : x = y := by
  obtain ⟨a⟩ := x
  obtain ⟨b⟩ := y
  congr 1
  exact Array.toList_inj.mp h
theorem split_join {c : Nat} {ys : List Str} (ne : ys ≠ []) (free : ∀ y ∈ ys, c ∉ y.cps.toList) : Txt.split (Str.join ⟨#[c]⟩ ys) ⟨#[c]⟩ = ys := by
  have e := join_split (Str.join ⟨#[c]⟩ ys) ⟨#[c]⟩
  have e2 : (Str.join ⟨#[c]⟩ (Txt.split (Str.join ⟨#[c]⟩ ys) ⟨#[c]⟩)).cps.toList = (Str.join ⟨#[c]⟩ ys).cps.toList := by rw [e]
  rw [join_list, join_list] at e2
  have fr := split_free (Str.join ⟨#[c]⟩ ys) c
  have := jl_inj (c := c) (by simpa using split_ne _ c) (by simpa using ne) (fun x hx => by
    obtain ⟨p, hp, rfl⟩ := List.mem_map.mp hx
    exact fr p hp) (fun x hx => by
    obtain ⟨p, hp, rfl⟩ := List.mem_map.mp hx
    exact free p hp) e2
  have inj : ∀ {as bs : List Str}, as.map (fun z => z.cps.toList) = bs.map (fun z => z.cps.toList) → as = bs := by
    intro as
    induction as with
    | nil => intro bs h; cases bs with
      | nil => rfl
      | cons _ _ => cases h
    | cons a as ih => intro bs h; cases bs with
      | nil => cases h
      | cons b bs =>
        simp only [List.map_cons, List.cons.injEq] at h
        rw [str_ext h.1, ih h.2]
  exact inj this
end StrM
namespace LatM
/-- all shoves of (w, s, h) -/
def inL (w s h x y : Int) : Prop := ∃ a b : Int, x = a * w + b * s ∧ y = b * h
structure HNF (w s h : Int) : Prop where
  w0 : 0 < w
  s0 : 0 ≤ s
  s1 : s < w
  h0 : 0 < h
theorem near {w u v : Int} (h1 : 0 ≤ u) (h2 : u < w) (h3 : 0 ≤ v) (h4 : v < w) (d : w ∣ u - v) : u = v := by
  have := Int.eq_zero_of_dvd_of_natAbs_lt_natAbs d (by omega)
  omega
theorem zero_mul_pos {b h : Int} (h0 : 0 < h) (e : 0 = b * h) : b = 0 := by
  rcases Int.mul_eq_zero.mp e.symm with z | z
  · exact z
  · omega
theorem HNF.sub {w s h w' s' h' : Int} (A : HNF w s h) (B : HNF w' s' h') (e : ∀ x y, inL w s h x y → inL w' s' h' x y) : w' ∣ w ∧ h' ∣ h ∧ ∃ b, h = b * h' ∧ w' ∣ s - b * s' := by
  obtain ⟨a, b, h1, h2⟩ := e w 0 ⟨1, 0, by omega, by omega⟩
  have := zero_mul_pos B.h0 h2
  subst this
  obtain ⟨c, d, h3, h4⟩ := e s h ⟨0, 1, by omega, by omega⟩
  exact ⟨⟨a, by rw [h1]; grind⟩, ⟨d, by rw [h4]; grind⟩, d, h4, ⟨c, by rw [h3]; grind⟩⟩
theorem HNF.uniq {w s h w' s' h' : Int} (A : HNF w s h) (B : HNF w' s' h') (e : ∀ x y, inL w s h x y ↔ inL w' s' h' x y) : w = w' ∧ s = s' ∧ h = h' := by
  obtain ⟨a1, a2, b, a3, a4⟩ := A.sub B fun x y => (e x y).mp
  obtain ⟨b1, b2, c, b3, b4⟩ := B.sub A fun x y => (e x y).mpr
  have hw : w = w' := Int.dvd_antisymm (Int.le_of_lt A.w0) (Int.le_of_lt B.w0) b1 a1
  have hh : h = h' := Int.dvd_antisymm (Int.le_of_lt A.h0) (Int.le_of_lt B.h0) b2 a2
  subst hw hh
  have hb : b = 1 := by
    have z : (b - 1) * h = 0 := by grind
    rcases Int.mul_eq_zero.mp z with q | q
    · omega
    · have := A.h0
      omega
  subst hb
  refine ⟨rfl, ?_, rfl⟩
  rw [Int.one_mul] at a4
  exact near A.s0 A.s1 B.s0 B.s1 a4
structure Sub (G : Int → Int → Prop) : Prop where
  zero : G 0 0
  add : ∀ {x y x' y' : Int}, G x y → G x' y' → G (x + x') (y + y')
  neg : ∀ {x y : Int}, G x y → G (-x) (-y)
/-- the least that holds all of ss -/
structure Gen (ss : List (Int × Int)) (G : Int → Int → Prop) : Prop where
  sub : Sub G
  mem : ∀ p ∈ ss, G p.1 p.2
  least : ∀ G' : Int → Int → Prop, Sub G' → (∀ p ∈ ss, G' p.1 p.2) → ∀ x y, G x y → G' x y
theorem Gen.same {ss : List (Int × Int)} {G G' : Int → Int → Prop} (g : Gen ss G) (g' : Gen ss G') (x y : Int) : G x y ↔ G' x y := ⟨g.least _ g'.sub g'.mem x y, g'.least _ g.sub g.mem x y⟩
theorem Gen.nil : Gen [] (fun x y => x = 0 ∧ y = 0) := ⟨⟨⟨rfl, rfl⟩, fun h h' => ⟨by omega, by omega⟩, fun h => ⟨by omega, by omega⟩⟩, fun p hp => (by cases hp), fun G' s _ x y h => by
  rw [h.1, h.2]
  exact s.zero⟩
end LatM
namespace ShM
open LatM
abbrev Pr := Int × Int
def rest (w s h : Int) (p : Pr) : Pr := ((p.1 - p.2 / h * s) % w, p.2 % h)
structure IsL (w s h : Int) : Prop where
  w0 : 0 < w
  s0 : 0 ≤ s
  s1 : s < w
  h0 : 0 < h
theorem rest_range {w s h : Int} (A : IsL w s h) (p : Pr) : 0 ≤ (rest w s h p).1 ∧ (rest w s h p).1 < w ∧ 0 ≤ (rest w s h p).2 ∧ (rest w s h p).2 < h :=
  ⟨Int.emod_nonneg _ (by have := A.w0; omega), Int.emod_lt_of_pos _ A.w0, Int.emod_nonneg _ (by have := A.h0; omega), Int.emod_lt_of_pos _ A.h0⟩
/-- all rests -/
def grid (w h : Nat) : List Pr := (List.range w).flatMap fun (i : Nat) => (List.range h).map fun (j : Nat) => (((i : Nat) : Int), ((j : Nat) : Int))
theorem grid_len (w h : Nat) : (grid w h).length = w * h := by
  unfold grid
  rw [List.length_flatMap]
  simp [List.map_const', List.sum_replicate_nat]
theorem grid_mem {w h : Nat} {p : Pr} : p ∈ grid w h ↔ 0 ≤ p.1 ∧ p.1 < w ∧ 0 ≤ p.2 ∧ p.2 < h := by
  unfold grid
  simp only [List.mem_flatMap, List.mem_range, List.mem_map]
  constructor
  · rintro ⟨i, hi, j, hj, rfl⟩
    dsimp only
    omega
  · rintro ⟨a, b, c, d⟩
    exact ⟨p.1.toNat, by omega, p.2.toNat, by omega, Prod.ext (by show ((p.1.toNat : Nat) : Int) = _; omega) (by show ((p.2.toNat : Nat) : Int) = _; omega)⟩
structure Fills (w s h : Int) (L : List Pr) : Prop where
  nd : (L.map (rest w s h)).Nodup
  len : (L.length : Int) = w * h
theorem mem_grid {w s h : Int} (A : IsL w s h) (p : Pr) : rest w s h p ∈ grid w.toNat h.toNat := by
  obtain ⟨a, b, c, d⟩ := rest_range A p
  exact grid_mem.mpr ⟨a, by have := A.w0; omega, c, by have := A.h0; omega⟩
theorem toNat_mul {w h : Int} (a : 0 < w) (b : 0 < h) : ((w.toNat * h.toNat : Nat) : Int) = w * h := by
  rw [Int.natCast_mul, Int.toNat_of_nonneg (Int.le_of_lt a), Int.toNat_of_nonneg (Int.le_of_lt b)]
theorem Fills.all {w s h : Int} {L : List Pr} (A : IsL w s h) (F : Fills w s h L) (p : Pr) : rest w s h p ∈ L.map (rest w s h) := by
  refine Decidable.byContradiction fun no => ?_
  have nd : (rest w s h p :: L.map (rest w s h)).Nodup := List.nodup_cons.mpr ⟨no, F.nd⟩
  have sub : rest w s h p :: L.map (rest w s h) ⊆ grid w.toNat h.toNat := fun x hx => by
    rcases List.mem_cons.mp hx with rfl | hx
    · exact mem_grid A p
    · obtain ⟨q, _, rfl⟩ := List.mem_map.mp hx
      exact mem_grid A q
  have l := List.Nodup.length_le_of_subset nd sub
  rw [grid_len, List.length_cons, List.length_map] at l
  have := F.len
  have := toNat_mul A.w0 A.h0
  omega
theorem Fills.one {w s h : Int} {L : List Pr} (F : Fills w s h L) {p q : Pr} (hp : p ∈ L) (hq : q ∈ L) (e : rest w s h p = rest w s h q) : p = q := by
  obtain ⟨i, hi, rfl⟩ := List.getElem_of_mem hp
  obtain ⟨j, hj, rfl⟩ := List.getElem_of_mem hq
  have z := (List.getElem_inj (h₀ := by rw [List.length_map]; exact hi) (h₁ := by rw [List.length_map]; exact hj) F.nd (i := i) (j := j)).mp (by rw [List.getElem_map, List.getElem_map]; exact e)
  subst z
  rfl
theorem Fills.perm {w s h : Int} {L M : List Pr} (F : Fills w s h L) (p : M.Perm L) : Fills w s h M := ⟨(p.map (rest w s h)).nodup_iff.mpr F.nd, by rw [p.length_eq]; exact F.len⟩
end ShM
namespace DO
open PySem PySem.Spec PyProof.Rows L2 Evl Lay ErrX DL
/-- none of the program's objects -/
def plainD : D → Bool
  | .o _ _ _ => false
  | .j => false
  | .p _ => false
  | .c _ => false
  | .T _ => false
  | _ => true
/-- scalars, dicts, tuples and lists of what can be shown -/
inductive NV : D → Prop
  | n : NV .n
  | b (v : Bool) : NV (.b v)
  | i (v : Int) : NV (.i v)
  | s (v : Str) : NV (.s v)
  | q (k : Bool) : NV (.q k)
  | t {xs : List D} (l : xs.length ≤ 1000) (h : ∀ x ∈ xs, RD 4 x) : NV (.t xs)
  | l {xs : List D} (l : xs.length ≤ 1000) (h : ∀ x ∈ xs, RD 4 x) : NV (.l xs)
theorem rd_plain {k : Nat} {x : D} (h : RD k x) : plainD x = true := by cases h <;> rfl
theorem NV.plain {x : D} (h : NV x) : plainD x = true := by cases h <;> rfl
def RDs (k : Nat) (xs : List D) : Prop := ∀ x ∈ xs, RD k x
theorem rds_nil {k : Nat} : RDs k [] := fun x hx => by cases hx
theorem rds_cons {k : Nat} {x : D} {xs : List D} (h : RD k x) (t : RDs k xs) : RDs k (x :: xs) := fun y hy => by
  rcases List.mem_cons.mp hy with rfl | hy
  · exact h
  · exact t y hy
def isIntD : D → Bool
  | .i _ => true
  | _ => false
def isIntsD (x : D) (n : Int) : Bool := match x with
  | .t xs => decide ((xs.length : Int) = n) && xs.all isIntD
  | _ => false
theorem ints_of {xs : List D} (h : xs.all isIntD = true) : ∃ ns : List Int, xs = ns.map D.i := by
  induction xs with
  | nil => exact ⟨[], rfl⟩
  | cons x xs ih =>
    rw [List.all_cons, Bool.and_eq_true] at h
    obtain ⟨ns, rfl⟩ := ih h.2
    cases x with
    | i v => exact ⟨v :: ns, rfl⟩
    | _ => cases h.1
theorem ints5 {x : D} (h : isIntsD x 5 = true) : ∃ a b c d e : Int, x = .t [.i a, .i b, .i c, .i d, .i e] := by
  cases x with
  | t xs =>
    unfold isIntsD at h
    rw [Bool.and_eq_true] at h
    obtain ⟨ns, rfl⟩ := ints_of h.2
    have l := of_decide_eq_true h.1
    rw [List.length_map] at l
    match ns, l with
    | [a, b, c, d, e], _ => exact ⟨a, b, c, d, e, rfl⟩
    | [], l => simp at l
    | [_], l => simp at l
    | [_, _], l => simp at l
    | [_, _, _], l => simp at l
    | [_, _, _, _], l => simp at l
    | _ :: _ :: _ :: _ :: _ :: _ :: _, l =>
      simp only [List.length_cons] at l
      omega
  | _ => cases h
theorem selS_all {f : Nat → List Int} : ∀ {n : Nat} {ys : List (List Int)}, SelS (fun _ => true) (fun k ns => ns = f k) n ys → ys.length ≤ n ∧ (∀ y, y ∈ ys ↔ ∃ k, k < n ∧ y = f k) ∧ (ys.length = n ↔ ∀ i j, i < n → j < n → f i = f j → i = j)
  | 0, ys, h => by
    cases (show ys = [] from h)
    exact ⟨Nat.le_refl 0, fun y => ⟨(fun hy => by cases hy), fun ⟨k, hk, _⟩ => absurd hk (Nat.not_lt_zero k)⟩, fun _ i j hi => absurd hi (Nat.not_lt_zero i), fun _ => rfl⟩
  | n + 1, ys, h => by
    unfold SelS at h
    rw [if_pos rfl] at h
    obtain ⟨zs, y, h1, rfl, h2⟩ := h
    obtain ⟨l, m, c⟩ := selS_all h1
    rcases h2 with ⟨z, rfl⟩ | ⟨z, pm⟩
    · obtain ⟨k, hk, e⟩ := (m _).mp z
      refine ⟨by omega, fun u => ?_, fun e2 => by omega, fun inj => ?_⟩
      · rw [m u]
        constructor
        · rintro ⟨j, hj, rfl⟩
          exact ⟨j, by omega, rfl⟩
        · rintro ⟨j, hj, rfl⟩
          rcases Nat.lt_or_ge j n with q | q
          · exact ⟨j, q, rfl⟩
          · have : j = n := by omega
            subst this
            exact ⟨k, hk, e⟩
      · have := inj n k (by omega) (by omega) e
        omega
    · refine ⟨by rw [pm.length_eq, List.length_cons]; omega, fun u => ?_, ?_⟩
      · rw [pm.mem_iff, List.mem_cons, m u]
        constructor
        · rintro (rfl | ⟨j, hj, rfl⟩)
          · exact ⟨n, by omega, rfl⟩
          · exact ⟨j, by omega, rfl⟩
        · rintro ⟨j, hj, rfl⟩
          rcases Nat.lt_or_ge j n with q | q
          · exact .inr ⟨j, q, rfl⟩
          · have : j = n := by omega
            subst this
            exact .inl rfl
      · rw [pm.length_eq, List.length_cons]
        constructor
        · intro e i j hi hj hf
          have inj := c.mp (by omega)
          rcases Nat.lt_or_ge i n with qi | qi
          · rcases Nat.lt_or_ge j n with qj | qj
            · exact inj i j qi qj hf
            · have : j = n := by omega
              subst this
              exact absurd ((m _).mpr ⟨i, qi, hf.symm⟩) z
          · have : i = n := by omega
            subst this
            rcases Nat.lt_or_ge j i with qj | qj
            · exact absurd ((m _).mpr ⟨j, qj, hf⟩) z
            · omega
        · intro inj
          rw [c.mpr fun i j hi hj hf => inj i j (by omega) (by omega) hf]
end DO
namespace ShM
open DL
def dbl (c d : Int) (L : List Pr) : List Pr := L ++ L.map fun p => (c - p.1, d - p.2)
def okF (L : List Pr) (w s h c d : Int) : Prop := (0 ≤ s ∧ s < w ∧ 1 ≤ h ∧ 0 ≤ c ∧ c < w ∧ 0 ≤ d ∧ d < h) ∧ ((dbl c d L).length : Int) = w * h ∧ ((dbl c d L).map (rest w s h)).Nodup
instance {L : List Pr} {w s h c d : Int} : Decidable (okF L w s h c d) := by unfold okF; infer_instance
def floorD (L : List Pr) (v : D) : Bool := match v with
  | .t [.i w, .i s, .i h, .i c, .i d] => decide (okF L w s h c d)
  | _ => false
theorem dbl_len (c d : Int) (L : List Pr) : (dbl c d L).length = 2 * L.length := by
  unfold dbl
  rw [List.length_append, List.length_map]
  omega
theorem nodup_ix {L : List Pr} {f : Pr → Pr} : (∀ i j, i < L.length → j < L.length → f (L.getD i (0, 0)) = f (L.getD j (0, 0)) → i = j) ↔ (L.map f).Nodup := by
  rw [List.nodup_iff_pairwise_ne, List.pairwise_iff_getElem]
  constructor
  · intro h i j hi hj ij e
    rw [List.length_map] at hi hj
    rw [List.getElem_map, List.getElem_map] at e
    have := h i j hi hj (by rw [List.getD_eq_getElem?_getD, List.getD_eq_getElem?_getD, List.getElem?_eq_getElem hi, List.getElem?_eq_getElem hj]; exact e)
    omega
  · intro h i j hi hj e
    rw [List.getD_eq_getElem?_getD, List.getD_eq_getElem?_getD, List.getElem?_eq_getElem hi, List.getElem?_eq_getElem hj] at e
    rcases Nat.lt_trichotomy i j with c | c | c
    · refine absurd ?_ (h i j (by rw [List.length_map]; exact hi) (by rw [List.length_map]; exact hj) c)
      rw [List.getElem_map, List.getElem_map]
      exact e
    · exact c
    · refine absurd ?_ (h j i (by rw [List.length_map]; exact hj) (by rw [List.length_map]; exact hi) c)
      rw [List.getElem_map, List.getElem_map]
      exact e.symm
theorem floor_five {L : List Pr} {v : D} (h : floorD L v = true) : ∃ w s h c d : Int, v = .t [.i w, .i s, .i h, .i c, .i d] ∧ okF L w s h c d := by
  unfold floorD at h
  split at h
  · exact ⟨_, _, _, _, _, rfl, of_decide_eq_true h⟩
  · cases h
/-- each one once -/
def ddq : List Pr → List Pr
  | [] => []
  | p :: L => if p ∈ L then ddq L else p :: ddq L
theorem mem_ddq {p : Pr} : ∀ {L : List Pr}, p ∈ ddq L ↔ p ∈ L
  | [] => Iff.rfl
  | q :: L => by
    have ih := mem_ddq (p := p) (L := L)
    unfold ddq
    by_cases c : q ∈ L
    · rw [if_pos c, ih, List.mem_cons]
      exact ⟨.inr, fun z => z.elim (fun e => e ▸ c) id⟩
    · rw [if_neg c, List.mem_cons, List.mem_cons, ih]
theorem ddq_len : ∀ L : List Pr, (ddq L).length ≤ L.length
  | [] => Nat.le_refl 0
  | q :: L => by
    have := ddq_len L
    unfold ddq
    by_cases c : q ∈ L
    · rw [if_pos c, List.length_cons]
      omega
    · rw [if_neg c, List.length_cons, List.length_cons]
      omega
theorem nd_of_ddq : ∀ {L : List Pr}, L.length ≤ (ddq L).length → L.Nodup
  | [], _ => List.nodup_nil
  | q :: L, h => by
    have l := ddq_len L
    unfold ddq at h
    by_cases c : q ∈ L
    · rw [if_pos c, List.length_cons] at h
      omega
    · rw [if_neg c, List.length_cons, List.length_cons] at h
      exact List.nodup_cons.mpr ⟨c, nd_of_ddq (by omega)⟩
end ShM
namespace DO
open PySem PySem.Spec PyProof.Rows L2 Evl Lay ErrX DL
def rSplit : V → List V → Hp → VK → Prop := fun x xs H Q => ∃ a b, x = .str a ∧ xs = [.str b] ∧ (b.length == 0) = false ∧ a.length + 2 ≤ sizeLine ∧ rNewStrs (Txt.split a b) H Q
def rCount : V → List V → Hp → VK → Prop := fun x xs H Q => ∃ a b, x = .str a ∧ xs = [.str b] ∧ Q (.int (Txt.count a b)) H
def rJoin (K : PySem.W.Frag) : V → List V → Hp → VK → Prop := fun x xs H Q => ∃ a p, ∃ ys : List Str, x = .str a ∧ xs = [.ref p] ∧ (SqL K H p (ys.map V.str) ∨ SqT K H p (ys.map V.str)) ∧ (ys.map (·.length)).sum + ys.length * a.length ≤ 16777216 ∧ Q (.str (Txt.join a ys)) H
section
variable {X : Cx} {o e : Expr} {to te : TE} {apos pos : Pos}
theorem kx_split (ho : PE X o to) (he : PE X e te) (hs : starEach [e] X.env = [(false, eval e X.env)] := by rfl) (hbase : attributeBase o "split" X.env (eval o X.env) = eval o X.env := by rfl) (hline : (apos.endLine == pos.line) = true := by rfl) :
    PE X (.Call (.Attribute o "split" apos) [e] [] pos) (tM1 rSplit to te) := pe_split ho he hs hbase hline
theorem kx_count (ho : PE X o to) (he : PE X e te) (hs : starEach [e] X.env = [(false, eval e X.env)] := by rfl) (hbase : attributeBase o "count" X.env (eval o X.env) = eval o X.env := by rfl) (hline : (apos.endLine == pos.line) = true := by rfl) :
    PE X (.Call (.Attribute o "count" apos) [e] [] pos) (tM1 rCount to te) := pe_m1 PySem.F.slot_str_count PySem.F.type_str_count mt_count ho he hs hbase hline
theorem kx_join (K : PySem.W.Frag) (ho : PE X o to) (he : PE X e te) (hK : X.K = K := by rfl) (hs : starEach [e] X.env = [(false, eval e X.env)] := by rfl) (hbase : attributeBase o "join" X.env (eval o X.env) = eval o X.env := by rfl) (hline : (apos.endLine == pos.line) = true := by rfl) :
    PE X (.Call (.Attribute o "join" apos) [e] [] pos) (tM1 (rJoin K) to te) := by
  subst hK
  exact pe_join ho he hs hbase hline
end
section
variable {K : PySem.W.Frag}
theorem ra_strs {F : Hp} : ∀ ys : List Str, RA K F (ys.map V.str) (ys.map D.s)
  | [] => .nil
  | y :: ys => .cons (.s y) (ra_strs ys)
theorem strs_ra {F : Hp} : ∀ {vs : List V} {ys : List Str}, RA K F vs (ys.map D.s) → vs = ys.map V.str
  | [], [], _ => rfl
  | [], _ :: _, h => by cases h
  | _ :: _, [], h => by cases h
  | v :: vs, y :: ys, h => by
    cases h with
    | cons a r =>
      cases a
      rw [List.map_cons, strs_ra r]
abbrev wSplit (a b : WE) : WE := fun Γ Q => a Γ fun x => match x with
  | .s u => b Γ fun y => match y with
    | .s v => (v.length == 0) = false ∧ u.length ≤ 100000 ∧ Q (.l ((Txt.split u v).map D.s))
    | _ => False
  | _ => False
theorem e_split {ta tb : TE} {a b : WE} (h1 : EOk K ta a) (h2 : EOk K tb b) : EOk K (tM1 rSplit ta tb) (wSplit a b) := fun Γ Q hq F0 H0 F H σ r QV w =>
  h1 Γ _ hq F0 H0 F H σ r _ fun v x F1 H1 z1 e1 rx => by
    cases rx with
    | s u =>
      refine ⟨⟨u, rfl⟩, h2 Γ _ z1 F0 H0 F1 H1 σ (r.ext e1) _ fun v y F2 H2 z2 e2 ry => ?_⟩
      cases ry with
      | s t =>
        obtain ⟨n0, l, z⟩ := z2
        refine ⟨u, t, rfl, rfl, n0, by rw [sizeLine_eq]; omega, fun p hp => ?_⟩
        exact w _ _ (upd F2 p (.lst ((Txt.split u t).map V.str))) _ z ((e1.trans e2).trans (Ext.new e2.fh hp)) (.l upd_same (ra_strs _))
      | _ => exact z2.elim
    | _ => exact z1.elim
abbrev wCount (a b : WE) : WE := fun Γ Q => a Γ fun x => match x with
  | .s u => b Γ fun y => match y with
    | .s v => Q (.i (Txt.count u v))
    | _ => False
  | _ => False
theorem e_count {ta tb : TE} {a b : WE} (h1 : EOk K ta a) (h2 : EOk K tb b) : EOk K (tM1 rCount ta tb) (wCount a b) := fun Γ Q hq F0 H0 F H σ r QV w =>
  h1 Γ _ hq F0 H0 F H σ r _ fun v x F1 H1 z1 e1 rx => by
    cases rx with
    | s u =>
      refine ⟨⟨u, rfl⟩, h2 Γ _ z1 F0 H0 F1 H1 σ (r.ext e1) _ fun v y F2 H2 z2 e2 ry => ?_⟩
      cases ry with
      | s t => exact ⟨u, t, rfl, rfl, w _ _ F2 H2 z2 (e1.trans e2) (.i _)⟩
      | _ => exact z2.elim
    | _ => exact z1.elim
abbrev wJoin (a b : WE) : WE := fun Γ Q => a Γ fun x => match x with
  | .s u => b Γ fun y => ∃ ys : List Str, y = .l (ys.map D.s) ∧ (ys.map (·.length)).sum + ys.length * u.length ≤ 16777216 ∧ Q (.s (Str.join u ys))
  | _ => False
theorem e_join {ta tb : TE} {a b : WE} (h1 : EOk K ta a) (h2 : EOk K tb b) : EOk K (tM1 (rJoin K) ta tb) (wJoin a b) := fun Γ Q hq F0 H0 F H σ r QV w =>
  h1 Γ _ hq F0 H0 F H σ r _ fun v x F1 H1 z1 e1 rx => by
    cases rx with
    | s u =>
      refine ⟨⟨u, rfl⟩, h2 Γ _ z1 F0 H0 F1 H1 σ (r.ext e1) _ fun v y F2 H2 z2 e2 ry => ?_⟩
      obtain ⟨ys, rfl, l, z⟩ := z2
      rw [← PySem.StrLaws.glued_eq_join] at z
      cases ry with
      | @l p vs _ hp ra =>
        rw [strs_ra ra] at hp
        exact ⟨u, p, ys, rfl, rfl, .inl (sq_of (e2.fh _ _ hp)), l, w _ _ F2 H2 z (e1.trans e2) (.s _)⟩
    | _ => exact z1.elim
def rInSign : R2 := fun x y H Q => ∃ (c : Nat) (z : Str), x = .str ⟨#[c]⟩ ∧ y = .str z ∧ Q (.bl (decide (c ∈ z.cps.toList))) H
theorem kx_inSign {X : Cx} : OpR X (compareOp .In) rInSign := op_in_sign
def wInSign : D → D → (D → Prop) → Prop := fun x y Q => ∃ (c : Nat) (z : Str), x = .s ⟨#[c]⟩ ∧ y = .s z ∧ Q (.b (decide (c ∈ z.cps.toList)))
theorem o_inSign : OOk K rInSign wInSign := fun x y Q ⟨c, z, h1, h2, hq⟩ F H vx vy e rx ry QV w => by
  subst h1 h2
  cases rx
  cases ry
  exact ⟨c, z, rfl, rfl, w _ _ F H hq (Ext.refl e) (.b _)⟩
def rNoKd (K : PySem.W.Frag) (d : Addr) : R2 := fun x y H Q => ∃ (z : Str) (r : Option Value), x = .str z ∧ y = .ref d ∧ PySem.W.nsIn K d z = some r ∧ Q (.bl (!r.isSome)) H
structure KdIn (K : PySem.W.Frag) (w : World) (mg : Str → Option Value) (x : Str) (d : Addr) : Prop where
  m : mg x = some (.ref d)
  k : ∃ es n, KDict K w d es n
theorem kx_noKd {X : Cx} {K : PySem.W.Frag} {w : World} {mg : Str → Option Value} {x : Str} {d : Addr} (D : KdIn K w mg x d) (hK : X.K = K := by rfl) (hw : X.w = w := by rfl) : OpR X (compareOp .NotIn) (rNoKd K d) := by
  subst hK hw
  obtain ⟨es, n, k⟩ := D.k
  exact op_notIn_kd k
theorem kx_itKd (K : PySem.W.Frag) (w : World) {X : Cx} (hK : X.K = K := by rfl) (hw : X.w = w := by rfl) : IxR X (rIxD K w) := by
  subst hK hw
  exact ix_kdict
abbrev wNoKd (K : PySem.W.Frag) (d : Addr) (a : WE) : WE := fun Γ Q => a Γ fun x => match x with
  | .s z => ∃ r, PySem.W.nsIn K d z = some r ∧ Q (.b (!r.isSome))
  | _ => False
theorem e_noKd {d : Addr} {ta : TE} {wa : WE} (h : EOk K ta wa) : EOk K (tOp (rNoKd K d) ta (tC (.ref d))) (wNoKd K d wa) := fun Γ Q hq F0 H0 F H σ r QV w =>
  h Γ _ hq F0 H0 F H σ r _ fun v x F1 H1 z e1 rx => by
    cases rx with
    | s u =>
      obtain ⟨o, h1, h2⟩ := z
      exact ⟨u, o, rfl, rfl, h1, w _ _ F1 H1 h2 e1 (.b _)⟩
    | _ => exact z.elim
abbrev wItKd (K : PySem.W.Frag) (w : World) (d : Addr) (a : WE) : WE := fun Γ Q => a Γ fun x => match x with
  | .s z => ∃ i : Int, KDct K w d z (.int i) ∧ Q (.i i)
  | _ => False
theorem e_itKd {w : World} {d : Addr} {tb : TE} {wb : WE} (h : EOk K tb wb) : EOk K (tOp (rIxD K w) (tC (.ref d)) tb) (wItKd K w d wb) := fun Γ Q hq F0 H0 F H σ r QV q =>
  h Γ _ hq F0 H0 F H σ r _ fun v x F1 H1 z e1 rx => by
    cases rx with
    | s u =>
      obtain ⟨i, h1, h2⟩ := z
      exact ⟨d, u, _, rfl, rfl, h1, q _ _ F1 H1 h2 e1 (.i i)⟩
    | _ => exact z.elim
end
def tCallLG (i : Nat) (f : Addr) (sp : Sp) (t : TA) : TE := fun σ H Q => σ[i]? = some (some (.ref f)) ∧ t σ H fun vs H1 => sp vs H1 Q E0
theorem pe_callLG {X : Cx} {k i : Nat} {f : Addr} {x y : Str} {ps : List Str} {sp : Sp} {p pos : Pos} {e : Expr} {es : List Expr} {t : TA} (D : DefOk X.prog X.w X.K X.mg X.base y k ps sp) (hf : X.mg y = some (.ref f)) (hr : Room k X.A) (hg : X.A.guards = some []) (hN : X.N[i]? = some x) (hv : Vis X.env.scope x) (ha : PA X (e :: es) t)
    (hdb : (x == ("__debug__" : Str)) = false := by decide) (hcd : (x == ("__classdict__" : Str)) = false := by decide)
    (he : starEach (e :: es) X.env = (false, eval e X.env) :: starEach es X.env := by rfl) (hpl : (backTo pos (starEach es X.env)).any (·.1) = false := by rfl) : PE X (.Call (.Name x p) (e :: es) [] pos) (tCallLG i f sp t) := by
  obtain ⟨f', fd, F, hm, hk, hb⟩ := D.ex
  rw [hf] at hm
  injection hm with hm
  injection hm with hm
  subst hm
  refine ⟨fun pins s σ H Q I h => ?_⟩
  obtain ⟨hs, ht⟩ := h
  refine wpAny_Call_Name_kw (thn ((pe_var (pos := p) hN hv hdb hcd).run pins s σ H (fun v H1 => v = .ref f ∧ H1 = H) I ⟨.ref f, hs, rfl, rfl⟩) fun u s1 ⟨v, H1, I1, r1, q1⟩ => ?_)
  obtain ⟨rfl, rfl⟩ := q1
  cases r1
  refine PySem.W.callWith_K (h₀ := X.base) I.ok.mod.kin hk (thn (ha.run pos pins s1 σ _ _ I1 ht) fun us s2 ⟨vs, H2, I2, r, q⟩ => ⟨I2.kIn, ?_⟩) he hpl
  exact run_g F hr hg hb I2 r q
section
variable {K : PySem.W.Frag}
abbrev wDisp (K : PySem.W.Frag) (w : World) (d f : Addr) (k : Nat) (S : List D → (D → Prop) → Prop) (wb : WE) (wa : WA) : WS := fun P Γ => wb Γ fun y => match y with
  | .s z => KDct K w d z (.ref f) ∧ k < Γ.length ∧ wa (put Γ k .u) fun ds => S ds P.rt
  | _ => False
theorem KDct.inj {w : World} {d f : Addr} {z : Str} {v : V} (h : KDct K w d z v) (h' : KDct K w d z (.ref f)) : ∃ u, PySem.W.nsIn K d z = some (some u) ∧ RelV v u := by
  obtain ⟨_, _, u, _, _, a, b⟩ := h
  exact ⟨u, a, b⟩
theorem s_disp {w : World} {d f : Addr} {k : Nat} {S : List D → (D → Prop) → Prop} {tb : TE} {wb : WE} {ta : TA} {wa : WA} (hb : EOk K tb wb) (ha : AOk K ta wa) :
    SOk K (tSeq (tAsg (tOp (rIxD K w) (tC (.ref d)) tb) (gName k)) (tRet (tCallLG k f (spD K S) ta))) (wDisp K w d f k S wb wa) := fun P Γ hq F0 H0 F H σ r E x =>
  hb Γ _ hq F0 H0 F H σ r _ fun v y F1 H1 z e1 rv => by
    cases rv with
    | s u =>
      obtain ⟨h1, h2, h3⟩ := z
      refine ⟨d, u, .ref f, rfl, rfl, h1, ?_⟩
      have r2 := (r.ext e1).drop (k := k) (o := some (.ref f))
      refine ⟨by rw [List.getElem?_set_self (by rw [(r.ext e1).len]; exact h2)], ?_⟩
      refine ha _ _ h3 F0 H0 F1 H1 _ r2 _ fun vs ds F2 H2 z2 e2 ra => ⟨F2, ds, P.rt, e2.fh, ra, z2, fun v d F3 H3 h3 e3 r3 => ?_⟩
      exact x.rt _ _ _ _ h3 ((r2.ext0.trans e2).trans e3) r3
    | _ => exact z.elim
end
end DO
namespace DO
open PySem PySem.Spec PyProof.Rows L2 Evl Lay ErrX DL
/-- a def that stands in a class -/
structure ClsFn (P : Program) (w : World) (K : PySem.W.Frag) (mg : Str → Option Value) (base : Heap) (k : Nat) (g : Addr) (ps : List Str) (S : List D → (D → Prop) → Prop) : Prop where
  ex : ∃ fd, FnG P w K mg base CX0 k g fd ps (spD K S) ∧ Binds K fd ps []
/-- a property, its getter a def over data -/
structure PropG (P : Program) (w : World) (K : PySem.W.Frag) (mg : Str → Option Value) (base : Heap) (C : Addr) (f : Str) (k : Nat) (S : List D → (D → Prop) → Prop) : Prop where
  cls : Cls K C
  ex : ∃ p g fd, PropOf K C f p g ∧ FnG P w K mg base CX0 k g fd ["self"] (spD K S) ∧ Binds K fd ["self"] []
section
variable {X : Cx} {C f a dx : Addr} {fs : List (Str × V)} {fd : FuncData} {k : Nat} {sp : Sp} {ps : List Str}
/-- a def of the class run at an object from within a builtin -/
theorem run_self1 {pins : List (Addr × Obj)} {σ : L2.St} {H : Hp} {s : Shared} {A : Around} {Q : VK} (F : FnG X.prog X.w X.K X.mg X.base CX0 k f fd ["self"] sp) (hr : Room k A) (hg : A.guards = some []) (hfr : A.frames = X.A.frames) (hb : Binds X.K fd ["self"] []) (I : Inv X pins σ H s) (h : sp [.ref a] H Q E0) :
    ∀ {E : Value → Shared → Prop}, wpAny (model X.prog X.w) A (call (.ref f) [.ref a]) (EP X pins σ Q) E s := by
  intro E
  have e0 : Env0 X.prog X.w X.K X.mg X.base A X.stack s H := by
    have e := I.env0
    exact ⟨by rw [hfr]; exact e.frames, e.mod, e.bs, e.bsz, e.funs, e.frf, e.hok, e.bare⟩
  have b := hb s [.ref a] I.kIn (by rfl)
  refine wpAny_call (codeAny_mono (F.run A X.stack s H ⟨[.ref a], []⟩ [.ref a] [.ref a] Q E0 hr hg e0 b (.cons rfl .nil) h) fun res s' z => ?_)
  cases res with
  | error err => exact False.elim z
  | ok fl =>
    cases fl with
    | ret u => exact I.after z
    | next => exact False.elim z
    | brk => exact False.elim z
    | cont => exact False.elim z
/-- e.f -/
theorem pe_propG {S : List D → (D → Prop) → Prop} {e : Expr} {pos : Pos} {ta : TE} {f : Str} (D : PropG X.prog X.w X.K X.mg X.base C f k S) (hr : Room (k + 1) X.A) (hg : X.A.guards = some []) (he : PE X e ta) (hab : attributeBase e f X.env (eval e X.env) = eval e X.env) :
    PE X (.Attribute e f pos) (tProp C (spD X.K S) [] E0 ta) := by
  obtain ⟨p, g, fd, hp, F, bd⟩ := D.ex
  refine ⟨fun pins s σ H Q I h => ?_⟩
  refine attr_of hab (thn (he.run pins s σ H _ I h) fun u s1 ⟨x, H1, I1, rx, a, dx, fs, ex, ea, q⟩ => ?_)
  subst ex
  obtain rfl : u = Value.ref a := rx
  obtain ⟨mA, O, _, _, _, _⟩ := ins_get I1.hok ea
  obtain ⟨od, J, _⟩ := O.look
  obtain ⟨rest, hrec⟩ := hp.rec_
  have I2 := I1.tok (s1.toks + 1)
  have hc : (PySem.W.clsIn X.K C).isSome = true := by
    obtain ⟨cd, hc, _⟩ := PySem.W.any_some D.cls.hd
    rw [hc]
    rfl
  refine PySem.W.get_bind I1.kIn J (PySem.W.plainGet_of (D.cls.get f)).1 (PySem.W.findObj_data hc hp.at_ hp.get hp.tak) (PySem.W.plainGet_of (D.cls.get f)).2 (wpAny_call (PySem.W.prop_get (s := { s1 with toks := s1.toks + 1 }) I1.kIn hrec ?_))
  have b := bd { s1 with toks := s1.toks + 1 } [.ref a] I2.kIn (by rfl)
  refine codeAny_mono (F.run X.A.in1 X.stack { s1 with toks := s1.toks + 1 } H1 ⟨[.ref a], []⟩ [.ref a] [.ref a] Q E0 hr.in1 (by exact hg) I2.env0.in1 b (.cons rfl .nil) q) fun r s' hq => ?_
  cases r with
  | error er => exact False.elim hq
  | ok fl =>
    cases fl with
    | ret u =>
      obtain ⟨v, H', I3, rv, q3⟩ := I2.after hq
      show wpAny _ _ (handedOut u) _ _ _
      rw [PySem.W.handedOut_of (handed_of rv)]
      exact wpAny_pure ⟨v, H', I3, rv, q3⟩
    | next => exact False.elim hq
    | brk => exact False.elim hq
    | cont => exact False.elim hq
/-- str(x) -/
def rStrO (C : Addr) (sp : Sp) : List V → Hp → VK → Prop := fun xs H Q => ∃ a dx fs, xs = [.ref a] ∧ H a = some (.ins C dx fs) ∧ sp [.ref a] H (fun v H' => ∃ z, v = .str z ∧ Q v H') E0
theorem cr_strO (hr : Room (k + 2) X.A) (hg : X.A.guards = some []) (F : FnG X.prog X.w X.K X.mg X.base CX0 k f fd ["self"] sp) (hb : Binds X.K fd ["self"] []) (hs : PySem.W.findIn X.K (.ref C) "__str__" = some (some (.ref f))) (hf : PySem.W.isFn X.K (.ref f) = true) : CallR X (.type "str") (rStrO C sp) := by
  intro pins s σ H xs us Q I r h
  obtain ⟨a, dx, fs, rfl, ha, q⟩ := h
  rw [Vals.ref1 r]
  obtain ⟨mA, O, _, _, _, _⟩ := ins_get I.hok ha
  obtain ⟨od, J, _⟩ := O.look
  refine PySem.W.kso_call hr.in1.in1.units0 I.kIn J hs hf (wpAny_mono (run_self1 F hr.in1.in1 (by exact hg) rfl hb I q) (fun u s' z => ?_) fun _ _ y => y)
  obtain ⟨v, H', I', rv, z, rfl, q2⟩ := z
  obtain ⟨t, rfl⟩ := rv
  exact ⟨.str z, H', I', ⟨t, rfl⟩, q2⟩
/-- len(x) -/
def rLenO (C : Addr) (sp : Sp) : List V → Hp → VK → Prop := fun xs H Q => ∃ a dx fs, xs = [.ref a] ∧ H a = some (.ins C dx fs) ∧ sp [.ref a] H (fun v H' => ∃ z : Int, v = .int z ∧ (0 ≤ z ∧ z < 2 ^ 63) ∧ Q v H') E0
theorem cr_lenO (hr : Room (k + 2) X.A) (hg : X.A.guards = some []) (F : FnG X.prog X.w X.K X.mg X.base CX0 k f fd ["self"] sp) (hb : Binds X.K fd ["self"] []) (hs : PySem.W.findIn X.K (.ref C) "__len__" = some (some (.ref f))) (hf : PySem.W.isFn X.K (.ref f) = true) : CallR X (.builtin "len") (rLenO C sp) := by
  intro pins s σ H xs us Q I r h
  obtain ⟨a, dx, fs, rfl, ha, q⟩ := h
  rw [Vals.ref1 r]
  obtain ⟨mA, O, _, _, _, _⟩ := ins_get I.hok ha
  obtain ⟨od, J, _⟩ := O.look
  obtain ⟨m, hF⟩ := I.fr
  refine PySem.W.len_K hF I.ok.mod.kin J hs hf (wpAny_mono (run_self1 F (hr.mono (by omega)).in1 (by exact hg) rfl hb I q) (fun u s' z => ?_) fun _ _ y => y)
  obtain ⟨v, H', I', rv, z, rfl, bd, q2⟩ := z
  obtain ⟨t, rfl⟩ := rv
  exact ⟨bd, .int z, H', I'.tok _, ⟨_, rfl⟩, q2⟩
end
section
variable {K : PySem.W.Frag}
/-- what is read of a property by a def -/
abbrev wPropG (C : Addr) (S : List D → (D → Prop) → Prop) (a : WE) : WE := fun Γ Q => a Γ fun d => (∃ ns xs, d = .o C ns xs) ∧ S [d] Q
theorem o_at {F : Hp} {v : V} {C : Addr} {ns : List Str} {xs : List D} {H : Hp} (e : Ex F H) (r : R K F v (.o C ns xs)) : ∃ a dx fs, v = .ref a ∧ H a = some (.ins C dx fs) := by
  cases r with
  | @o a _ dx _ vs _ h1 h2 h3 ra => exact ⟨a, dx, _, rfl, e _ _ h1⟩
theorem e_propG {C : Addr} {S : List D → (D → Prop) → Prop} {ta : TE} {wa : WE} (h : EOk K ta wa) : EOk K (tProp C (spD K S) [] E0 ta) (wPropG C S wa) := fun Γ Q hq F0 H0 F H σ r QV w =>
  h Γ _ hq F0 H0 F H σ r _ fun v d F1 H1 z e1 rv => by
    obtain ⟨⟨ns, xs, rfl⟩, hS⟩ := z
    obtain ⟨a, dx, fs, rfl, ha⟩ := o_at e1.fh rv
    exact ⟨a, dx, fs, rfl, ha, F1, [.o C ns xs], Q, e1.fh, .cons rv .nil, hS, fun v d F3 H3 h3 e3 r3 => w v d F3 H3 h3 (e1.trans e3) r3⟩
abbrev wStrO (C : Addr) (S : List D → (D → Prop) → Prop) (a : WE) : WE := fun Γ Q => a Γ fun d => (∃ ns xs, d = .o C ns xs) ∧ S [d] fun y => (∃ z, y = .s z) ∧ Q y
theorem e_strO {C : Addr} {S : List D → (D → Prop) → Prop} {ta : TE} {wa : WE} (h : EOk K ta wa) : EOk K (tCB (rStrO C (spD K S)) (tCons ta tNil)) (wStrO C S wa) := fun Γ Q hq F0 H0 F H σ r QV w =>
  h Γ _ hq F0 H0 F H σ r _ fun v d F1 H1 z e1 rv => by
    obtain ⟨⟨ns, xs, rfl⟩, hS⟩ := z
    obtain ⟨a, dx, fs, rfl, ha⟩ := o_at e1.fh rv
    refine ⟨a, dx, fs, rfl, ha, F1, [.o C ns xs], _, e1.fh, .cons rv .nil, hS, fun v d F3 H3 h3 e3 r3 => ?_⟩
    obtain ⟨⟨z, rfl⟩, h3⟩ := h3
    cases r3
    exact ⟨z, rfl, w _ _ F3 H3 h3 (e1.trans e3) (.s _)⟩
abbrev wLenO (C : Addr) (S : List D → (D → Prop) → Prop) (a : WE) : WE := fun Γ Q => a Γ fun d => (∃ ns xs, d = .o C ns xs) ∧ S [d] fun y => (∃ z : Int, y = .i z ∧ 0 ≤ z ∧ z < 2 ^ 63) ∧ Q y
theorem e_lenO' {C : Addr} {S : List D → (D → Prop) → Prop} {ta : TE} {wa : WE} (h : EOk K ta wa) : EOk K (tCB (rLenO C (spD K S)) (tCons ta tNil)) (wLenO C S wa) := fun Γ Q hq F0 H0 F H σ r QV w =>
  h Γ _ hq F0 H0 F H σ r _ fun v d F1 H1 z e1 rv => by
    obtain ⟨⟨ns, xs, rfl⟩, hS⟩ := z
    obtain ⟨a, dx, fs, rfl, ha⟩ := o_at e1.fh rv
    refine ⟨a, dx, fs, rfl, ha, F1, [.o C ns xs], _, e1.fh, .cons rv .nil, hS, fun v d F3 H3 h3 e3 r3 => ?_⟩
    obtain ⟨⟨z, rfl, z0, z1⟩, h3⟩ := h3
    cases r3
    exact ⟨z, rfl, ⟨z0, z1⟩, w _ _ F3 H3 h3 (e1.trans e3) (.i _)⟩
end
end DO
namespace DO
open PySem PySem.Spec PyProof.Rows L2 Evl Lay ErrX DL
section
variable {K : PySem.W.Frag}
abbrev wFrom (C : Addr) (fld : Str) (k : Nat) (S : List D → (List D → Prop) → Prop) (wa : WA) (w2 : WE) : WS := fun P Γ => wa Γ fun ds => S ds fun xs => k < Γ.length ∧ w2 (put Γ k .u) fun y => P.rt (.o C [fld] [y])
theorem putF_one {fld : Str} {u v : V} : putF fld v [(fld, u)] = [(fld, v)] := by
  unfold putF
  simp
theorem s_from {C : Addr} {fld : Str} {k : Nat} {S : List D → (List D → Prop) → Prop} {ta : TA} {wa : WA} {t2 : TE} {w2 : WE} (c : Cls K C) (n : NoAttr K C fld) (h : AOk K ta wa) (h2 : EOk K t2 w2) :
    SOk K (tSeq (tAsg (tMake C (spMk K C [fld] S) [] E0 ta) (gName k)) (tSeq (sFld K (tVar k) t2 fld) (tRet (tVar k)))) (wFrom C fld k S wa w2) := fun P Γ hq F0 H0 F H σ r E w =>
  h Γ _ hq F0 H0 F H σ r _ fun vs ds F1 H1 z e1 ra => by
    intro x dx nx ndx ne
    rw [List.append_nil]
    have fx := fresh_back e1.fh nx
    have fdx := fresh_back e1.fh ndx
    have up : Ex H1 (upd (upd H1 dx (.own x)) x (.ins C dx [])) := fun a o q => by
      rw [upd_ne (ne_of_none q nx), upd_ne (ne_of_none q ndx)]
      exact q
    refine ⟨x, dx, vs, F1, ds, _, rfl, upd_same, e1.fh.trans up, ra, z, fun F' H' us xs hx e rx hl => ⟨rfl, ?_⟩⟩
    obtain ⟨hk, hx⟩ := hx
    have f'x : F' x = none := by
      cases q : F' x with
      | none => rfl
      | some o =>
        have := e.nw x o q fx
        rw [upd_same] at this
        cases this
    have f'dx : F' dx = none := by
      cases q : F' dx with
      | none => rfl
      | some o =>
        have := e.nw dx o q fdx
        rw [upd_ne ne, upd_same] at this
        cases this
    have h'dx : H' dx = some (.own x) := e.hh.kp (by rw [upd_ne ne, upd_same])
    obtain ⟨u0, rfl⟩ : ∃ u0, us = [u0] := by
      cases us with
      | nil => cases hl
      | cons a t => cases t with
        | nil => exact ⟨a, rfl⟩
        | cons b t => cases hl
    have e2 : Ext F1 H1 F' (upd H' x (.ins C dx ([fld].zip [u0]))) := by
      refine ⟨e.ff, ((ExT.of up).trans e.hh).mut nx, fun a o q => ?_, ((TabG.of up).trans e.tb).mut (e.hh.kp upd_same) noTab_ins, fun a o q m => ?_⟩
      · rw [upd_ne (ne_of_none q f'x)]
        exact e.fh _ _ q
      · have := e.nw a o q m
        rw [upd_ne (ne_of_none q f'x), upd_ne (ne_of_none q f'dx)] at this
        exact this
    have r2 := (r.ext (e1.trans e2)).drop (k := k) (o := some (.ref x))
    have hkσ : k < σ.length := by rw [r.len]; exact hk
    refine h2 _ _ hx F0 H0 F' _ _ r2 _ fun v y F3 H3 z3 e3 rv => ?_
    have h3x : H3 x = some (.ins C dx [(fld, u0)]) := e3.hh.kp upd_same
    have h3dx : H3 dx = some (.own x) := e3.hh.kp (by rw [upd_ne ne]; exact h'dx)
    have f3x : F3 x = none := by
      cases q : F3 x with
      | none => rfl
      | some o =>
        have := e3.nw x o q f'x
        rw [upd_same] at this
        cases this
    have f3dx : F3 dx = none := by
      cases q : F3 dx with
      | none => rfl
      | some o =>
        have := e3.nw dx o q f'dx
        rw [upd_ne ne, h'dx] at this
        cases this
    have ee := (e1.trans e2).trans e3
    refine ⟨.ref x, by rw [List.getElem?_set_self hkσ], x, C, dx, _, rfl, h3x, c, n, (by show 1 < 1000; decide), .ref x, by rw [List.getElem?_set_self hkσ], ?_⟩
    rw [putF_one]
    have ff : Ex F3 (upd (upd F3 dx (.own x)) x (.ins C dx [(fld, v)])) := fun a o q => by
      rw [upd_ne (ne_of_none q f3x), upd_ne (ne_of_none q f3dx)]
      exact q
    refine w.rt _ _ (upd (upd F3 dx (.own x)) x (.ins C dx [(fld, v)])) _ z3 (r.ext0.trans ?_) (.o (dx := dx) (vs := [v]) upd_same (by rw [upd_ne ne, upd_same]) rfl (.cons (rv.mono ff) .nil))
    refine ⟨ee.ff.trans ff, ee.hh.mut (ExT.back e1.hh nx), fun a o q => ?_, ee.tb.mut h3x noTab_ins, fun a o q m => ?_⟩
    · by_cases ax : a = x
      · subst ax
        rw [upd_same] at q ⊢
        exact q
      · rw [upd_ne ax] at q ⊢
        by_cases ad : a = dx
        · subst ad
          rw [upd_same] at q
          cases q
          exact h3dx
        · rw [upd_ne ad] at q
          exact ee.fh _ _ q
    · by_cases ax : a = x
      · rw [ax]
        exact ExT.back e1.hh nx
      · rw [upd_ne ax] at q
        by_cases ad : a = dx
        · rw [ad]
          exact ExT.back e1.hh ndx
        · rw [upd_ne ad] at q
          exact ee.nw a o q m
end
end DO
namespace DO
open PySem PySem.Spec PyProof.Rows L2 Evl Lay ErrX DL
/-- a def of a class, by its body -/
theorem mok {P : Program} {w : World} {K : PySem.W.Frag} {mg : Str → Option Value} {base : Heap} {x qual : Str} {st : Stmt} {f : Addr} {fd : FuncData} {N ps : List Str} {k : Nat} {S : List D → (D → Prop) → Prop} (F : Fun K x qual st f fd) (bd : Binds K fd ps []) (sc : FnScope N ps (defScope st)) (len : ∀ ds P, S ds P → ds.length = ps.length) (hN : ps.length ≤ N.length := by decide)
    (body : ∀ (cdv : Value) (A : Around) (outer : List Env) (s : Shared) (H : Hp) (E : XK), Room k (cxOf CX0 P w K mg base N qual (defScope st) f cdv A outer s H E).A → (cxOf CX0 P w K mg base N qual (defScope st) f cdv A outer s H E).A.guards = some [] →
      ∃ t a, PSs (cxOf CX0 P w K mg base N qual (defScope st) f cdv A outer s H E).nox (defBody st) t ∧ SOk K t a ∧ ∀ ds Q, S ds Q → a { nx := fun _ => Q .n, rt := Q } (startG N.length ds)) : ClsFn P w K mg base (k + 1) f ps S := by
  refine ⟨fd, fng F sc (spD_len len) fun cdv A outer s H vs Q E hr hg h => ?_, bd⟩
  obtain ⟨t, a, ht, hs, q⟩ := body cdv A outer s H E hr hg
  exact ⟨t, ht.nox, body_run hs h (fun ds P z => by rw [len ds P z]; exact hN) q⟩
theorem propG_mk {P : Program} {w : World} {K : PySem.W.Frag} {mg : Str → Option Value} {base : Heap} {C p g : Addr} {f : Str} {k : Nat} {S : List D → (D → Prop) → Prop} (c : Cls K C) (hp : PropOf K C f p g) (F : ClsFn P w K mg base k g ["self"] S) : PropG P w K mg base C f k S := by
  obtain ⟨fd, F, bd⟩ := F.ex
  exact ⟨c, p, g, fd, hp, F, bd⟩
/-- an own __str__ or __len__ -/
structure SpG (P : Program) (w : World) (K : PySem.W.Frag) (mg : Str → Option Value) (base : Heap) (C : Addr) (x : Str) (k : Nat) (S : List D → (D → Prop) → Prop) : Prop where
  ex : ∃ g, ClsFn P w K mg base k g ["self"] S ∧ PySem.W.findIn K (.ref C) x = some (some (.ref g)) ∧ PySem.W.isFn K (.ref g) = true
section
variable {X : Cx} {C : Addr} {k : Nat} {S : List D → (D → Prop) → Prop}
theorem cr_strG (D : SpG X.prog X.w X.K X.mg X.base C "__str__" k S) (hr : Room (k + 2) X.A) (hg : X.A.guards = some []) : CallR X (.type "str") (rStrO C (spD X.K S)) := by
  obtain ⟨g, ⟨fd, F, bd⟩, hs, hf⟩ := D.ex
  exact cr_strO hr hg F bd hs hf
theorem cr_lenG (D : SpG X.prog X.w X.K X.mg X.base C "__len__" k S) (hr : Room (k + 2) X.A) (hg : X.A.guards = some []) : CallR X (.builtin "len") (rLenO C (spD X.K S)) := by
  obtain ⟨g, ⟨fd, F, bd⟩, hs, hf⟩ := D.ex
  exact cr_lenO hr hg F bd hs hf
end
/-- e.f, a plain field -/
theorem pe_fldK (K : PySem.W.Frag) {X : Cx} {f : Str} {e : Expr} {pos : Pos} {ta : TE} (he : PE X e ta) (hK : X.K = K := by rfl) (hb : attributeBase e f X.env (eval e X.env) = eval e X.env := by rfl) : PE X (.Attribute e f pos) (tFld K ta f) := by
  subst hK
  exact pe_fld he hb
theorem ps_fldK (K : PySem.W.Frag) {X : Cx} {o value : Expr} {f : Str} {pos pos' : Pos} {ta tv : TE} (ha : PE X o ta) (hv : PE X value tv) (hK : X.K = K := by rfl) (hs : swapsWith value (some (.Attribute o f pos')) pos.line X.env = pure false := by rfl) : PS X (.Assign [.Attribute o f pos'] value pos) (sFld K ta tv f) := by
  subst hK
  exact ps_fld ha hv hs
section
variable {K : PySem.W.Frag}
theorem e_fld1 {C : Addr} {f : Str} {ta : TE} {wa : WE} (c : Cls K C) (n : NoAttr K C f) (h : EOk K ta wa) : EOk K (tFld K ta f) (wAtC C f wa) := fun Γ Q hq F0 H0 F H σ r QV w =>
  h Γ _ hq F0 H0 F H σ r _ fun v d F1 H1 z e1 rv => by
    obtain ⟨y, rfl, hy⟩ := z
    obtain ⟨a, dx, fs, u, y', rfl, ha, lu, ru, q⟩ := at_ok (Q := Q) (f := f) e1.fh rv ⟨rfl, by rw [luD_one]; exact hy⟩
    exact ⟨a, C, dx, fs, u, rfl, ha, c, n, lu, w u y' F1 H1 q e1 ru⟩
end
/-- a promise to nobody -/
theorem dok_bot {P : Program} {w : World} {K : PySem.W.Frag} {mg : Str → Option Value} {base : Heap} {x : Str} {st : Stmt} {k : Nat} {ps : List Str} (D : DefIn K mg x st ps) : DOk P w K mg base x st k ps (fun _ _ => False) := by
  obtain ⟨f, fd, F, hm, hb⟩ := D.ex
  exact ⟨f, fd, ⟨fun _ _ _ _ h => by obtain ⟨_, _, _, _, _, h, _⟩ := h; exact h.elim, fun _ _ _ _ _ _ _ _ _ _ _ _ _ _ h => by obtain ⟨_, _, _, _, _, h, _⟩ := h; exact h.elim⟩, hm, F, hb⟩
end DO
namespace DO
open PySem PySem.Spec PyProof.Rows L2 Evl Lay ErrX DL
def rMulS : R2 := fun x y H Q => ∃ (c n : Nat), x = .str ⟨#[c]⟩ ∧ y = .int (n : Int) ∧ 1 ≤ n ∧ n ≤ 1000000 ∧ Q (.str ⟨(List.replicate n c).toArray⟩) H
theorem fold_rep (c : Nat) : ∀ (n : Nat) (acc : Array Nat), ((List.replicate n (#[c] : Array Nat)).foldl (· ++ ·) acc).toList = acc.toList ++ List.replicate n c
  | 0, acc => by simp
  | n + 1, acc => by
    rw [List.replicate_succ, List.foldl_cons, fold_rep c n, List.replicate_succ]
    simp
theorem op_mul_str {X : Cx} : OpR X (binaryOp .Mult) rMulS := by
  intro pins s σ H x y v u Q I rx ry h
  obtain ⟨c, n, rfl, rfl, h1, h2, q⟩ := h
  obtain ⟨t, rfl⟩ := rx
  obtain ⟨t', rfl⟩ := ry
  have one : (⟨#[c]⟩ : Str).length = 1 := rfl
  refine P.mul_str ?_ (fun _ _ => ?_) (fun _ _ => ?_) ?_
  · rw [decide_eq_false (by omega), decide_eq_false (by omega)]
    rfl
  · rw [one]
    have : 1 ≤ (2 ^ 63 - 1 : Int) / (n : Int) := (Int.le_ediv_iff_mul_le (by omega)).mpr (by omega)
    omega
  · rw [one]
    unfold Builtin.Str.tooLong
    rw [Int.toNat_natCast, Nat.one_mul]
    exact decide_eq_false (by rw [Nat.not_lt, sizeLine_eq]; omega)
  · rw [if_neg (by omega)]
    split
    · rename_i e
      have e1 : n = 1 := by
        rw [Bool.or_eq_true] at e
        rcases e with e | e
        · have := eq_of_beq e
          omega
        · cases e
      subst e1
      exact ⟨.str _, H, I, ⟨t, rfl⟩, q⟩
    · rw [Int.toNat_natCast]
      have e : (⟨(List.replicate n (#[c] : Array Nat)).foldl (· ++ ·) #[]⟩ : Str) = ⟨(List.replicate n c).toArray⟩ := by
        congr 1
        apply Array.toList_inj.mp
        rw [fold_rep]
        simp
      show Made.post (Made.str ⟨(List.replicate n (#[c] : Array Nat)).foldl (· ++ ·) #[]⟩) _ s
      rw [e]
      refine ⟨?_, .str _, H, I.tok _, ⟨_, rfl⟩, q⟩
      show ((List.replicate n c).toArray).size ≤ sizeLine
      rw [List.size_toArray, List.length_replicate, sizeLine_eq]
      omega
section
variable {K : PySem.W.Frag}
def wMulS : D → D → (D → Prop) → Prop := fun x y Q => ∃ (c n : Nat), x = .s ⟨#[c]⟩ ∧ y = .i (n : Int) ∧ 1 ≤ n ∧ n ≤ 1000000 ∧ Q (.s ⟨(List.replicate n c).toArray⟩)
theorem o_mulS : OOk K rMulS wMulS := fun x y Q ⟨c, n, h1, h2, a, b, hq⟩ F H vx vy e rx ry QV w => by
  subst h1 h2
  cases rx
  cases ry
  exact ⟨c, n, rfl, rfl, a, b, w _ _ F H hq (Ext.refl e) (.s _)⟩
def wAddS : D → D → (D → Prop) → Prop := fun x y Q => ∃ a b, x = .s a ∧ y = .s b ∧ a.length + b.length ≤ 1000000 ∧ Q (.s (a ++ b))
theorem o_addS : OOk K (fun x y H Q => ∃ i j, x = .str i ∧ y = .str j ∧ i.length + j.length ≤ sizeLine ∧ Q (.str (i ++ j)) H) wAddS := fun x y Q ⟨a, b, h1, h2, l, hq⟩ F H vx vy e rx ry QV w => by
  subst h1 h2
  cases rx
  cases ry
  exact ⟨a, b, rfl, rfl, by rw [sizeLine_eq]; omega, w _ _ F H hq (Ext.refl e) (.s _)⟩
abbrev wSlS (a : WE) (lo hi : WPt) : WE := fun Γ Q => a Γ fun x => lo Γ fun l => hi Γ fun u => match x with
  | .s z => z.length ≤ 1000000 ∧ Q (.s (cutS z l u))
  | _ => False
theorem e_slS {ta : TE} {tl th : L2.St → Hp → (Option Int → Hp → Prop) → Prop} {wa : WE} {wl wh : WPt} (ha : EOk K ta wa) (hl : PtOk K tl wl) (hh : PtOk K th wh) : EOk K (tSl rSlS ta tl th) (wSlS wa wl wh) := fun Γ Q hq F0 H0 F H σ r QV q =>
  ha Γ _ hq F0 H0 F H σ r _ fun v x F1 H1 z1 e1 rv => hl Γ _ z1 F0 H0 F1 H1 σ (r.ext e1) _ fun lo F2 H2 z2 e2 => hh Γ _ z2 F0 H0 F2 H2 σ ((r.ext e1).ext e2) _ fun hi F3 H3 z3 e3 => by
    cases rv with
    | s z =>
      obtain ⟨l, z3⟩ := z3
      exact ⟨z, rfl, by rw [sizeLine_eq]; omega, q _ _ F3 H3 z3 (e1.trans (e2.trans e3)) (.s _)⟩
    | _ => exact z3.elim
end
end DO
namespace DO
open PySem PySem.Spec PyProof.Rows L2 Evl Lay ErrX DL
theorem walk_zipT {K : PySem.W.Frag} {a b : Addr} {xs ys : List V} {n : Nat} (hn : n = min xs.length ys.length) : Walk (RZ.ItzT K a b) n (fun H => SqT K H a xs ∧ SqT K H b ys) (YPair (fun i => xs[i]?) (fun i => ys[i]?)) := by
  subst hn
  refine ⟨fun i _ hi q => ?_, fun _ q => ⟨xs, ys, q.1, q.2, by omega⟩, fun i H v H' _ q y => ?_⟩
  · have h1 : i < xs.length := by omega
    have h2 : i < ys.length := by omega
    exact ⟨xs, ys, xs[i], ys[i], q.1, q.2, by simp [h1], by simp [h2]⟩
  · obtain ⟨T, x, z, h1, h2, h3, h4, h5⟩ := y
    exact ⟨T, x, z, h1, h2, h3, h4 xs q.1, h5 ys q.2⟩
theorem kx_zipT {X : Cx} (K : PySem.W.Frag) {p pos tpos : Pos} {elts : List Expr} {kk : Nat} {e e2 : Expr} {ta : TA} (hg : Gl X "zip") (hm : X.mg "zip" = none) (ha : PA X [e, e2] ta) (hs : starEach [e, e2] X.env = (false, eval e X.env) :: starEach [e2] X.env := by rfl) (hpl : (backTo pos (starEach [e2] X.env)).any (·.1) = false := by rfl) (h : X.K = K := by rfl) :
    PI X (.Tuple elts kk tpos) (.Call (.Name "zip" p) [e, e2] [] pos) (RZ.iZipA K ta) := h ▸ RZ.pi_zipA hg hm ha hs hpl
section
variable {K : PySem.W.Frag}
abbrev wItZipT (a : WA) : WA := fun Γ Q => a Γ fun ds => match ds with
  | [.t xs, .t ys] => Q (zipD xs ys)
  | _ => False
theorem i_zipT {ta : TA} {wa : WA} (h : AOk K ta wa) : IOk K (RZ.iZipA K ta) (wItZipT wa) := fun Γ Q hq F0 H0 F H σ r QI w =>
  h Γ _ hq F0 H0 F H σ r _ fun vs ds F1 H1 z e1 ra => by
    cases ra with
    | nil => exact z.elim
    | cons a ra =>
      cases ra with
      | nil => cases a <;> exact z.elim
      | cons b ra =>
        cases ra with
        | cons _ _ => cases a <;> cases b <;> exact z.elim
        | nil =>
          cases a with
          | @t p vs xs hp ra =>
            cases b with
            | @t p' vs' xs' hp' ra' =>
              refine ⟨p, p', vs, vs', rfl, .inr ⟨ex_t e1.fh hp, ex_t e1.fh hp', w _ _ F1 H1 z e1 ⟨fun H => SqT K H p vs ∧ SqT K H p' vs', YPair (fun i => vs[i]?) (fun i => vs'[i]?), ?_, fun F2 H2 a b => ⟨ex_t b (ex_t a hp), ex_t b (ex_t a hp')⟩, fun k F2 H2 v H3 lt a b y => ?_⟩⟩⟩
              · rw [zipD_len, ← ra.len, ← ra'.len]
                exact walk_zipT (xs := vs) (ys := vs') rfl
              · obtain ⟨T, x, y, rfl, hT, rfl, q1, q2⟩ := y
                obtain ⟨d, q3, q4⟩ := ra.walk a q1
                obtain ⟨d', q5, q6⟩ := ra'.walk a q2
                obtain ⟨F3, x3, r3⟩ := pair_ok b hT q4 q6
                exact ⟨F3, _, zipD_get q3 q5, x3, r3⟩
            | _ => exact z.elim
          | _ => cases b <;> exact z.elim
end
end DO
namespace DO
open PySem PySem.Spec PyProof.Rows L2 Evl Lay ErrX DL HT
end DO
namespace DO
open PySem PySem.Spec PyProof.Rows L2 Evl Lay ErrX DL
section
variable {K : PySem.W.Frag}
abbrev wCallO (k : Nat) (S : List D → (D → Prop) → Prop) (wa : WE) : WE := fun Γ Q => match nth Γ k with
  | .w (.l xs) => wa Γ fun a => S [a, .l xs] fun d => ∃ q : Pr, d = pt q ∧ Q d
  | _ => False
theorem e_callO {k : Nat} {S : List D → (D → Prop) → Prop} {ta : TE} {wa : WE} (ha : EOk K ta wa) : EOk K (tCallD (spD K S) (tCons ta (tCons (tVar k) tNil))) (wCallO k S wa) := fun Γ Q hq F0 H0 F H σ r QV w => by
  have hq : (match (generalizing := false) nth Γ k with | .w (.l xs) => wa Γ fun a => S [a, .l xs] fun d => ∃ q : Pr, d = pt q ∧ Q d | _ => False) := hq
  split at hq
  · rename_i xs q
    refine ha Γ _ hq F0 H0 F H σ r _ fun v a F1 H1 z e1 ra => ?_
    obtain ⟨p, vs, s1, fp, h0, hp, rl⟩ := (r.ext e1).ol k xs q
    have ex1 : Ex F1 (upd F1 p (.lst vs)) := Ex.new fp
    have exF : Ex (upd F1 p (.lst vs)) H1 := fun b o h => by
      by_cases e : b = p
      · subst e
        rw [upd_same] at h
        cases h
        exact hp
      · rw [upd_ne e] at h
        exact e1.fh _ _ h
    refine ⟨.ref p, s1, upd F1 p (.lst vs), [a, .l xs], _, exF, .cons (ra.mono ex1) (.cons (.l upd_same (rl.mono ex1)) .nil), z, fun w' d F3 H3 h3 e3 r3 => ?_⟩
    obtain ⟨⟨x, y⟩, rfl, hQ⟩ := h3
    have f3p : F3 p = some (.lst vs) := e3.ff _ _ upd_same
    have f4 : ∀ b, b ≠ p → (fun b => if b = p then none else F3 b) b = F3 b := fun b e => if_neg e
    have ext : Ext F1 H1 (fun b => if b = p then none else F3 b) H3 := by
      refine ⟨fun b o h => ?_, e3.hh, fun b o h => ?_, e3.tb, fun b o h n => ?_⟩
      · have ne : b ≠ p := fun e => by
          subst e
          rw [fp] at h
          cases h
        show (if b = p then none else F3 b) = some o
        rw [if_neg ne]
        exact e3.ff _ _ (by rw [upd_ne ne]; exact h)
      · by_cases e : b = p
        · have h : (if b = p then none else F3 b) = some o := h
          rw [if_pos e] at h
          cases h
        · have h : (if b = p then none else F3 b) = some o := h
          rw [if_neg e] at h
          exact e3.fh _ _ h
      · by_cases e : b = p
        · have h : (if b = p then none else F3 b) = some o := h
          rw [if_pos e] at h
          cases h
        · have h : (if b = p then none else F3 b) = some o := h
          rw [if_neg e] at h
          exact e3.nw b o h (by rw [upd_ne e]; exact n)
    refine w _ _ _ H3 hQ (e1.trans ext) ?_
    have r3 : R K F3 w' (.t [.i x, .i y]) := r3
    show R K _ w' (.t [.i x, .i y])
    cases r3 with
    | @t p' vs' _ hs ra' =>
      refine .t (vs := vs') ?_ ?_
      · rcases hs with hs | hs
        · refine .inl ?_
          rcases hs with hs | ⟨o, hs⟩
          · have ne : p' ≠ p := fun e => by
              subst e
              rw [f3p] at hs
              cases hs
            exact .inl (by show (if p' = p then none else F3 p') = _; rw [if_neg ne]; exact hs)
          · have ne : p' ≠ p := fun e => by
              subst e
              rw [f3p] at hs
              cases hs
            exact .inr ⟨o, by show (if p' = p then none else F3 p') = _; rw [if_neg ne]; exact hs⟩
        · exact .inr hs
      · cases ra' with
        | cons a1 r1 =>
          cases a1
          cases r1 with
          | cons a2 r2 =>
            cases a2
            cases r2
            exact .cons (.i _) (.cons (.i _) .nil)
  · exact hq.elim
end
end DO
namespace DO
open PySem PySem.Spec PyProof.Rows L2 Evl Lay ErrX DL
end DO
namespace DO
open PySem PySem.Spec PyProof.Rows L2 Evl Lay ErrX DL
end DO
namespace DO
open PySem PySem.Spec PyProof.Rows L2 Evl Lay ErrX DL
end DO
namespace DO
open PySem PySem.Spec PyProof.Rows L2 Evl Lay ErrX DL
end DO
namespace DO
open PySem PySem.Spec PyProof.Rows L2 Evl Lay ErrX DL
theorem dok_or {P : Program} {w : World} {K : PySem.W.Frag} {mg : Str → Option Value} {base : Heap} {x : Str} {st : Stmt} {k : Nat} {ps : List Str} {S S' : List D → (D → Prop) → Prop} (h : DOk P w K mg base x st k ps S) (h' : DOk P w K mg base x st k ps S') : DOk P w K mg base x st k ps (fun ds Q => S ds Q ∨ S' ds Q) := by
  obtain ⟨f, fd, F, hm, hf, hb⟩ := h.ex
  obtain ⟨f', fd', F', hm', hf', hb'⟩ := h'.ex
  have e : f = f' := by
    rw [hm] at hm'
    cases hm'
    rfl
  subst e
  have e2 : fd = fd' := by
    obtain ⟨_, _, _, _, _, _, _, _, _, e1, l1, _⟩ := hf.ex
    obtain ⟨_, _, _, _, _, _, _, _, _, e2, l2, _⟩ := hf'.ex
    rw [l1] at l2
    injection l2 with l2
    injection l2 with _ _ l2 _
    injection l2
  subst e2
  have two : ∀ vs H Q E, spD K (fun ds Q => S ds Q ∨ S' ds Q) vs H Q E → spD K S vs H Q E ∨ spD K S' vs H Q E := fun vs H Q E ⟨F0, ds, Pd, a, b, s, c⟩ => by
    rcases s with s | s
    · exact .inl ⟨F0, ds, Pd, a, b, s, c⟩
    · exact .inr ⟨F0, ds, Pd, a, b, s, c⟩
  refine ⟨f, fd, ⟨fun vs H Q E z => ?_, fun A outer s H args us vs Q E hr hg e0 hbd rv z => ?_⟩, hm, hf, hb⟩
  · rcases two vs H Q E z with z | z
    · exact F.len vs H Q E z
    · exact F'.len vs H Q E z
  · rcases two vs H Q E z with z | z
    · exact F.run A outer s H args us vs Q E hr hg e0 hbd rv z
    · exact F'.run A outer s H args us vs Q E hr hg e0 hbd rv z
end DO
namespace DO
open PySem PySem.Spec PyProof.Rows L2 Evl Lay ErrX DL
section
variable {P : Program} {w : World} {s : Shared} {A : Around} {E : Value → Shared → Prop}
theorem sorted_tupQ {a : Addr} {o : Obj} {items : Array Value} {n : Nat} {k : Value → Pr} {Q : Value → Shared → Prop} (ho : s.heap.get? a = some o) (hc : o.cls = .type "tuple") (hd : o.data = .seq items n) (hz : items.size ≤ sizeLine)
    (hp : ∀ v ∈ items.toList, Srt.IsPair s.heap v (k v).1 (k v).2)
    (hQ : ∀ (h1 h' : Heap) (out : List Value) (c : Nat), (∀ b o, s.heap.get? b = some o → h1.get? b = some o) → (∀ b o, h1.get? b = some o → h'.get? b = some o) →
      h'.get? h1.objs.size = some (seqObj "list" out.toArray c) → out.Perm items.toList → SrtO.Srtd (fun v u => SrtO.lexB (k v) (k u)) out → Q (.ref h1.objs.size) { s with heap := h' }) :
    wpAny (model P w) A (call (.builtin "sorted") [.ref a]) Q E s := by
  refine Calls.call_function_entry kind_sorted plain_sorted entry_sorted (args_sorted1 _) ?_
  unfold Builtin.«sorted»
  refine wpAny_bind (m := checkCount "sorted" 1 1 _) (wpAny_pure ?_)
  refine wpAny_bind (wpAny_collect_seq a (.inr rfl) ho hc hd (fun h1 k1 => ?_) hz)
  have hz2 : items.toList.length ≤ sizeLine := by rw [Array.length_toList]; exact hz
  refine wpAny_bind (wpAny_newList ?_ hz2)
  have hoL : (h1.push (seqObj "list" items.toList.toArray 0)).get? h1.objs.size = some (seqObj "list" items.toList.toArray 0) := Heap.get?_push_size _ rfl
  show wpAny _ _ _ _ _ { s with heap := h1.push (seqObj "list" items.toList.toArray 0) }
  generalize hG : h1.push (seqObj "list" items.toList.toArray 0) = G at hoL ⊢
  have kG1 : ∀ b u, h1.get? b = some u → G.get? b = some u := fun b u e => by
    rw [← hG]
    exact Heap.get?_push_of_some _ e
  have kG : ∀ b u, s.heap.get? b = some u → G.get? b = some u := fun b u e => kG1 b u (k1 b u e)
  have hp2 : ∀ v ∈ items.toList, Srt.IsPair G v (k v).1 (k v).2 := fun v hv => (hp v hv).keeps fun b o e _ => kG b o e
  refine wpAny_bind (wpAny_holding (wpAny_call_entry slot_list_sort ⟨_, hoL, rfl⟩ entry_list_sort (SrtO.list_sort_ord (s := { s with heap := G }) (SrtO.swo_lex k) hoL hz2 (fun h2 => SrtO.pairs_sortableO (by omega) hp2 fun o e => by
    have e : G.get? h1.objs.size = some o := e
    rw [hoL] at e
    injection e with e
    rw [← e]
    exact fun c => absurd (Value.type.inj c) (by decide)) fun out a1 a2 => ⟨_, rfl, ?_⟩) (args_list_sort _)))
  obtain ⟨c, hc⟩ := sortedHeap_at (vs := items.toList) (out := out.toArray) hoL
  refine wpAny_pure ⟨_, rfl, hQ h1 _ out c k1 (fun b u e => ?_) hc a2.perm a1⟩
  have hlt := Heap.lt_size e
  have hz3 : G.objs.size = h1.objs.size + 1 := by rw [← hG, size_push']
  show (sortedHeap G h1.objs.size items.toList out.toArray).get? b = some u
  rw [sortedHeap_old (Nat.ne_of_lt hlt) (by rw [hz3]; exact Nat.lt_succ_of_lt hlt)]
  exact kG1 b u e
end
def rSortQT (K : PySem.W.Frag) : List V → Hp → VK → Prop := fun vs H Q => ∃ (a : Addr) (Z : List (V × Pr)), vs = [.ref a] ∧ SqT K H a (Z.map (·.1)) ∧ (∀ z ∈ Z, ∃ t, z.1 = .ref t ∧ SqT K H t [.int z.2.1, .int z.2.2]) ∧
  ∀ (Z' : List (V × Pr)) (p : Addr), Z'.Perm Z → (Z'.map (·.2)).Pairwise lexle → H p = none → Q (.ref p) (upd H p (.lst (Z'.map (·.1))))
open Classical in
theorem kx_sortQT (K : PySem.W.Frag) {X : Cx} (hK : X.K = K := by rfl) : CallR X (.builtin "sorted") (rSortQT K) := by
  subst hK
  intro pins s σ H vs us Q I r h
  obtain ⟨a, Z, rfl, hs, hz, q⟩ := h
  obtain ⟨its, rv, ⟨o, ho, hc, n, hd⟩, hsz⟩ := I.tuple hs
  rw [Vals.ref1 r]
  have refs : ∀ x ∈ Z.map (·.1), ∃ a, x = V.ref a := fun x hx => by
    obtain ⟨z, hz', rfl⟩ := List.mem_map.mp hx
    obtain ⟨t, e, _⟩ := hz z hz'
    exact ⟨t, e⟩
  obtain ⟨e1, e2⟩ := refs_back rv refs
  have kdef : ∃ kv : Value → Pr, ∀ z ∈ Z, ∀ t, z.1 = .ref t → kv (.ref t) = z.2 := by
    refine ⟨fun u => match u with | .ref t => (if h : ∃ p : Pr, SqT X.K H t [.int p.1, .int p.2] then Classical.choose h else (0, 0)) | _ => (0, 0), fun z hz' t et => ?_⟩
    obtain ⟨t', e, st⟩ := hz z hz'
    rw [et] at e
    cases e
    have ex : ∃ p : Pr, SqT X.K H t [.int p.1, .int p.2] := ⟨z.2, st⟩
    show (if h : ∃ p : Pr, SqT X.K H t [.int p.1, .int p.2] then Classical.choose h else (0, 0)) = z.2
    rw [dif_pos ex]
    have e3 := I.tuple_inj (Classical.choose_spec ex) st
    injection e3 with e4 e5
    injection e4 with e4
    injection e5 with e5 _
    injection e5 with e5
    exact Prod.ext e4 e5
  obtain ⟨kv, hk⟩ := kdef
  refine sorted_tupQ (k := kv) ho hc hd (by rw [List.size_toArray, ← rv.length]; exact hsz) (fun v hv => ?_) fun g' h' out c kp kp2 hn h2 h1 => ?_
  · obtain ⟨t, rfl⟩ := e2 v hv
    have hm : V.ref t ∈ Z.map (·.1) := by rw [e1]; exact List.mem_map.mpr ⟨_, hv, rfl⟩
    obtain ⟨z, hz', ez⟩ := List.mem_map.mp hm
    obtain ⟨t', e, st⟩ := hz z hz'
    have ez : z.1 = V.ref t := ez
    rw [ez] at e
    cases e
    obtain ⟨its2, r2, ⟨o, ho, hc, n, hd⟩, _⟩ := I.tuple st
    obtain ⟨u1, u2, rfl, ri, rj⟩ := vals2 r2
    obtain ⟨t1, rfl⟩ := ri
    obtain ⟨t2, rfl⟩ := rj
    rw [hk z hz' t ez]
    exact ⟨t, o, t1, t2, n, rfl, ho, hc, hd⟩
  · have h3 : ∀ u ∈ out, ∃ a, u = Value.ref a := fun u hu => e2 u (h2.mem_iff.mp hu)
    have pm : (out.map backV).Perm (Z.map (·.1)) := by
      rw [e1]
      exact h2.map backV
    obtain ⟨Z', q1, q2⟩ := perm_lift _ pm
    have sn := snds (kv := kv) q2 h3 fun z hz' => hk z (q1.mem_iff.mp hz')
    have pw : (Z'.map (·.2)).Pairwise lexle := by
      rw [sn, List.pairwise_map]
      refine h1.imp fun {x y} z => ?_
      have := SrtO.lexB_no.mp z
      unfold lexle
      omega
    have I1 : L2.Inv X pins σ H { s with heap := g' } := I.kept (t' := s.toks) kp
    refine ⟨.ref g'.objs.size, upd H g'.objs.size (.lst (Z'.map (·.1))), I1.laid (t' := s.toks) kp2 (Nat.le_refl _) ⟨?_, out, c, by rw [q2]; exact vals_back h3, hn⟩, rfl, q Z' g'.objs.size q1 pw (I1.hok.fresh (Nat.le_refl _))⟩
    rw [List.length_map, q1.length_eq]
    rw [List.length_map] at hsz
    exact hsz
section
variable {K : PySem.W.Frag}
def wSortQT : List D → (D → Prop) → Prop := fun xs Q => ∃ L : List Pr, xs = [.t (L.map pt)] ∧ ∀ L' : List Pr, L'.Perm L → L'.Pairwise lexle → Q (.l (L'.map pt))
theorem c_sortQT : COk K (rSortQT K) wSortQT := fun xs Q ⟨L, e0, hq⟩ F H vs e r QV q => by
  subst e0
  cases r with
  | cons a r =>
    cases r
    cases a with
    | @t a us _ h ra =>
      obtain ⟨Z, z1, z2, z3⟩ := ra_pairs ra
      refine ⟨a, Z, rfl, by rw [z1]; exact ex_t e h, fun z hz => ?_, fun Z' p pm pw np => ?_⟩
      · obtain ⟨t, e1, st⟩ := pt_tupI e (z3 z hz)
        exact ⟨t, e1, st⟩
      · have z3' : ∀ z ∈ Z', R K F z.1 (pt z.2) := fun z hz => z3 z (pm.mem_iff.mp hz)
        have pm2 : (Z'.map (·.2)).Perm L := z2 ▸ pm.map (·.2)
        exact q _ _ (upd F p (.lst (Z'.map (·.1)))) _ (hq (Z'.map (·.2)) pm2 pw) (Ext.new e np) (.l upd_same ((ra_of z3').mono (Ex.new (fresh_back e np))))
end
end DO
namespace SrtD
open PySem PySem.Spec PyProof.Rows L2 Evl Lay ErrX DL SeqAt SrtO
/-- forms of data that can be compared -/
inductive Sh
  | i
  | t (s : Sh)
  | l (s : Sh)
def Sh.dep : Sh → Nat
  | .i => 0
  | .t s => s.dep + 1
  | .l s => s.dep + 1
def hasSh : Sh → D → Prop
  | .i, d => ∃ n, d = .i n
  | .t s, d => ∃ xs, d = .t xs ∧ ∀ x ∈ xs, hasSh s x
  | .l s, d => ∃ xs, d = .l xs ∧ ∀ x ∈ xs, hasSh s x
open Classical in
noncomputable def lexF (lt : D → D → Bool) (fin : Bool) : List D → List D → Bool
  | [], _ => fin
  | _ :: _, [] => fin
  | x :: xs, y :: ys => if x = y then lexF lt fin xs ys else lt x y
noncomputable def lexL (lt : D → D → Bool) (xs ys : List D) : Bool := lexF lt (decide (xs.length < ys.length)) xs ys
theorem lexL_cons {lt : D → D → Bool} {x y : D} {xs ys : List D} : lexL lt (x :: xs) (y :: ys) = (open Classical in if x = y then lexL lt xs ys else lt x y) := by
  unfold lexL
  rw [show decide ((x :: xs).length < (y :: ys).length) = decide (xs.length < ys.length) by simp]
  rw [lexF]
structure Tot (P : D → Prop) (lt : D → D → Bool) : Prop where
  irr : ∀ x, P x → lt x x = false
  tr : ∀ x y z, P x → P y → P z → lt x y = true → lt y z = true → lt x z = true
  tri : ∀ x y, P x → P y → lt x y = true ∨ x = y ∨ lt y x = true
theorem lex_irr {P : D → Prop} {lt : D → D → Bool} : ∀ xs : List D, lexL lt xs xs = false
  | [] => by simp [lexL, lexF]
  | x :: xs => by rw [lexL_cons, if_pos rfl]; exact lex_irr (P := P) xs
theorem lex_tri {P : D → Prop} {lt : D → D → Bool} (T : Tot P lt) : ∀ xs ys : List D, (∀ x ∈ xs, P x) → (∀ y ∈ ys, P y) → lexL lt xs ys = true ∨ xs = ys ∨ lexL lt ys xs = true
  | [], [], _, _ => .inr (.inl rfl)
  | [], y :: ys, _, _ => .inl (by simp [lexL, lexF])
  | x :: xs, [], _, _ => .inr (.inr (by simp [lexL, lexF]))
  | x :: xs, y :: ys, hx, hy => by
    rw [lexL_cons, lexL_cons]
    by_cases e : x = y
    · subst e
      rw [if_pos rfl, if_pos rfl]
      rcases lex_tri T xs ys (fun a h => hx a (List.mem_cons_of_mem _ h)) (fun a h => hy a (List.mem_cons_of_mem _ h)) with h | h | h
      · exact .inl h
      · exact .inr (.inl (by rw [h]))
      · exact .inr (.inr h)
    · rw [if_neg e, if_neg (Ne.symm e)]
      rcases T.tri x y (hx x (List.mem_cons_self ..)) (hy y (List.mem_cons_self ..)) with h | h | h
      · exact .inl h
      · exact absurd h e
      · exact .inr (.inr h)
theorem lex_tr {P : D → Prop} {lt : D → D → Bool} (T : Tot P lt) : ∀ xs ys zs : List D, (∀ x ∈ xs, P x) → (∀ y ∈ ys, P y) → (∀ z ∈ zs, P z) → lexL lt xs ys = true → lexL lt ys zs = true → lexL lt xs zs = true
  | [], [], [], _, _, _, h1, _ => h1
  | [], _ :: _, [], _, _, _, _, h2 => by simp [lexL, lexF] at h2
  | [], _, z :: zs, _, _, _, _, _ => by simp [lexL, lexF]
  | x :: xs, [], _, _, _, _, h1, _ => by simp [lexL, lexF] at h1
  | x :: xs, y :: ys, [], _, _, _, _, h2 => by simp [lexL, lexF] at h2
  | x :: xs, y :: ys, z :: zs, hx, hy, hz, h1, h2 => by
    rw [lexL_cons] at h1 h2 ⊢
    have px := hx x (List.mem_cons_self ..)
    have py := hy y (List.mem_cons_self ..)
    have pz := hz z (List.mem_cons_self ..)
    by_cases e1 : x = y
    · subst e1
      rw [if_pos rfl] at h1
      by_cases e2 : x = z
      · subst e2
        rw [if_pos rfl] at h2 ⊢
        exact lex_tr T xs ys zs (fun a h => hx a (List.mem_cons_of_mem _ h)) (fun a h => hy a (List.mem_cons_of_mem _ h)) (fun a h => hz a (List.mem_cons_of_mem _ h)) h1 h2
      · rw [if_neg e2] at h2 ⊢
        exact h2
    · rw [if_neg e1] at h1
      by_cases e2 : y = z
      · subst e2
        rw [if_neg e1]
        exact h1
      · rw [if_neg e2] at h2
        have h3 := T.tr x y z px py pz h1 h2
        have ne : x ≠ z := fun e => by
          subst e
          rw [T.irr x px] at h3
          cases h3
        rw [if_neg ne]
        exact h3
noncomputable def ltS : Sh → D → D → Bool
  | .i => fun x y => match x, y with
    | .i a, .i b => decide (a < b)
    | _, _ => false
  | .t s => fun x y => match x, y with
    | .t xs, .t ys => lexL (ltS s) xs ys
    | _, _ => false
  | .l s => fun x y => match x, y with
    | .l xs, .l ys => lexL (ltS s) xs ys
    | _, _ => false
theorem tot : ∀ s : Sh, Tot (hasSh s) (ltS s)
  | .i => by
    refine ⟨fun x h => ?_, fun x y z h1 h2 h3 => ?_, fun x y h1 h2 => ?_⟩
    · obtain ⟨n, rfl⟩ := h
      exact decide_eq_false (Int.lt_irrefl n)
    · obtain ⟨a, rfl⟩ := h1
      obtain ⟨b, rfl⟩ := h2
      obtain ⟨c, rfl⟩ := h3
      exact fun p q => decide_eq_true (Int.lt_trans (of_decide_eq_true p) (of_decide_eq_true q))
    · obtain ⟨a, rfl⟩ := h1
      obtain ⟨b, rfl⟩ := h2
      rcases Int.lt_trichotomy a b with c | c | c
      · exact .inl (decide_eq_true c)
      · exact .inr (.inl (by rw [c]))
      · exact .inr (.inr (decide_eq_true c))
  | .t s => by
    have T := tot s
    refine ⟨fun x h => ?_, fun x y z h1 h2 h3 => ?_, fun x y h1 h2 => ?_⟩
    · obtain ⟨xs, rfl, h⟩ := h
      exact lex_irr (P := hasSh s) xs
    · obtain ⟨a, rfl, ha⟩ := h1
      obtain ⟨b, rfl, hb⟩ := h2
      obtain ⟨c, rfl, hc⟩ := h3
      exact lex_tr T a b c ha hb hc
    · obtain ⟨a, rfl, ha⟩ := h1
      obtain ⟨b, rfl, hb⟩ := h2
      rcases lex_tri T a b ha hb with c | c | c
      · exact .inl c
      · exact .inr (.inl (by rw [c]))
      · exact .inr (.inr c)
  | .l s => by
    have T := tot s
    refine ⟨fun x h => ?_, fun x y z h1 h2 h3 => ?_, fun x y h1 h2 => ?_⟩
    · obtain ⟨xs, rfl, h⟩ := h
      exact lex_irr (P := hasSh s) xs
    · obtain ⟨a, rfl, ha⟩ := h1
      obtain ⟨b, rfl, hb⟩ := h2
      obtain ⟨c, rfl, hc⟩ := h3
      exact lex_tr T a b c ha hb hc
    · obtain ⟨a, rfl, ha⟩ := h1
      obtain ⟨b, rfl, hb⟩ := h2
      rcases lex_tri T a b ha hb with c | c | c
      · exact .inl c
      · exact .inr (.inl (by rw [c]))
      · exact .inr (.inr c)
theorem Tot.anti {P : D → Prop} {lt : D → D → Bool} (T : Tot P lt) {x y : D} (px : P x) (py : P y) (h1 : lt x y = false) (h2 : lt y x = false) : x = y := by
  rcases T.tri x y px py with c | c | c
  · rw [h1] at c
    cases c
  · exact c
  · rw [h2] at c
    cases c
theorem Tot.swo {P : D → Prop} {lt : D → D → Bool} (T : Tot P lt) {α : Type} (k : α → D) (hk : ∀ v, P (k v)) : Swo fun v u => lt (k v) (k u) := by
  refine ⟨fun x y h => ?_, fun x y z h1 h2 => ?_⟩
  · cases q : lt (k y) (k x) with
    | false => rfl
    | true =>
      have := T.tr _ _ _ (hk x) (hk y) (hk x) h q
      rw [T.irr _ (hk x)] at this
      cases this
  · cases q : lt (k z) (k x) with
    | false => rfl
    | true =>
      rcases T.tri (k y) (k x) (hk y) (hk x) with c | c | c
      · have c : lt (k y) (k x) = true := c
        have h1 : lt (k y) (k x) = false := h1
        rw [h1] at c
        cases c
      · have h2 : lt (k z) (k y) = false := h2
        rw [c, q] at h2
        cases h2
      · have h2 : lt (k z) (k y) = false := h2
        rw [T.tr _ _ _ (hk z) (hk x) (hk y) q c] at h2
        cases h2
def isS : Sh → Heap → Value → D → Prop
  | .i, _, v, d => ∃ n t, v = .int n t ∧ d = .i n
  | .t s, h, v, d => ∃ a items xs, v = .ref a ∧ h.IsTuple a items ∧ d = .t xs ∧ items.size = xs.length ∧ ∀ j (h1 : j < items.size) (h2 : j < xs.length), isS s h items[j] xs[j]
  | .l s, h, v, d => ∃ a items xs, v = .ref a ∧ h.IsList a items ∧ d = .l xs ∧ items.size = xs.length ∧ ∀ j (h1 : j < items.size) (h2 : j < xs.length), isS s h items[j] xs[j]
theorem isS_sh : ∀ {s : Sh} {h : Heap} {v : Value} {d : D}, isS s h v d → hasSh s d
  | .i, _, _, _, ⟨n, _, _, e⟩ => ⟨n, e⟩
  | .t s, h, v, d, ⟨a, items, xs, _, _, e, l, H⟩ => ⟨xs, e, fun x hx => by
    obtain ⟨j, hj, rfl⟩ := List.getElem_of_mem hx
    exact isS_sh (H j (by omega) hj)⟩
  | .l s, h, v, d, ⟨a, items, xs, _, _, e, l, H⟩ => ⟨xs, e, fun x hx => by
    obtain ⟨j, hj, rfl⟩ := List.getElem_of_mem hx
    exact isS_sh (H j (by omega) hj)⟩
theorem isS_keep : ∀ {s : Sh} {h h' : Heap} {v : Value} {d : D}, isS s h v d → (∀ b o, h.get? b = some o → h'.get? b = some o) → isS s h' v d
  | .i, _, _, _, _, x, _ => x
  | .t s, h, h', v, d, ⟨a, items, xs, e1, ⟨o, ho, hc, n, hd⟩, e2, l, H⟩, k => ⟨a, items, xs, e1, ⟨o, k _ _ ho, hc, n, hd⟩, e2, l, fun j h1 h2 => isS_keep (H j h1 h2) k⟩
  | .l s, h, h', v, d, ⟨a, items, xs, e1, ⟨o, ho, hc, n, hd⟩, e2, l, H⟩, k => ⟨a, items, xs, e1, ⟨o, k _ _ ho, hc, n, hd⟩, e2, l, fun j h1 h2 => isS_keep (H j h1 h2) k⟩
theorem isS_det : ∀ {s : Sh} {h : Heap} {v : Value} {d d' : D}, isS s h v d → isS s h v d' → d = d'
  | .i, _, _, _, _, ⟨n, t, e1, e2⟩, ⟨n', t', e1', e2'⟩ => by
    rw [e1] at e1'
    cases e1'
    rw [e2, e2']
  | .t s, h, v, d, d', ⟨a, items, xs, e1, ⟨o, ho, hc, n, hd⟩, e2, l, H⟩, ⟨a', items', xs', e1', ⟨o', ho', hc', n', hd'⟩, e2', l', H'⟩ => by
    rw [e1] at e1'
    cases e1'
    rw [ho] at ho'
    cases ho'
    rw [hd] at hd'
    cases hd'
    rw [e2, e2']
    congr 1
    refine List.ext_getElem (by omega) fun j h1 h2 => isS_det (H j (by omega) h1) (H' j (by omega) h2)
  | .l s, h, v, d, d', ⟨a, items, xs, e1, ⟨o, ho, hc, n, hd⟩, e2, l, H⟩, ⟨a', items', xs', e1', ⟨o', ho', hc', n', hd'⟩, e2', l', H'⟩ => by
    rw [e1] at e1'
    cases e1'
    rw [ho] at ho'
    cases ho'
    rw [hd] at hd'
    cases hd'
    rw [e2, e2']
    congr 1
    refine List.ext_getElem (by omega) fun j h1 h2 => isS_det (H j (by omega) h1) (H' j (by omega) h2)
open Classical in
theorem eqs (xs ys : List D) : ((List.range (min xs.length ys.length)).all (fun j => decide (xs[j]? = ys[j]?)) && xs.length == ys.length) = decide (xs = ys) := by
  rw [Bool.eq_iff_iff, Bool.and_eq_true, List.all_eq_true, decide_eq_true_iff, beq_iff_eq]
  constructor
  · rintro ⟨h, l⟩
    refine List.ext_getElem? fun j => ?_
    by_cases c : j < xs.length
    · exact of_decide_eq_true (h j (List.mem_range.mpr (by omega)))
    · rw [List.getElem?_eq_none (by omega), List.getElem?_eq_none (by omega)]
  · rintro rfl
    exact ⟨fun j _ => decide_eq_true rfl, rfl⟩
theorem firstLt_map {e r : Nat → Bool} {fin : Bool} (f : Nat → Nat) : ∀ l : List Nat, firstLt e r fin (l.map f) = firstLt (fun j => e (f j)) (fun j => r (f j)) fin l
  | [] => rfl
  | j :: l => by
    show (if e (f j) = true then firstLt e r fin (l.map f) else r (f j)) = if e (f j) = true then firstLt (fun j => e (f j)) (fun j => r (f j)) fin l else r (f j)
    rw [firstLt_map f l]
noncomputable def ltO (lt : D → D → Bool) : Option D → Option D → Bool
  | some x, some y => lt x y
  | _, _ => false
open Classical in
theorem lts (lt : D → D → Bool) (fin : Bool) : ∀ xs ys : List D, firstLt (fun j => decide (xs[j]? = ys[j]?)) (fun j => ltO lt xs[j]? ys[j]?) fin (List.range (min xs.length ys.length)) = lexF lt fin xs ys
  | [], ys => by simp [lexF, firstLt]
  | x :: xs, [] => by simp [lexF, firstLt]
  | x :: xs, y :: ys => by
    rw [show min (x :: xs).length (y :: ys).length = min xs.length ys.length + 1 by simp only [List.length_cons]; omega, List.range_succ_eq_map]
    show (if decide ((x :: xs)[0]? = (y :: ys)[0]?) = true then _ else _) = _
    rw [firstLt_map]
    have ih := lts lt fin xs ys
    simp only [List.getElem?_cons_succ, List.getElem?_cons_zero, Option.some.injEq, decide_eq_true_eq] at ih ⊢
    rw [ih, lexF]
    rfl
section
variable {prog : Program} {w : World}
open Classical in
theorem eq_law : ∀ (s : Sh) {A : Around} {sa : Shared} {v u : Value} {x y : D}, A.units + s.dep < cLine → isS s sa.heap v x → isS s sa.heap u y → EqAt A sa v u (decide (x = y))
  | .i, A, sa, v, u, x, y, _, ⟨n, t, e1, e2⟩, ⟨m, t', e3, e4⟩ => by
    subst e1 e2 e3 e4
    have z : decide (D.i n = D.i m) = (n == m) := by
      rw [Bool.eq_iff_iff, decide_eq_true_iff, beq_iff_eq]
      exact ⟨fun e => by injection e, fun e => by rw [e]⟩
    rw [z]
    exact EqAt.int_int n t m t'
  | .t s, A, sa, v, u, x, y, hu, hx, hy => by
    obtain ⟨a, ia, xs, rfl, ha, rfl, la, Ha⟩ := id hx
    obtain ⟨b, ib, ys, rfl, hb, rfl, lb, Hb⟩ := id hy
    by_cases e : a = b
    · subst e
      rw [decide_eq_true (isS_det hx hy)]
      exact EqAt.same _
    · have z : decide (D.t xs = D.t ys) = decide (xs = ys) := by
        rw [decide_eq_decide]
        exact ⟨fun e => by injection e, fun e => by rw [e]⟩
      rw [z, ← eqs, ← la, ← lb]
      have hu : A.units + (s.dep + 1) < cLine := hu
      refine EqAt.of_refs e (RcAt.tuples ha hb (by omega) fun j h1 h2 => ?_)
      have := eq_law s (A := A.in1) (by show A.units + 1 + s.dep < cLine; omega) (Ha j h1 (by omega)) (Hb j h2 (by omega))
      rw [List.getElem?_eq_getElem (show j < xs.length by omega), List.getElem?_eq_getElem (show j < ys.length by omega)]
      simpa using this
  | .l s, A, sa, v, u, x, y, hu, hx, hy => by
    obtain ⟨a, ia, xs, rfl, ha, rfl, la, Ha⟩ := id hx
    obtain ⟨b, ib, ys, rfl, hb, rfl, lb, Hb⟩ := id hy
    have hu : A.units + (s.dep + 1) < cLine := hu
    by_cases e : a = b
    · subst e
      rw [decide_eq_true (isS_det hx hy)]
      exact EqAt.same _
    · have z : decide (D.l xs = D.l ys) = decide (xs = ys) := by
        rw [decide_eq_decide]
        exact ⟨fun e => by injection e, fun e => by rw [e]⟩
      rw [z]
      by_cases c : ia.size = ib.size
      · have q := eqs xs ys
        rw [show min xs.length ys.length = ia.size by omega, show (xs.length == ys.length) = true by rw [beq_iff_eq]; omega, Bool.and_true] at q
        rw [← q]
        refine EqAt.of_refs e (RcAt.lists ha hb c (by omega) fun j h1 h2 => ?_)
        have := eq_law s (A := A.in1) (by show A.units + 1 + s.dep < cLine; omega) (Ha j h1 (by omega)) (Hb j h2 (by omega))
        rw [List.getElem?_eq_getElem (show j < xs.length by omega), List.getElem?_eq_getElem (show j < ys.length by omega)]
        simpa using this
      · rw [decide_eq_false fun e => c (by rw [la, lb, e])]
        exact EqAt.of_refs e (RcAt.lists_lengths ha hb (by simpa using c) (by omega))
theorem at_dec {A : Around} {sa : Shared} {v u : Value} {x y : D} {i1 : Decidable (x = y)} {i2 : Decidable (some x = some y)} (h : EqAt A sa v u (@decide (x = y) i1)) : EqAt A sa v u (@decide (some x = some y) i2) := by
  rw [show @decide (some x = some y) i2 = @decide (x = y) i1 by rw [decide_eq_decide]; exact ⟨fun e => by injection e, fun e => by rw [e]⟩]
  exact h
theorem lt_law : ∀ (s : Sh) {A : Around} {sa : Shared} {v u : Value} {x y : D}, A.units + s.dep < cLine → isS s sa.heap v x → isS s sa.heap u y → RcLt A sa v u (ltS s x y)
  | .i, A, sa, v, u, x, y, _, ⟨n, t, e1, e2⟩, ⟨m, t', e3, e4⟩ => by
    subst e1 e2 e3 e4
    exact fun prog w E Q h => PyProof.Rows.lt_int h
  | .t s, A, sa, v, u, x, y, hu, hx, hy => by
    obtain ⟨a, ia, xs, rfl, ha, rfl, la, Ha⟩ := id hx
    obtain ⟨b, ib, ys, rfl, hb, rfl, lb, Hb⟩ := id hy
    have hu : A.units + (s.dep + 1) < cLine := hu
    show RcLt A sa _ _ (lexL (ltS s) xs ys)
    unfold lexL
    rw [← lts, ← la, ← lb]
    refine RcLt.tuples ha hb (by omega) (fun j h1 h2 => ?_) (fun j h1 h2 _ => ?_)
    · have := eq_law s (A := A.in1) (by show A.units + 1 + s.dep < cLine; omega) (Ha j h1 (by omega)) (Hb j h2 (by omega))
      rw [List.getElem?_eq_getElem (show j < xs.length by omega), List.getElem?_eq_getElem (show j < ys.length by omega)]
      exact at_dec this
    · have := lt_law s (A := A.in1) (by show A.units + 1 + s.dep < cLine; omega) (Ha j h1 (by omega)) (Hb j h2 (by omega))
      rw [List.getElem?_eq_getElem (show j < xs.length by omega), List.getElem?_eq_getElem (show j < ys.length by omega)]
      exact this
  | .l s, A, sa, v, u, x, y, hu, hx, hy => by
    obtain ⟨a, ia, xs, rfl, ha, rfl, la, Ha⟩ := id hx
    obtain ⟨b, ib, ys, rfl, hb, rfl, lb, Hb⟩ := id hy
    have hu : A.units + (s.dep + 1) < cLine := hu
    show RcLt A sa _ _ (lexL (ltS s) xs ys)
    unfold lexL
    rw [← lts, ← la, ← lb]
    refine RcLt.lists ha hb (by omega) (fun j h1 h2 => ?_) (fun j h1 h2 _ => ?_)
    · have := eq_law s (A := A.in1) (by show A.units + 1 + s.dep < cLine; omega) (Ha j h1 (by omega)) (Hb j h2 (by omega))
      rw [List.getElem?_eq_getElem (show j < xs.length by omega), List.getElem?_eq_getElem (show j < ys.length by omega)]
      exact at_dec this
    · have := lt_law s (A := A.in1) (by show A.units + 1 + s.dep < cLine; omega) (Ha j h1 (by omega)) (Hb j h2 (by omega))
      rw [List.getElem?_eq_getElem (show j < xs.length by omega), List.getElem?_eq_getElem (show j < ys.length by omega)]
      exact this
open Classical in
theorem kat_keys {s : Sh} {A : Around} {sa : Shared} {b : Bool} {fin : Bool} (hu : A.units + s.dep < cLine) (h1 : b = true → s = .i) : ∀ (us vs : List Value) (xs ys : List D) (i : Nat) (Q : Bool → Shared → Prop), us.length = xs.length → vs.length = ys.length →
    (∀ j (h1 : j < us.length) (h2 : j < xs.length), isS s sa.heap us[j] xs[j]) → (∀ j (h1 : j < vs.length) (h2 : j < ys.length), isS s sa.heap vs[j] ys[j]) → Q (lexF (ltS s) fin xs ys) sa → PySem.W.KatLex prog w A b fin Q (us.zip vs) i sa
  | [], vs, [], ys, i, Q, _, _, _, _, q => by
    rw [List.zip_nil_left]
    exact PySem.W.kat_nil (by simpa [lexF] using q)
  | u :: us, [], x :: xs, [], i, Q, _, _, _, _, q => by
    rw [List.zip_nil_right]
    exact PySem.W.kat_nil (by simpa [lexF] using q)
  | u :: us, v :: vs, x :: xs, y :: ys, i, Q, l1, l2, a1, a2, q => by
    have b1 : isS s sa.heap u x := a1 0 (Nat.zero_lt_succ _) (Nat.zero_lt_succ _)
    have b2 : isS s sa.heap v y := a2 0 (Nat.zero_lt_succ _) (Nat.zero_lt_succ _)
    rw [List.zip_cons_cons]
    refine PySem.W.kat_cons (eq_law s hu b1 b2 prog w _ _ ?_)
    rw [lexF] at q
    refine PySem.W.kat_go (fun e => ?_) (fun e => ?_)
    · rw [if_pos (of_decide_eq_true e)] at q
      refine PySem.W.kat_yes (kat_keys hu h1 us vs xs ys (i + 1) Q (by simpa using l1) (by simpa using l2) (fun j h1 h2 => ?_) (fun j h1 h2 => ?_) q)
      · exact a1 (j + 1) (Nat.succ_lt_succ h1) (Nat.succ_lt_succ h2)
      · exact a2 (j + 1) (Nat.succ_lt_succ h1) (Nat.succ_lt_succ h2)
    · rw [if_neg (of_decide_eq_false e)] at q
      refine PySem.W.kat_no ?_
      cases hb : (b && i == 0) with
      | false => exact PySem.W.kat_one _ _ (lt_law s hu b1 b2 prog w _ _ q)
      | true =>
        rw [Bool.and_eq_true] at hb
        have es := h1 hb.1
        subst es
        obtain ⟨n, t, rfl, rfl⟩ := b1
        obtain ⟨m, t', rfl, rfl⟩ := b2
        exact oneLt_int q
/-- what the first ones are -/
def kindOf : Sh → Value
  | .i => .type "int"
  | .t _ => .type "tuple"
  | .l _ => .type "list"
theorem looks_kind {M : Model} {s : Sh} {h : Heap} {v : Value} {d : D} (x : isS s h v d) : PySem.W.Looks M h (typeOf v) (kindOf s) := by
  cases s with
  | i =>
    obtain ⟨n, t, rfl, _⟩ := x
    exact PySem.W.Looks.now
  | t s =>
    obtain ⟨a, ia, xs, rfl, ⟨o, ho, hc, n, hd⟩, _⟩ := x
    have z : PySem.W.Looks M h (typeOf (.ref a)) o.cls := (PySem.W.Looks.ld ho).andThen .now
    rw [hc] at z
    exact z
  | l s =>
    obtain ⟨a, ia, xs, rfl, ⟨o, ho, hc, n, hd⟩, _⟩ := x
    have z : PySem.W.Looks M h (typeOf (.ref a)) o.cls := (PySem.W.Looks.ld ho).andThen .now
    rw [hc] at z
    exact z
theorem firsts {s : Sh} {h : Heap} {k : Value → D} : ∀ vs : List Value, (∀ v ∈ vs, isS (.t s) h v (k v) ∧ k v ≠ .t []) → ∃ fs : List Value, PySem.W.KatTups h vs fs ∧ fs.length = vs.length ∧ ∀ f ∈ fs, ∃ d, isS s h f d
  | [], _ => ⟨[], PySem.W.KatTups.nil, rfl, fun f hf => by cases hf⟩
  | v :: vs, x => by
    obtain ⟨fs, kt, hl, hi⟩ := firsts vs fun u hu => x u (List.mem_cons_of_mem _ hu)
    obtain ⟨⟨a, ia, xs, ev, ⟨o, ho, hc, n, hd⟩, ek, la, Ha⟩, ne⟩ := x v (List.mem_cons_self ..)
    subst ev
    have l0 : 0 < xs.length := List.length_pos_iff.mpr fun e => ne (by rw [ek, e])
    refine ⟨ia[0] :: fs, PySem.W.KatTups.cons ho hc hd (by rw [Array.getElem?_eq_getElem]) kt, by rw [List.length_cons, List.length_cons, hl], fun f hf => ?_⟩
    rcases List.mem_cons.mp hf with rfl | hf
    · exact ⟨_, Ha 0 (by omega) l0⟩
    · exact hi f hf
theorem tups_sortable {s : Sh} (hs : s = .i ∨ ∃ s', s = .t s') {A : Around} {sa : Shared} {a : Addr} {vs : List Value} {k : Value → D} (hu : A.units + s.dep < cLine) (h0 : 0 < vs.length) (hp : ∀ h' : Heap, (∀ b o, b ≠ a → sa.heap.get? b = some o → h'.get? b = some o) → ∀ v ∈ vs, isS (.t s) h' v (k v) ∧ k v ≠ .t []) :
    SortableO prog w A sa a vs fun v u => ltS (.t s) (k v) (k u) := by
  intro h' keep
  have hp' := hp h' keep
  obtain ⟨fs, h1, h2, h3⟩ := firsts vs hp'
  refine ⟨tuples' (kindOf s != .type "tuple"), fun Q E hq => ?_, ?_⟩
  · refine PySem.W.kat_kind (T := kindOf s) h1 (by omega) (fun f hm => ?_) ?_ hq
    · obtain ⟨d, hd⟩ := h3 f hm
      exact looks_kind hd
    · rcases hs with rfl | ⟨s', rfl⟩ <;> rfl
  · intro p q hm hm'
    obtain ⟨x1, _⟩ := hp' _ hm
    obtain ⟨x2, _⟩ := hp' _ hm'
    show wpAny (model prog w) A (keyLt' (tuples' _) p.1 q.1) (fun r s' => s' = _ ∧ r = ltS (.t s) (k p.1) (k q.1)) (fun _ _ => False) _
    obtain ⟨a1, ia, xs, e1, ⟨o1, ho1, hc1, n1, hd1⟩, k1, la, Ha⟩ := x1
    obtain ⟨a2, ib, ys, e2, ⟨o2, ho2, hc2, n2, hd2⟩, k2, lb, Hb⟩ := x2
    rw [k1, k2, e1, e2]
    refine PySem.W.kat_lt ho1 hd1 ho2 hd2 ?_
    refine kat_keys (s := s) hu (fun hb => ?_) ia.toList ib.toList xs ys 0 _ (by simpa using la) (by simpa using lb) (fun j h1 h2 => ?_) (fun j h1 h2 => ?_) ⟨rfl, ?_⟩
    · rcases hs with rfl | ⟨s', rfl⟩
      · rfl
      · exact absurd hb (by simp [kindOf])
    · simpa using Ha j (by simpa using h1) h2
    · simpa using Hb j (by simpa using h1) h2
    · show _ = lexL (ltS s) xs ys
      unfold lexL
      rw [la, lb]
end
section
variable {X : Cx} {pins : List (Addr × Obj)} {σ : L2.St} {H : Hp} {sa : Shared}
theorem is_all {K : PySem.W.Frag} {F : Hp} {s : Sh} {h : Heap} (one : ∀ v u d, hasSh s d → R K F v d → RelV v u → isS s h u d) : ∀ {vs : List V} {us : List Value} {xs : List D}, RA K F vs xs → Vals vs us → (∀ x ∈ xs, hasSh s x) → us.length = xs.length ∧ ∀ j (h1 : j < us.length) (h2 : j < xs.length), isS s h us[j] xs[j]
  | _, _, _, .nil, .nil, _ => ⟨rfl, fun j h1 => absurd h1 (Nat.not_lt_zero j)⟩
  | _, _, _, .cons r ra, .cons rv rvs, hx => by
    obtain ⟨l, a⟩ := is_all one ra rvs fun x hm => hx x (List.mem_cons_of_mem _ hm)
    refine ⟨by rw [List.length_cons, List.length_cons, l], fun j h1 h2 => ?_⟩
    cases j with
    | zero => exact one _ _ _ (hx _ (List.mem_cons_self ..)) r rv
    | succ j => exact a j (Nat.lt_of_succ_lt_succ h1) (Nat.lt_of_succ_lt_succ h2)
theorem is_of (I : Inv X pins σ H sa) {F : Hp} (e : Ex F H) : ∀ (s : Sh) (v : V) (u : Value) (d : D), hasSh s d → R X.K F v d → RelV v u → isS s sa.heap u d
  | .i, v, u, d, ⟨n, hd⟩, r, rv => by
    subst hd
    cases r
    obtain ⟨t, rfl⟩ := rv
    exact ⟨n, t, rfl, rfl⟩
  | .t s, v, u, d, ⟨xs, hd, hx⟩, r, rv => by
    subst hd
    cases r with
    | @t p vs _ st ra =>
      obtain ⟨its, rvs, ⟨o, ho, hc, n, hdt⟩, _⟩ := I.tuple (ex_t e st)
      obtain ⟨l, a⟩ := is_all (fun v u d => is_of I e s v u d) ra rvs hx
      exact ⟨p, its.toArray, xs, rv, ⟨o, ho, hc, n, hdt⟩, rfl, by simpa using l, fun j h1 h2 => by simpa using a j (by simpa using h1) h2⟩
  | .l s, v, u, d, ⟨xs, hd, hx⟩, r, rv => by
    subst hd
    cases r with
    | @l p vs _ h ra =>
      obtain ⟨its, rvs, pl, _⟩ := I.list (sq_of (e _ _ h))
      obtain ⟨l, a⟩ := is_all (fun v u d => is_of I e s v u d) ra rvs hx
      exact ⟨p, its.toArray, xs, rv, pl.isList, rfl, by simpa using l, fun j h1 h2 => by simpa using a j (by simpa using h1) h2⟩
/-- sorted(xs), xs a list of tuples of one form -/
def rSortS (K : PySem.W.Frag) (s : Sh) : List V → Hp → VK → Prop := fun vs H Q => ∃ (a : Addr) (Z : List (V × D)) (F : Hp), vs = [.ref a] ∧ SqL K H a (Z.map (·.1)) ∧ Ex F H ∧ (∀ z ∈ Z, R K F z.1 z.2 ∧ hasSh (.t s) z.2 ∧ z.2 ≠ .t []) ∧
  ∀ (Z' : List (V × D)) (p : Addr), Z'.Perm Z → (Z'.map (·.2)).Pairwise (fun x y => ltS (.t s) y x = false) → H p = none → Q (.ref p) (upd H p (.lst (Z'.map (·.1))))
theorem sndsD {kv : Value → D} : ∀ {Z : List (V × D)} {out : List Value}, Z.map (·.1) = out.map backV → (∀ u ∈ out, ∃ a, u = Value.ref a) → (∀ z ∈ Z, ∀ t, z.1 = .ref t → kv (.ref t) = z.2) → Z.map (·.2) = out.map kv
  | [], [], _, _, _ => rfl
  | [], _ :: _, h, _, _ => by cases h
  | _ :: _, [], h, _, _ => by cases h
  | z :: Z, u :: out, h, h1, h2 => by
    rw [List.map_cons, List.map_cons] at h
    injection h with e1 e2
    obtain ⟨a, rfl⟩ := h1 u (List.mem_cons_self ..)
    rw [List.map_cons, List.map_cons, sndsD e2 (fun v hv => h1 v (List.mem_cons_of_mem _ hv)) fun y hy => h2 y (List.mem_cons_of_mem _ hy), h2 z (List.mem_cons_self ..) a e1]
open Classical in
theorem kx_sortS (K : PySem.W.Frag) {s : Sh} (hs : s = .i ∨ ∃ s', s = .t s') {X : Cx} (hu : X.A.units + 64 < cLine) (hd : s.dep ≤ 8 := by decide) (hK : X.K = K := by rfl) : CallR X (.builtin "sorted") (rSortS K s) := by
  subst hK
  intro pins sa σ H vs us Q I r h
  obtain ⟨a, Z, F, rfl, hl0, ex, hz, q⟩ := h
  obtain ⟨its, rv, hl, hsz⟩ := I.list hl0
  rw [Vals.ref1 r]
  have refs : ∀ x ∈ Z.map (·.1), ∃ a, x = V.ref a := fun x hx => by
    obtain ⟨z, hz', rfl⟩ := List.mem_map.mp hx
    obtain ⟨r1, ⟨xs, e, _⟩, _⟩ := hz z hz'
    rw [e] at r1
    generalize z.1 = v at r1
    cases r1 with
    | t st ra => exact ⟨_, rfl⟩
  obtain ⟨e1, e2⟩ := refs_back rv refs
  have kdef : ∃ kv : Value → D, (∀ v, hasSh (.t s) (kv v)) ∧ ∀ z ∈ Z, ∀ t, z.1 = .ref t → isS (.t s) sa.heap (.ref t) (kv (.ref t)) ∧ kv (.ref t) = z.2 := by
    refine ⟨fun u => if h : ∃ d, isS (.t s) sa.heap u d then Classical.choose h else .t [], fun v => ?_, fun z hz' t et => ?_⟩
    · by_cases c : ∃ d, isS (.t s) sa.heap v d
      · show hasSh (.t s) (if h : ∃ d, isS (.t s) sa.heap v d then Classical.choose h else .t [])
        rw [dif_pos c]
        exact isS_sh (Classical.choose_spec c)
      · show hasSh (.t s) (if h : ∃ d, isS (.t s) sa.heap v d then Classical.choose h else .t [])
        rw [dif_neg c]
        exact ⟨[], rfl, fun x hx => by cases hx⟩
    · obtain ⟨r1, sh, _⟩ := hz z hz'
      rw [et] at r1
      have x := is_of I ex (.t s) (.ref t) (.ref t) z.2 sh r1 rfl
      have c : ∃ d, isS (.t s) sa.heap (.ref t) d := ⟨_, x⟩
      show isS (.t s) sa.heap (.ref t) (if h : ∃ d, isS (.t s) sa.heap (.ref t) d then Classical.choose h else .t []) ∧ (if h : ∃ d, isS (.t s) sa.heap (.ref t) d then Classical.choose h else .t []) = z.2
      rw [dif_pos c]
      exact ⟨Classical.choose_spec c, isS_det (Classical.choose_spec c) x⟩
  obtain ⟨kv, ksh, hk⟩ := kdef
  have own : ∀ v ∈ its, isS (.t s) sa.heap v (kv v) ∧ kv v ≠ .t [] := fun v hv => by
    obtain ⟨t, rfl⟩ := e2 v hv
    have hm : V.ref t ∈ Z.map (·.1) := by rw [e1]; exact List.mem_map.mpr ⟨_, hv, rfl⟩
    obtain ⟨z, hz', ez⟩ := List.mem_map.mp hm
    obtain ⟨k1, k2⟩ := hk z hz' t ez
    exact ⟨k1, by rw [k2]; exact (hz z hz').2.2⟩
  refine sorted_ord ((tot (.t s)).swo kv ksh) hl.isList (by rw [← rv.length]; exact hsz) (fun h2 h1 b hb kk => ?_) fun out hs1 hb => ?_
  · refine tups_sortable hs (by show X.A.units + 1 + 1 + s.dep < cLine; omega) (by omega) fun h' keep v hv => ?_
    obtain ⟨x, ne⟩ := own v hv
    exact ⟨isS_keep x fun c o q => keep c o (kk c o q).1 (kk c o q).2, ne⟩
  · have h3 : ∀ u ∈ out, ∃ a, u = Value.ref a := fun u hu => e2 u (hb.perm.mem_iff.mp hu)
    have pm : (out.map backV).Perm (Z.map (·.1)) := by
      rw [e1]
      exact hb.perm.map backV
    obtain ⟨Z', q1, q2⟩ := DO.perm_lift _ pm
    have sn := sndsD (kv := kv) q2 h3 fun z hz' t et => (hk z (q1.mem_iff.mp hz') t et).2
    have pw : (Z'.map (·.2)).Pairwise (fun x y => ltS (.t s) y x = false) := by
      rw [sn, List.pairwise_map]
      exact hs1
    obtain ⟨n, hn⟩ := sortedAll_at sa.heap its out.toArray
    have len : (out.map backV).length ≤ sizeLine := by
      rw [pm.length_eq]
      exact hsz
    have rvo : Vals (Z'.map (·.1)) out := by
      rw [q2]
      exact vals_back h3
    refine ⟨.ref _, upd H (sa.heap.objs.size + 1) (.lst (Z'.map (·.1))), I.laid (t' := sa.toks) (fun _ _ => sortedAll_old) (Nat.le_succ _) ⟨by rw [q2]; exact len, out, n, rvo, by simpa using hn⟩, rfl, q Z' _ q1 pw (I.hok.fresh (Nat.le_succ _))⟩
end
section
variable {K : PySem.W.Frag}
def wSortS (s : Sh) : List D → (D → Prop) → Prop := fun xs Q => ∃ L : List D, xs = [.l L] ∧ (∀ d ∈ L, hasSh (.t s) d ∧ d ≠ .t []) ∧ ∀ L' : List D, L'.Perm L → L'.Pairwise (fun x y => ltS (.t s) y x = false) → Q (.l L')
theorem ra_zip {F : Hp} : ∀ {vs : List V} {xs : List D}, RA K F vs xs → ∃ Z : List (V × D), Z.map (·.1) = vs ∧ Z.map (·.2) = xs ∧ ∀ z ∈ Z, R K F z.1 z.2
  | _, _, .nil => ⟨[], rfl, rfl, fun z hz => by cases hz⟩
  | _, _, @RA.cons _ _ v x vs xs r ra => by
    obtain ⟨Z, h1, h2, h3⟩ := ra_zip ra
    refine ⟨(v, x) :: Z, by rw [List.map_cons, h1], by rw [List.map_cons, h2], fun z hz => ?_⟩
    rcases List.mem_cons.mp hz with rfl | hz
    · exact r
    · exact h3 z hz
theorem ra_unzip {F : Hp} : ∀ {Z : List (V × D)}, (∀ z ∈ Z, R K F z.1 z.2) → RA K F (Z.map (·.1)) (Z.map (·.2))
  | [], _ => .nil
  | z :: Z, h => .cons (h z (List.mem_cons_self ..)) (ra_unzip fun y hy => h y (List.mem_cons_of_mem _ hy))
theorem c_sortS {s : Sh} : COk K (rSortS K s) (wSortS s) := fun xs Q ⟨L, e0, hs, hq⟩ F H vs e r QV q => by
  subst e0
  obtain ⟨a, us, rfl, h, ra⟩ := DO.one_l r
  obtain ⟨Z, z1, z2, z3⟩ := ra_zip ra
  refine ⟨a, Z, F, rfl, by rw [z1]; exact sq_of (e _ _ h), e, fun z hz => ?_, fun Z' p pm pw np => ?_⟩
  · have := hs z.2 (by rw [← z2]; exact List.mem_map_of_mem hz)
    exact ⟨z3 z hz, this.1, this.2⟩
  · have pm2 : (Z'.map (·.2)).Perm L := z2 ▸ pm.map (·.2)
    have z3' : ∀ z ∈ Z', R K F z.1 z.2 := fun z hz => z3 z (pm.mem_iff.mp hz)
    exact q _ _ (upd F p (.lst (Z'.map (·.1)))) _ (hq (Z'.map (·.2)) pm2 pw) (Ext.new e np) (.l upd_same ((ra_unzip z3').mono (Ex.new (fresh_back e np))))
/-- what stands ascending already stays -/
theorem sorted_same {s : Sh} {L L' : List D} (hs : ∀ d ∈ L, hasSh s d) (pm : L'.Perm L) (p1 : L'.Pairwise (fun x y => ltS s y x = false)) (p2 : L.Pairwise (fun x y => ltS s y x = false)) : L' = L :=
  pm.eq_of_pairwise (fun x y hx hy h1 h2 => (tot s).anti (hs x (pm.mem_iff.mp hx)) (hs y hy) h2 h1) p1 p2
end
end SrtD
namespace FlC
open PySem DL ShM SrtD
abbrev F5 := Int × Int × Int × Int × Int
def t5 (f : F5) : D := .t [.i f.1, .i f.2.1, .i f.2.2.1, .i f.2.2.2.1, .i f.2.2.2.2]
def cellN (w s h c : Int) : List F5 := (List.range h.toNat).map fun (d : Nat) => (w, s, h, c, (d : Int))
def rowN (w s h : Int) : List F5 := (List.range w.toNat).flatMap fun (c : Nat) => cellN w s h c
def fullN (n w : Int) : List F5 := (List.range w.toNat).flatMap fun (s : Nat) => rowN w s (n / w)
def wsN (n : Int) : List Int := ((List.range n.toNat).filter fun (k : Nat) => decide (n % (1 + (k : Int)) = 0)).map fun (k : Nat) => 1 + (k : Int)
def canon (n : Int) : List F5 := (wsN n).flatMap (fullN n)
theorem ws_mem {n w : Int} : w ∈ wsN n ↔ 1 ≤ w ∧ w ≤ n ∧ n % w = 0 := by
  unfold wsN
  simp only [List.mem_map, List.mem_filter, List.mem_range, decide_eq_true_iff]
  constructor
  · rintro ⟨k, ⟨hk, z⟩, rfl⟩
    exact ⟨by omega, by omega, z⟩
  · rintro ⟨a, b, z⟩
    refine ⟨(w - 1).toNat, ⟨by omega, ?_⟩, by omega⟩
    rw [show 1 + (((w - 1).toNat : Nat) : Int) = w by omega]
    exact z
theorem cell_mem {w s h c : Int} {f : F5} : f ∈ cellN w s h c ↔ ∃ d, 0 ≤ d ∧ d < h ∧ f = (w, s, h, c, d) := by
  unfold cellN
  rw [List.mem_map]
  constructor
  · rintro ⟨d, hd, rfl⟩
    have := List.mem_range.mp hd
    exact ⟨d, by omega, by omega, rfl⟩
  · rintro ⟨d, a, b, rfl⟩
    exact ⟨d.toNat, List.mem_range.mpr (by omega), by rw [show ((d.toNat : Nat) : Int) = d by omega]⟩
theorem row_mem {w s h : Int} {f : F5} : f ∈ rowN w s h ↔ ∃ c d, (0 ≤ c ∧ c < w) ∧ 0 ≤ d ∧ d < h ∧ f = (w, s, h, c, d) := by
  unfold rowN
  rw [List.mem_flatMap]
  constructor
  · rintro ⟨c, hc, hf⟩
    have := List.mem_range.mp hc
    obtain ⟨d, a, b, rfl⟩ := cell_mem.mp hf
    exact ⟨c, d, by omega, a, b, rfl⟩
  · rintro ⟨c, d, ⟨a, b⟩, d0, d1, rfl⟩
    refine ⟨c.toNat, List.mem_range.mpr (by omega), ?_⟩
    rw [show ((c.toNat : Nat) : Int) = c by omega]
    exact cell_mem.mpr ⟨d, d0, d1, rfl⟩
theorem full_mem {n w : Int} {f : F5} : f ∈ fullN n w ↔ ∃ s c d, (0 ≤ s ∧ s < w) ∧ (0 ≤ c ∧ c < w) ∧ 0 ≤ d ∧ d < n / w ∧ f = (w, s, n / w, c, d) := by
  unfold fullN
  rw [List.mem_flatMap]
  constructor
  · rintro ⟨s, hs, hf⟩
    have := List.mem_range.mp hs
    obtain ⟨c, d, a, b, e, rfl⟩ := row_mem.mp hf
    exact ⟨s, c, d, by omega, a, b, e, rfl⟩
  · rintro ⟨s, c, d, ⟨a, b⟩, c0, d0, d1, rfl⟩
    refine ⟨s.toNat, List.mem_range.mpr (by omega), ?_⟩
    rw [show ((s.toNat : Nat) : Int) = s by omega]
    exact row_mem.mpr ⟨c, d, c0, d0, d1, rfl⟩
theorem canon_mem {n : Int} {f : F5} : f ∈ canon n ↔ ∃ w s c d, (1 ≤ w ∧ w ≤ n ∧ n % w = 0) ∧ (0 ≤ s ∧ s < w) ∧ (0 ≤ c ∧ c < w) ∧ 0 ≤ d ∧ d < n / w ∧ f = (w, s, n / w, c, d) := by
  unfold canon
  rw [List.mem_flatMap]
  constructor
  · rintro ⟨w, hw, hf⟩
    obtain ⟨s, c, d, a, b, d0, d1, e⟩ := full_mem.mp hf
    exact ⟨w, s, c, d, ws_mem.mp hw, a, b, d0, d1, e⟩
  · rintro ⟨w, s, c, d, hw, a, b, d0, d1, e⟩
    exact ⟨w, ws_mem.mpr hw, full_mem.mpr ⟨s, c, d, a, b, d0, d1, e⟩⟩
theorem divs {n w : Int} (hw : 1 ≤ w ∧ w ≤ n ∧ n % w = 0) : w * (n / w) = n ∧ 1 ≤ n / w ∧ n / w ≤ n := by
  obtain ⟨a, b, z⟩ := hw
  have h := Int.mul_ediv_add_emod n w
  have h2 : n / w ≤ n := Int.ediv_le_self _ (by omega)
  have h3 := Int.ediv_nonneg (show 0 ≤ n by omega) (show 0 ≤ w by omega)
  refine ⟨by omega, ?_, h2⟩
  rcases Int.lt_trichotomy (n / w) 0 with c | c | c
  · omega
  · rw [c] at h
    simp only [Int.mul_zero] at h
    omega
  · omega
theorem lexI_cons {m n : Int} {xs ys : List D} : lexL (ltS .i) (.i m :: xs) (.i n :: ys) = if m = n then lexL (ltS .i) xs ys else ltS .i (.i m) (.i n) := by
  rw [lexL_cons]
  by_cases e : m = n
  · rw [if_pos e, if_pos (by rw [e])]
  · rw [if_neg e, if_neg fun z => e (D.i.inj z)]
theorem canon_len : ∀ m : Nat, m ≤ 6 → (canon (2 * (m : Int))).length ≤ 400 := fun m hm => by
  have : m = 0 ∨ m = 1 ∨ m = 2 ∨ m = 3 ∨ m = 4 ∨ m = 5 ∨ m = 6 := by omega
  rcases this with rfl | rfl | rfl | rfl | rfl | rfl | rfl <;> decide +kernel
/-- the places of a shape and its half turn have rests of their own -/
def Own (L : List Pr) (w s h c d : Int) : Prop := ((dbl c d L).map (rest w s h)).Nodup
def okB (L : List Pr) (f : F5) : Bool := floorD L (t5 f)
theorem okB_iff {L : List Pr} {n : Int} {w s h c d : Int} (m : (w, s, h, c, d) ∈ canon n) (l : ((2 * L.length : Nat) : Int) = n) : okB L (w, s, h, c, d) = true ↔ Own L w s h c d := by
  obtain ⟨w', s', c', d', hw, s0, c0, d0, d1, e⟩ := canon_mem.mp m
  simp only [Prod.mk.injEq] at e
  obtain ⟨rfl, rfl, rfl, rfl, rfl⟩ := e
  obtain ⟨e1, e2, e3⟩ := divs hw
  show decide (okF L _ _ _ _ _) = true ↔ _
  rw [decide_eq_true_iff]
  have e4 : ((dbl c d L).length : Int) = w * (n / w) := by rw [dbl_len]; omega
  have e5 : 0 ≤ s ∧ s < w ∧ 1 ≤ n / w ∧ 0 ≤ c ∧ c < w ∧ 0 ≤ d ∧ d < n / w := by omega
  exact ⟨fun z => z.2.2, fun z => ⟨e5, e4, z⟩⟩
end FlC
namespace LCN
open PySem PySem.Spec PyProof.Rows L2
abbrev NoE : Value → Shared → Prop := fun _ _ => False
/-- what is behind a clause's tests: from slots and heap to what is wanted of the heap -/
abbrev TB := L2.St → Hp → (Hp → Prop) → Prop
abbrev TAc := Addr → TB
def tTurns (J : It) (g : TG) (tt : TT) (ta : TB) (vs : List Nat) : TB := fun σ H Q =>
  ∃ W : Nat → Nat → Hp → Prop, (∃ m, W 0 m H) ∧ ∀ i m H, W i m H → (J.stop i H ∧ Q H) ∨ (J.go i H ∧ ∃ Nx : Hp → Prop, (∀ H', Nx H' → ∃ m', m' < m ∧ W (i + 1) m' H') ∧
    ∀ x H', J.yld i H x H' → g x (wipe σ vs) H' fun σ2 H2 => wipe σ2 vs = wipe σ vs ∧ tt σ2 H2 fun b H3 => (b = true → ta σ2 H3 Nx) ∧ (b = false → Nx H3))
def tApp (te : TE) : TAc := fun D σ H Nx => te σ H fun y H7 => ∃ acc, H7 D = some (.lst acc) ∧ acc.length < sizeLine ∧ Nx (upd H7 D (.lst (acc ++ [y])))
def tCl (wi : TI) (g : TG) (tt : TT) (ta : TAc) (vs : List Nat) : TAc := fun D σ H Nx => wi σ H fun J H4 => tTurns J g tt (ta D) vs σ H4 Nx
def tLcN (wi : TI) (g : TG) (tt : TT) (ta : TAc) (vs : List Nat) : TE := fun σ H Q => wi σ H fun J H1 => ∀ D, H1 D = none → tTurns J g tt (ta D) vs σ (upd H1 D (.lst [])) (Q (.ref D))
section
variable {Y : Cx} {e elt : Expr} {gs : List Comprehension} {scope : Scope} {pos : Pos} {k : Nat} {tg ix t1 i1 : Expr} {ifs ifs1 : List Expr} {acc : Value}
/-- one turn of the clause k, what is behind its tests told by TR -/
def TurnLaw (Y : Cx) (e : Expr) (k : Nat) (tg : Expr) (ifs : List Expr) (acc : Value) (TR : Shared → (Shared → Prop) → Prop) : Prop :=
  ∀ (itv : Value) (R : Result → Shared → Prop) (I : Nat → Shared → Prop),
    (∀ n sa, I n sa → wpAny (model Y.prog Y.w) Y.A (pyNext itv) (fun r sb => match r with
      | none => R (.ok .next) sb
      | some u => wpAny (model Y.prog Y.w) Y.A (letOwnedTupleGo tg itv u) (fun _ sc => wpAny (model Y.prog Y.w) Y.A (assign tg Y.env u) (fun _ sd =>
          wpAny (model Y.prog Y.w) Y.A (forIn ifs true fun cn r => if r = true then do let ok ← isTrue cn Y.env (eval cn Y.env); pure (ForInStep.yield ok) else pure (ForInStep.yield r))
            (fun good se => (good = true → TR se fun sf => ∃ m, m < n ∧ I m sf) ∧ (good = false → ∃ m, m < n ∧ I m se)) NoE sd) NoE sc) NoE sb) NoE sa) →
    ∀ n sa, I n sa → codeAny (model Y.prog Y.w) Y.A (.compLoop e k itv acc Y.env) R sa
def TRlast (Y : Cx) (elt : Expr) (acc : Value) : Shared → (Shared → Prop) → Prop := fun sa Z =>
  wpAny (model Y.prog Y.w) Y.A (eval elt Y.env) (fun x sb => wpAny (model Y.prog Y.w) Y.A (call (.builtin "list.append") [acc, x]) (fun _ sc => Z sc) NoE sb) NoE sa
def TRnext (Y : Cx) (e : Expr) (k : Nat) (i1 : Expr) (acc : Value) : Shared → (Shared → Prop) → Prop := fun sa Z =>
  wpAny (model Y.prog Y.w) Y.A (eval i1 Y.env) (fun x sb => wpAny (model Y.prog Y.w) Y.A (pyIter x) (fun itw sc =>
    codeAny (model Y.prog Y.w) Y.A (.compStart e (k + 1) itw acc Y.env) (fun r sd => match r with
      | .ok _ => Z sd
      | .error _ => False) sc) NoE sb) NoE sa
theorem noE {E : Value → Shared → Prop} : ∀ x sx, NoE x sx → E x sx := fun _ _ h => h.elim
theorem law_last (hk : gs[k]? = some ⟨tg, ix, ifs, 0⟩) (hk1 : gs[k + 1]? = none) : TurnLaw Y (.ListComp elt gs scope pos) k tg ifs acc (TRlast Y elt acc) := fun itv R I turn n sa hI => by
  refine codeAny_loop rfl I (fun n sa hI => ?_) n hI
  show wpAny _ Y.A ((compTurn (.ListComp elt gs scope pos) k itv acc Y.env).onRaise (fun x => do noteFrame x Y.env; theTreesLotGoes x)) _ _ sa
  refine wpAny_noted ?_
  unfold compTurn
  dsimp only
  rw [hk]
  dsimp only
  rw [hk1]
  refine wpAny_bind (wpAny_standAt (wpAny_bind (wpAny_mono (turn n sa hI) (fun r sb hb => ?_) noE)))
  cases r with
  | none => exact wpAny_pure hb
  | some u =>
    refine wpAny_bind (wpAny_mono hb (fun _ sc hc => wpAny_bind (wpAny_mono hc (fun _ sd hd => wpAny_bind (wpAny_mono hd (fun good se he => ?_) noE)) noE)) noE)
    cases good with
    | false => exact wpAny_pure ⟨rfl, he.2 rfl⟩
    | true => exact wpAny_bind (wpAny_bind (wpAny_mono (he.1 rfl) (fun x sf hf => wpAny_bind (wpAny_mono hf (fun _ sg hg => wpAny_pure (wpAny_pure ⟨rfl, hg⟩)) noE)) noE))
theorem law_next (hk : gs[k]? = some ⟨tg, ix, ifs, 0⟩) (hk1 : gs[k + 1]? = some ⟨t1, i1, ifs1, 0⟩) (hs : ∀ x, foldedSetIterable i1 Y.env x = pure x) :
    TurnLaw Y (.ListComp elt gs scope pos) k tg ifs acc (TRnext Y (.ListComp elt gs scope pos) k i1 acc) := fun itv R I turn n sa hI => by
  refine codeAny_loop rfl I (fun n sa hI => ?_) n hI
  show wpAny _ Y.A ((compTurn (.ListComp elt gs scope pos) k itv acc Y.env).onRaise (fun x => do noteFrame x Y.env; theTreesLotGoes x)) _ _ sa
  refine wpAny_noted ?_
  unfold compTurn
  dsimp only
  rw [hk]
  dsimp only
  rw [hk1]
  refine wpAny_bind (wpAny_standAt (wpAny_bind (wpAny_mono (turn n sa hI) (fun r sb hb => ?_) noE)))
  cases r with
  | none => exact wpAny_pure hb
  | some u =>
    refine wpAny_bind (wpAny_mono hb (fun _ sc hc => wpAny_bind (wpAny_mono hc (fun _ sd hd => wpAny_bind (wpAny_mono hd (fun good se he => ?_) noE)) noE)) noE)
    cases good with
    | false => exact wpAny_pure ⟨rfl, he.2 rfl⟩
    | true =>
      refine wpAny_bind (wpAny_mono (he.1 rfl) (fun x sf hf => ?_) noE)
      refine wpAny_bind (wpAny_standAt (wpAny_bind (wpAny_of_eq (hs x) (wpAny_bind (wpAny_holding (wpAny_mono hf (fun itw sg hg => ?_) noE))))))
      refine wpAny_bind (wpAny_runOwn ?_)
      rw [Around.mark_none]
      refine codeAny_mono hg fun r sh hr => ?_
      cases r with
      | ok f =>
        first
          | exact wpAny_pure ⟨rfl, hr⟩
          | exact wpAny_bind (wpAny_pure (wpAny_pure ⟨rfl, hr⟩))
      | error x => exact hr.elim
theorem start_ok {itv : Value} {R : Result → Shared → Prop} {sa : Shared} (hk : gs[k]? = some ⟨tg, ix, ifs, 0⟩) (h0 : codeAny (model Y.prog Y.w) Y.A (.compLoop (.ListComp elt gs scope pos) k itv acc Y.env) R sa)
    (h : wpAny (model Y.prog Y.w) Y.A (pyIter itv) (fun itw sb => codeAny (model Y.prog Y.w) Y.A (.compLoop (.ListComp elt gs scope pos) k itw acc Y.env) R sb) NoE sa) :
    codeAny (model Y.prog Y.w) Y.A (.compStart (.ListComp elt gs scope pos) k itv acc Y.env) R sa := by
  refine codeAny_of_tree ?_
  show wpAny _ _ ((compStart (.ListComp elt gs scope pos) k itv acc Y.env).onRaise (fun x => do noteFrame x Y.env; standAt theWindowsPlace)) _ _ sa
  refine wpAny_notedAt ?_
  unfold compStart
  have ec : (clausesOf (.ListComp elt gs scope pos))[k]? = some ⟨tg, ix, ifs, 0⟩ := hk
  rw [ec]
  show wpAny _ _ (ask >>= _) _ _ sa
  refine wpAny_bind (wpAny_askSetting (wpAny_ite ?_))
  split
  · first
      | exact wpAny_bind (wpAny_pure (wpAny_pure (And.intro rfl h0)))
      | exact wpAny_pure (And.intro rfl h0)
  · refine wpAny_bind (wpAny_rule ?_)
    first
      | exact wpAny_bind (wpAny_standAt (wpAny_bind (wpAny_mono h (fun itw sb hb => wpAny_pure (And.intro rfl hb)) noE)))
      | (show wpAny _ _ (standAt ix.pos >>= _) _ _ sa; exact wpAny_bind (wpAny_standAt (wpAny_bind (wpAny_mono h (fun itw sb hb => wpAny_pure (And.intro rfl hb)) noE))))
/-- what is behind the tests does as it is read -/
def RestOk (Y : Cx) (TR : Shared → (Shared → Prop) → Prop) (ta : TB) (vs : List Nat) : Prop :=
  ∀ (pins : List (Addr × Obj)) (sa : Shared) (σ : L2.St) (H : Hp) (Nx : Hp → Prop), Inv Y pins σ H sa → ta σ H Nx → ∀ Z : Shared → Prop, (∀ sb H', Inv Y pins (wipe σ vs) H' sb → Nx H' → Z sb) → TR sa Z
theorem rest_last {D : Addr} {te : TE} (hx : Y.xe = NoE) (he : PE Y elt te) : RestOk Y (TRlast Y elt (.ref D)) (tApp te D) [] := fun pins sa σ H Nx I h Z hZ => by
  refine wpAny_mono (he.run pins sa σ H _ I h) (fun u sb ⟨y, H7, I7, r7, own, hD, hz, nx⟩ => ?_) (fun x sx q => by rw [hx] at q; exact q)
  exact app_ok (E := NoE) I7 hD hz r7 fun sc I8 => hZ _ _ I8 nx
theorem loop_ok {J : It} {fp : List Addr} {it : Addr} {tn : Nat → Heap → Prop} {g : TG} {tt : TT} {ta : TB} {vs vs1 : List Nat} {TR : Shared → (Shared → Prop) → Prop} (hc : Y.calm = true) (hx : Y.xe = NoE)
    (TL : TurnLaw Y e k tg ifs acc TR) (RO : RestOk Y TR ta vs1) (hg : PG Y tg g) (ht : PTs Y ifs tt) (sub : ∀ i ∈ vs1, i ∈ vs) (T : Turn Y.prog Y.w Y.K tg J fp it tn)
    {pins : List (Addr × Obj)} {σ : L2.St} {Q : Hp → Prop} {R : Result → Shared → Prop} (stat : ∀ {σ' : L2.St} {H' : Hp} {sz : Shared}, Inv Y pins σ' H' sz → (∀ b ∈ fp, H' b = none) → ∀ b ∈ fp, FpOk Y pins H' b)
    (hR : ∀ H' sz, Inv Y pins (wipe σ vs) H' sz → Q H' → R (.ok .next) sz)
    {sa : Shared} {H : Hp} (I0 : Inv Y pins (wipe σ vs) H sa) (st0 : tn 0 sa.heap) (n0 : ∀ b ∈ fp, H b = none) (h : tTurns J g tt ta vs σ H Q) :
    codeAny (model Y.prog Y.w) Y.A (.compLoop e k (.ref it) acc Y.env) R sa := by
  obtain ⟨W, ⟨m0, w0⟩, turn⟩ := h
  have no : ∀ {x sx}, Y.xe x sx → False := fun {x sx} q => by rw [hx] at q; exact q
  refine TL (.ref it) R (fun n sz => ∃ i H', Inv Y pins (wipe σ vs) H' sz ∧ tn i sz.heap ∧ (∀ b ∈ fp, H' b = none) ∧ W i n H') ?_ m0 sa ⟨0, H, I0, st0, n0, w0⟩
  rintro n s5 ⟨i, H5, I5, st5, n5, w5⟩
  rcases turn i n H5 w5 with ⟨stop, qq⟩ | ⟨go, Nx, hNx, step⟩
  · refine thnF (T.done Y rfl rfl rfl hc i _ s5 _ H5 NoE I5 (stat I5 n5) st5 stop) fun r s6 hr => ?_
    obtain ⟨rfl, I6⟩ := hr
    exact hR H5 s6 I6 qq
  · refine thnF (T.item Y rfl rfl rfl hc i _ s5 _ H5 NoE I5 (stat I5 n5) st5 go) fun r s6 hr => ?_
    obtain ⟨u, rfl, h6⟩ := hr
    refine thnF h6 fun _ s7 hy => ?_
    obtain ⟨x, H7, I7, r7, y7, st7, n7⟩ := hy
    have P7 := I7.pinned (stat I7 n7) (T.obj _ _ st7)
    refine wpAny_mono (hg.run _ s7 _ H7 x u _ P7 r7 (step x H7 y7)) (fun _ s8 hb => ?_) fun _ _ q => no q
    obtain ⟨σ8, H8, I8, hw8, q8⟩ := hb
    refine wpAny_mono (ht.run _ s8 σ8 H8 _ I8 q8) (fun good s9 hd => ?_) fun _ _ q => no q
    obtain ⟨H9, I9, q9⟩ := hd
    have fin : ∀ {σ9 : L2.St} {sz : Shared} {H' : Hp}, Inv Y (pins ++ pinsAt fp s7.heap) σ9 H' sz → (wipe σ vs).length = σ9.length → (∀ (j : Nat) v, (wipe σ vs)[j]? = some (some v) → σ9[j]? = some (some v)) → Nx H' →
        ∃ m, m < n ∧ ∃ i H', Inv Y pins (wipe σ vs) H' sz ∧ tn i sz.heap ∧ (∀ b ∈ fp, H' b = none) ∧ W i m H' := fun {σ9 sz H'} Iz hl hkn nx => by
      obtain ⟨m', hm, w'⟩ := hNx H' nx
      have kept : ∀ b ∈ fp, ∀ o, s7.heap.get? b = some o → sz.heap.get? b = some o ∧ H' b = none := fun b hb o q =>
        let z := Iz.pin (b, o) (List.mem_append_right _ (List.mem_append_right _ (mem_pinsAt hb q)))
        ⟨z.1, z.2.1⟩
      refine ⟨m', hm, i + 1, H', Iz.unpinned.weak hl hkn, T.keep _ _ _ st7 fun b hb o q => (kept b hb o q).1, fun b hb => ?_, w'⟩
      obtain ⟨o, q, _⟩ := T.obj _ _ st7 b hb
      exact (kept b hb o q).2
    have l8 : (wipe σ vs).length = σ8.length := by rw [← hw8, wipe_length]
    have k8 : ∀ (j : Nat) v, (wipe σ vs)[j]? = some (some v) → σ8[j]? = some (some v) := fun j v q => by
      rw [← hw8] at q
      exact (wipe_some q).1
    refine ⟨fun eg => ?_, fun eg => fin I9 l8 k8 (q9.2 eg)⟩
    refine RO _ s9 σ8 H9 Nx I9 (q9.1 eg) _ fun sb H' Iz nx => fin Iz (l8.trans (wipe_length σ8 vs1).symm) (fun j v q => ?_) nx
    rw [← hw8] at q
    obtain ⟨q1, q2⟩ := wipe_some q
    rw [wipe_out fun z => q2 (sub j z)]
    exact q1
/-- a further clause -/
theorem rest_next {D : Addr} {wi : TI} {g : TG} {tt : TT} {ta : TAc} {vs vs1 : List Nat} {TR : Shared → (Shared → Prop) → Prop} (hc : Y.calm = true) (hx : Y.xe = NoE) (hk1 : gs[k + 1]? = some ⟨t1, i1, ifs1, 0⟩)
    (TL : TurnLaw Y (.ListComp elt gs scope pos) (k + 1) t1 ifs1 (.ref D) TR) (RO : RestOk Y TR (ta D) vs1) (hi : PI Y t1 i1 wi) (hg : PG Y t1 g) (ht : PTs Y ifs1 tt) (sub : ∀ i ∈ vs1, i ∈ vs) :
    RestOk Y (TRnext Y (.ListComp elt gs scope pos) k i1 (.ref D)) (tCl wi g tt ta vs D) vs := fun pins sa σ H Nx I h Z hZ => by
  have no : ∀ {x sx}, Y.xe x sx → NoE x sx := fun {x sx} q => by rw [hx] at q; exact q
  refine wpAny_mono (hi.run pins sa σ H _ I h) (fun xv sb hb => wpAny_mono hb (fun itv sc hit => ?_) fun _ _ q => no q) fun _ _ q => no q
  obtain ⟨it, fp, tn, J, H4, rfl, I4, T, st4, f4, q4⟩ := hit
  have stat : ∀ {σ' : L2.St} {H' : Hp} {sz : Shared}, Inv Y pins σ' H' sz → (∀ b ∈ fp, H' b = none) → ∀ b ∈ fp, FpOk Y pins H' b := fun {σ' H' sz} _ hn b hb => ⟨hn b hb, (f4 b hb).2⟩
  have loop := loop_ok (R := fun r sd => match r with | .ok _ => Z sd | .error _ => False) hc hx TL RO hg ht sub T (pins := pins) (σ := σ) (Q := Nx) stat (fun H' sz Iz q => hZ sz H' Iz q) (I4.weak (wipe_length σ vs) fun j v q => (wipe_some q).1) st4 (fun b hb => (f4 b hb).1) q4
  exact start_ok hk1 loop (T.self Y.A 0 _ _ _ st4 loop)
end
section
variable {X : Cx}
/-- the whole comprehension: the first clause and more, what is behind its tests told by ta -/
theorem lcN_core {pins : List (Addr × Obj)} {s : Shared} {σ : L2.St} {H : Hp} {Q : VK} {elt tg iter : Expr} {ifs : List Expr} {rest : List Comprehension} {scope : Scope} {own : List (Str × Nat)} {vs1 : List Nat} {pos pos' : Pos} {wi : TI} {g : TG} {tt : TT} {ta : TAc}
    {use : Option (Value → Sem Unit)} {Qf : Value → Shared → Prop}
    (TR : Cx → Addr → Shared → (Shared → Prop) → Prop) (hc : X.calm = true) (hN : X.N.Nodup) (I : Inv X pins σ H s) (hi : PI X tg iter wi) (ok : BlkOk X.N X.env.scope scope own) (hv : ∀ i ∈ vs1, i ∈ own.map (·.2))
    (hg : ∀ (s : Shared) (H : Hp) (C : Addr) (cl : List (Str × Addr)) (fp : List Addr), PG (X.blk s H scope (compEnvC scope cl C X.env) fp) tg g)
    (ht : ∀ (s : Shared) (H : Hp) (C : Addr) (cl : List (Str × Addr)) (fp : List Addr), PTs (X.blk s H scope (compEnvC scope cl C X.env) fp) ifs tt)
    (hTL : ∀ (s : Shared) (H : Hp) (C : Addr) (cl : List (Str × Addr)) (fp : List Addr) (D : Addr), TurnLaw (X.blk s H scope (compEnvC scope cl C X.env) fp) (.ListComp elt (⟨tg, iter, ifs, 0⟩ :: rest) scope pos) 0 tg ifs (.ref D) (TR (X.blk s H scope (compEnvC scope cl C X.env) fp) D))
    (hRO : ∀ (s : Shared) (H : Hp) (C : Addr) (cl : List (Str × Addr)) (fp : List Addr) (D : Addr), RestOk (X.blk s H scope (compEnvC scope cl C X.env) fp) (TR (X.blk s H scope (compEnvC scope cl C X.env) fp) D) (ta D) vs1)
    (hs : ∀ x, foldedSetIterable iter X.env x = pure x) (h : tLcN wi g tt ta (own.map (·.2)) σ H Q)
    (hRR : ∀ D C sz m H', Inv X pins σ H' sz → Q (.ref D) H' → sz.heap.Ns C m → FpOk X pins H' C → compPost (model X.prog X.w) X.A X.xe use Qf (.ref D) C (.ok .next) sz) :
    wpAny (model X.prog X.w) X.A (comprehension (.ListComp elt (⟨tg, iter, ifs, 0⟩ :: rest) scope pos) scope X.env pos' (newList []) false (eval iter X.env) use) Qf X.xe s := by
  have known : ∀ z ∈ scope.names, z.2 = .free → ∃ c, X.env.cells.lookup z.1 = some c := fun z hz q => (ok.free z hz q).elim (fun u => I.ok.has _ (.inl u)) fun u => I.ok.has _ (.inr u)
  refine wpAny_comprehension_free (use := use) rfl hs (closure_ok known) ok.kind (fun z hz q => by rw [ok.uniq z hz, q]) (thn (hi.run pins s σ H _ I h) fun xv sa ha => thn ha fun itv sb hb => ?_)
  obtain ⟨it, fp, tn, J, HB, rfl, IB, T, stB, fB, qB⟩ := hb
  refine wpAny_newObj_type (newEnv_comp ?_) (Nat.zero_le sizeLine)
  generalize hD : sb.heap.objs.size = D
  have DB : HB D = none := IB.hok.fresh (Nat.le_of_eq hD)
  have tq := qB D DB
  generalize hsc : ({ sb with heap := sb.heap.push { cls := .type "list", data := .seq ([] : List Value).toArray } } : Shared) = sc
  have eh : sc.heap = sb.heap.push { cls := .type "list", data := .seq ([] : List Value).toArray } := by rw [← hsc]
  have IC : Inv X pins σ (upd HB D (.lst [])) sc := by
    rw [← hsc]
    exact IB.laid (t' := sb.toks) (fun b o q => Heap.get?_push_of_some _ q) (Nat.le_of_eq hD) ⟨Nat.zero_le _, [], 0, .nil, by rw [← hD]; exact Heap.get?_push_size _ rfl⟩
  have fC : ∀ b ∈ fp, FpOk X pins (upd HB D (.lst [])) b ∧ b < sc.heap.objs.size := fun b hb => by
    obtain ⟨o, q, _⟩ := T.obj _ _ stB b hb
    have small := Heap.lt_size q
    obtain ⟨z0, z1⟩ := fB b hb
    refine ⟨⟨?_, z1⟩, by rw [eh, Heap.size_push]; exact Nat.lt_succ_of_lt small⟩
    rw [upd_ne (by rw [← hD]; exact Nat.ne_of_lt small)]
    exact z0
  have stC : tn 0 sc.heap := T.keep _ _ _ stB fun b _ o q => by rw [eh]; exact Heap.get?_push_of_some _ q
  have IE := block_start IC ok hN fC
  show codeAny _ _ (.compStart (.ListComp elt (⟨tg, iter, ifs, 0⟩ :: rest) scope pos) 0 (.ref it) (.ref D) (compEnvC scope (cellsFrom (sc.heap.objs.size + 1) scope.names (cloFrom X.env.cells scope.names [])) sc.heap.objs.size X.env)) (compPost (model X.prog X.w) X.A X.xe use Qf (.ref D) sc.heap.objs.size) { sc with heap := pushCells (sc.heap.push { cls := .type "dict", data := .dict #[] }) scope.names }
  generalize hcl : cellsFrom (sc.heap.objs.size + 1) scope.names (cloFrom X.env.cells scope.names []) = cl at IE ⊢
  generalize hce : compEnvC scope cl sc.heap.objs.size X.env = ce at IE ⊢
  have cL : ce.locals = sc.heap.objs.size := by subst hce; rfl
  generalize hHC : upd HB D (.lst []) = HC at IC IE fC tq
  generalize hse : ({ sc with heap := pushCells (sc.heap.push { cls := .type "dict", data := .dict #[] }) scope.names } : Shared) = se at IE ⊢
  have stE : tn 0 se.heap := T.keep _ _ _ stC fun b _ o q => by rw [← hse]; exact pushCells_keeps _ _ _ _ (Heap.get?_push_of_some _ q)
  have stat : ∀ {σ' : L2.St} {H' : Hp} {sz : Shared}, Inv (X.blk sc HC scope ce fp) [] σ' H' sz → (∀ b ∈ fp, H' b = none) → ∀ b ∈ fp, FpOk (X.blk sc HC scope ce fp) [] H' b := fun {σ' H' sz} Iz hn b hb =>
    ⟨hn b hb, (Iz.ok.exf b hb).1, Iz.ok.exfs b hb, .inl hb, fun x c q => (Iz.ok.exf b hb).2 x c q, fun p hp => by cases hp⟩
  have tl := hTL sc HC sc.heap.objs.size cl fp D
  have ro := hRO sc HC sc.heap.objs.size cl fp D
  have pg := hg sc HC sc.heap.objs.size cl fp
  have pt := ht sc HC sc.heap.objs.size cl fp
  rw [hce] at tl ro pg pt
  have loop := loop_ok (Y := X.blk sc HC scope ce fp) (R := compPost (model X.prog X.w) X.A X.xe use Qf (.ref D) sc.heap.objs.size) hc rfl tl ro pg pt hv T (pins := []) (σ := σ) (Q := Q (.ref D)) stat (fun H' sz Iz qq => ?_) IE stE (fun b hb => (fC b hb).1.1) tq
  · exact codeAny_compStart_list loop (T.self X.A 0 _ _ _ stE loop)
  · have back : Inv X pins σ H' sz := IC.call' (ch := fp) Iz.os Iz.base Iz.hok Iz.bare fun b hb => ⟨(fC b hb).1.2.2.2.1, (fC b hb).1.2.1, (fC b hb).1.2.2.2.2.1, (fC b hb).1.2.2.2.2.2⟩
    have nC : H' sc.heap.objs.size = none := by
      have z : H' ce.locals = none := Iz.free
      rw [cL] at z
      exact z
    obtain ⟨m, hn, _⟩ := Iz.loc
    have hn : sz.heap.Ns ce.locals m := hn
    rw [cL] at hn
    exact hRR D sc.heap.objs.size sz m H' back qq hn (IC.fpOk (Nat.le_refl _) nC)
/-- the same, stored in a local -/
theorem ps_setLc3 {i : Nat} {y : Str} {py spos : Pos} {elt tg iter tg1 iter1 tg2 iter2 : Expr} {ifs ifs1 ifs2 : List Expr} {scope : Scope} {own : List (Str × Nat)} {vs1 vs2 : List Nat} {pos : Pos} {wi wi1 wi2 : TI} {g g1 g2 : TG} {tt tt1 tt2 : TT} {te : TE}
    (hc : X.calm = true) (hN : X.N.Nodup) (hy : X.N[i]? = some y) (hyl : X.env.scope.names.lookup y = some .local)
    (hsw : swapsWith (.ListComp elt [⟨tg, iter, ifs, 0⟩, ⟨tg1, iter1, ifs1, 0⟩, ⟨tg2, iter2, ifs2, 0⟩] scope pos) (some (.Name y py)) spos.line X.env = pure true) (hi : PI X tg iter wi) (ok : BlkOk X.N X.env.scope scope own) (hv : ∀ i ∈ vs1, i ∈ own.map (·.2)) (hv2 : ∀ i ∈ vs2, i ∈ vs1)
    (hg : ∀ (s : Shared) (H : Hp) (C : Addr) (cl : List (Str × Addr)) (fp : List Addr), PG (X.blk s H scope (compEnvC scope cl C X.env) fp) tg g)
    (ht : ∀ (s : Shared) (H : Hp) (C : Addr) (cl : List (Str × Addr)) (fp : List Addr), PTs (X.blk s H scope (compEnvC scope cl C X.env) fp) ifs tt)
    (hi1 : ∀ (s : Shared) (H : Hp) (C : Addr) (cl : List (Str × Addr)) (fp : List Addr), PI (X.blk s H scope (compEnvC scope cl C X.env) fp) tg1 iter1 wi1)
    (hg1 : ∀ (s : Shared) (H : Hp) (C : Addr) (cl : List (Str × Addr)) (fp : List Addr), PG (X.blk s H scope (compEnvC scope cl C X.env) fp) tg1 g1)
    (ht1 : ∀ (s : Shared) (H : Hp) (C : Addr) (cl : List (Str × Addr)) (fp : List Addr), PTs (X.blk s H scope (compEnvC scope cl C X.env) fp) ifs1 tt1)
    (hi2 : ∀ (s : Shared) (H : Hp) (C : Addr) (cl : List (Str × Addr)) (fp : List Addr), PI (X.blk s H scope (compEnvC scope cl C X.env) fp) tg2 iter2 wi2)
    (hg2 : ∀ (s : Shared) (H : Hp) (C : Addr) (cl : List (Str × Addr)) (fp : List Addr), PG (X.blk s H scope (compEnvC scope cl C X.env) fp) tg2 g2)
    (ht2 : ∀ (s : Shared) (H : Hp) (C : Addr) (cl : List (Str × Addr)) (fp : List Addr), PTs (X.blk s H scope (compEnvC scope cl C X.env) fp) ifs2 tt2)
    (he : ∀ (s : Shared) (H : Hp) (C : Addr) (cl : List (Str × Addr)) (fp : List Addr), PE (X.blk s H scope (compEnvC scope cl C X.env) fp) elt te)
    (hs : ∀ x, foldedSetIterable iter X.env x = pure x := by intro _; rfl) (hs1 : ∀ env x, foldedSetIterable iter1 env x = pure x := by intro _ _; rfl) (hs2 : ∀ env x, foldedSetIterable iter2 env x = pure x := by intro _ _; rfl) :
    PS X (.Assign [.Name y py] (.ListComp elt [⟨tg, iter, ifs, 0⟩, ⟨tg1, iter1, ifs1, 0⟩, ⟨tg2, iter2, ifs2, 0⟩] scope pos) spos) (tAsg (tLcN wi g tt (tCl wi1 g1 tt1 (tCl wi2 g2 tt2 (tApp te) vs2) vs1) (own.map (·.2))) (gName i)) := by
  refine ⟨fun pins s σ H D I h => ?_⟩
  rw [exec_Assign_Name_used _ _ _ _ hsw]
  refine wpAny_bind (wpAny_standAt (wpAny_bind ?_))
  have h : tLcN wi g tt (tCl wi1 g1 tt1 (tCl wi2 g2 tt2 (tApp te) vs2) vs1) (own.map (·.2)) σ H (fun x H1 => gName i x σ H1 D.nx) := h
  have core := lcN_core (use := some (assign (.Name y py) X.env)) (Qf := fun _ sz => SP X pins D .next sz) (pos' := firstIterPos [⟨tg, iter, ifs, 0⟩, ⟨tg1, iter1, ifs1, 0⟩, ⟨tg2, iter2, ifs2, 0⟩] pos)
    (fun Y D => TRnext Y (.ListComp elt [⟨tg, iter, ifs, 0⟩, ⟨tg1, iter1, ifs1, 0⟩, ⟨tg2, iter2, ifs2, 0⟩] scope pos) 0 iter1 (.ref D)) hc hN I hi ok hv hg ht (fun s H C cl fp D => law_next rfl rfl (hs1 _))
    (fun s H C cl fp D => rest_next hc rfl rfl (law_next rfl rfl (hs2 _)) (rest_next hc rfl rfl (law_last rfl rfl) (rest_last rfl (he s H C cl fp)) (hi2 s H C cl fp) (hg2 s H C cl fp) (ht2 s H C cl fp) (fun i hi => by cases hi)) (hi1 s H C cl fp) (hg1 s H C cl fp) (ht1 s H C cl fp) hv2) hs h fun L C sz m H' back qq hn f => by
      show wpAny _ _ (assign (.Name y py) X.env (.ref L)) _ _ _
      refine wpAny_assign_Name (store_ok2 (v := V.ref L) back hN hy (.inl hyl) rfl (fun s2 Iz ⟨a, sb, ha⟩ => ?_) (.inr hyl))
      obtain ⟨f0, f1, f2, f3, f4, f5⟩ := f
      have apart : C ≠ a := ha.elim (fun z => by rw [z]; exact f1) fun z q => f4 y a z q.symm
      exact ⟨m, hn.sameBut sb apart, fun h3 sb3 => ⟨_, H', Iz.turned (t' := s2.toks) (fun b o hb q => (sb3.2 b hb).trans q) f0 f1 f3 f4 f5, qq⟩⟩
  exact wpAny_bind (thn core fun _ sz hq => wpAny_pure (wpAny_pure hq))
end
end LCN
namespace DL
open PySem PySem.Spec PyProof.Rows L2 Evl Lay ErrX LCN
section
variable {K : PySem.W.Frag}
/-- heaps going on, a list of one's own at Dl grown meanwhile -/
structure Gr (K : PySem.W.Frag) (Dl : Addr) (F H F' H' : Hp) : Prop where
  ff : Ex F F'
  rep : ∀ {F0 H0 : Hp} {σ : L2.St} {Γ : G}, noOwn Γ = true → H0 Dl = none → Rep K F0 H0 F H σ Γ → Rep K F0 H0 F' H' σ Γ
  ext : ∀ {F1 H1 : Hp}, H1 Dl = none → Ext F1 H1 F H → Ext F1 H1 F' H'
  nof : F' Dl = none
theorem Gr.refl {Dl : Addr} {F H : Hp} (h : F Dl = none) : Gr K Dl F H F H := ⟨Ex.refl F, fun _ _ r => r, fun _ x => x, h⟩
theorem Gr.trans {Dl : Addr} {F H F1 H1 F2 H2 : Hp} (a : Gr K Dl F H F1 H1) (b : Gr K Dl F1 H1 F2 H2) : Gr K Dl F H F2 H2 := ⟨a.ff.trans b.ff, fun n h r => b.rep n h (a.rep n h r), fun h x => b.ext h (a.ext h x), b.nof⟩
theorem nof_ext {Dl : Addr} {F H F1 H1 : Hp} {ws : List V} (hf : F Dl = none) (hd : H Dl = some (.lst ws)) (e : Ext F H F1 H1) : F1 Dl = none := by
  cases q : F1 Dl with
  | none => rfl
  | some o =>
    have := e.nw Dl o q hf
    rw [hd] at this
    cases this
theorem Gr.of {Dl : Addr} {F H F1 H1 : Hp} {ws : List V} (hf : F Dl = none) (hd : H Dl = some (.lst ws)) (e : Ext F H F1 H1) : Gr K Dl F H F1 H1 := ⟨e.ff, fun _ _ r => r.ext e, fun _ x => x.trans e, nof_ext hf hd e⟩
theorem Gr.put {Dl : Addr} {F H : Hp} {ws vs : List V} (hf : F Dl = none) (hd : H Dl = some (.lst ws)) : Gr K Dl F H F (upd H Dl (.lst vs)) :=
  ⟨Ex.refl F, fun n h r => r.mut n hf h hd noTab_lst, fun h x => ⟨x.ff, x.hh.mut h, fun a o q => by
    rw [upd_ne (ne_of_none q hf)]
    exact x.fh a o q, x.tb.mut hd noTab_lst, x.nw⟩, hf⟩
/-- what adds at most n things to a list -/
def AcOk (K : PySem.W.Frag) (ta : TAc) (wa : Nat → G → (List D → Prop) → Prop) : Prop :=
  ∀ n Γ Pd, wa n Γ Pd → ∀ F0 H0 F H σ, Rep K F0 H0 F H σ Γ → ∀ Dl ws zs, F Dl = none → H0 Dl = none → H Dl = some (.lst ws) → RA K F ws zs → zs.length + n ≤ 100000 →
    ∀ Nx : Hp → Prop, (∀ F' H' ws' ys, Gr K Dl F H F' H' → H' Dl = some (.lst ws') → RA K F' ws' (zs ++ ys) → Pd ys → ys.length ≤ n → Nx H') → ta Dl σ H Nx
abbrev wAppL (we : WE) : Nat → G → (List D → Prop) → Prop := fun n Γ Pd => 1 ≤ n ∧ we Γ fun d => Pd [d]
theorem a_app {te : TE} {we : WE} (he : EOk K te we) : AcOk K (tApp te) (wAppL we) := fun n Γ Pd ⟨n1, h⟩ F0 H0 F H σ r Dl ws zs hf h0 hd ra sz Nx fin =>
  he Γ _ h F0 H0 F H σ r _ fun u dy F1 H1 z e1 ru => ⟨ws, e1.hh.kp hd, sz_lt (by rw [ra.len]; omega),
    fin F1 (upd H1 Dl (.lst (ws ++ [u]))) (ws ++ [u]) [dy] ((Gr.of hf hd e1).trans (Gr.put (nof_ext hf hd e1) (e1.hh.kp hd))) upd_same ((ra.mono e1.ff).snoc ru) z n1⟩
theorem turns_ok {J : It} {g : TG} {tt : TT} {ta : TAc} {vs js : List Nat} {wg : WG} {wt : WT} {wa : Nat → G → (List D → Prop) → Prop} (hg : GOk K g wg js) (ht : TOk K tt wt) (ha : AcOk K ta wa) (hj : ∀ j ∈ js, j ∈ vs)
    {xs : List D} {FB : Hp} (hit : IsIt K FB J xs) {Γ : G} {F0 H0 F H : Hp} {σ : L2.St} {Dl : Addr} {ws : List V} {zs : List D} (fx : Ex FB F) (rp : ∀ {F' H' : Hp}, Gr K Dl F H F' H' → Rep K F0 H0 F' H' (wipe σ vs) (wipeG Γ vs))
    (hf : F Dl = none) (h0 : H0 Dl = none) (hd : H Dl = some (.lst ws)) (ra : RA K F ws zs) {n b : Nat} {c : Nat → Bool} {Pd : Nat → List D → Prop} (lb : xs.length * b ≤ n) (sz : zs.length + n ≤ 100000)
    (turn : ∀ k x, xs[k]? = some x → wg x (wipeG Γ vs) fun Γ2 => wt Γ2 fun bb => bb = c k ∧ (bb = true → wa b Γ2 (Pd k))) {Q : Hp → Prop}
    (fin : ∀ F' H' ws' (zss : List (List D)), Gr K Dl F H F' H' → H' Dl = some (.lst ws') → RA K F' ws' (zs ++ zss.flatten) → zss.length = xs.length → (∀ k ys, zss[k]? = some ys → if c k = true then Pd k ys else ys = []) → zss.flatten.length ≤ n → Q H') :
    tTurns J g tt (ta Dl) vs σ H Q := by
  obtain ⟨Gd, Y, wk, good, yld⟩ := hit
  refine ⟨fun i m H' => m = xs.length - i ∧ i ≤ xs.length ∧ ∃ F' ws', ∃ zss : List (List D), Gr K Dl F H F' H' ∧ H' Dl = some (.lst ws') ∧ RA K F' ws' (zs ++ zss.flatten) ∧ zss.length = i ∧ (∀ k ys, zss[k]? = some ys → if c k = true then Pd k ys else ys = []) ∧ zss.flatten.length ≤ i * b,
    ⟨xs.length, by simp, Nat.zero_le _, F, ws, [], Gr.refl hf, hd, by rw [List.flatten_nil, List.append_nil]; exact ra, rfl, fun k ys h => by simp at h, Nat.zero_le _⟩, ?_⟩
  rintro i m H' ⟨rfl, hile, F', ws', zss, gr, hd', ra', zl, zp, zn⟩
  have r' := rp gr
  have gd := good F' H' (fx.trans gr.ff) r'.fh
  by_cases lt : i < xs.length
  · have step : (i + 1) * b ≤ xs.length * b := Nat.mul_le_mul_right b lt
    have step2 : (i + 1) * b = i * b + b := Nat.succ_mul i b
    refine .inr ⟨wk.goes i H' lt gd, fun H2 => i + 1 ≤ xs.length ∧ ∃ F' ws', ∃ zss : List (List D), Gr K Dl F H F' H2 ∧ H2 Dl = some (.lst ws') ∧ RA K F' ws' (zs ++ zss.flatten) ∧ zss.length = i + 1 ∧ (∀ k ys, zss[k]? = some ys → if c k = true then Pd k ys else ys = []) ∧ zss.flatten.length ≤ (i + 1) * b, fun H2 q => ⟨_, by omega, rfl, q.1, q.2⟩, fun v H2 y => ?_⟩
    obtain ⟨F2, d, hx, e2, rv⟩ := yld i F' H' v H2 lt (fx.trans gr.ff) r'.fh (wk.yields i H' v H2 lt gd y)
    refine hg d _ _ (turn i d hx) F0 H0 F2 H2 _ v (r'.ext e2) rv _ fun Γ3 σ3 F3 H3 z3 r3 e3 w3 => ⟨by rw [w3 vs hj]; exact wipe_twice σ vs, ?_⟩
    refine ht Γ3 _ z3 F0 H0 F3 H3 σ3 r3 _ fun bb F4 H4 zt et => ?_
    obtain ⟨hb, z4⟩ := zt
    have e24 := (e2.trans e3).trans et
    have f4 := nof_ext gr.nof hd' e24
    have d4 := e24.hh.kp hd'
    have g4 := gr.trans (Gr.of gr.nof hd' e24)
    have at' : ∀ ys : List D, (if c i = true then Pd i ys else ys = []) → ∀ k us, (zss ++ [ys])[k]? = some us → if c k = true then Pd k us else us = [] := fun ys hy k us h => by
      rw [List.getElem?_append] at h
      split at h
      · exact zp k us h
      · rename_i hk
        have : k = zss.length := by
          have := (List.getElem?_eq_some_iff.mp h).1
          simp at this
          omega
        subst this
        simp at h
        subst h
        rw [zl]
        exact hy
    refine ⟨fun eb => ?_, fun eb => ?_⟩
    · subst eb
      refine ha b Γ3 _ (z4 rfl) F0 H0 F4 H4 σ3 (r3.ext et) Dl ws' (zs ++ zss.flatten) f4 h0 d4 (ra'.mono e24.ff) (by rw [List.length_append]; omega) _ fun F5 H5 ws5 ys g5 hd5 ra5 pd ly => ?_
      refine ⟨by omega, F5, ws5, zss ++ [ys], g4.trans g5, hd5, ?_, by rw [List.length_append, zl]; rfl, at' ys (by rw [← hb, if_pos rfl]; exact pd), ?_⟩
      · rw [List.flatten_append, List.flatten_singleton, ← List.append_assoc]
        exact ra5
      · rw [List.flatten_append, List.flatten_singleton, List.length_append]
        omega
    · subst eb
      refine ⟨by omega, F4, ws', zss ++ [[]], g4, d4, ?_, by rw [List.length_append, zl]; rfl, at' [] (by rw [← hb, if_neg (by decide)]), ?_⟩
      · rw [List.flatten_append, List.flatten_singleton, List.append_nil]
        exact ra'.mono e24.ff
      · rw [List.flatten_append, List.flatten_singleton, List.append_nil]
        omega
  · have ei : i = xs.length := by omega
    subst ei
    exact .inl ⟨wk.stops H' gd, fin F' H' ws' zss gr hd' ra' zl zp (by omega)⟩
abbrev wCl (it : WA) (g : WG) (t : WT) (wa : Nat → G → (List D → Prop) → Prop) (vs : List Nat) : Nat → G → (List D → Prop) → Prop := fun n Γ Pd => it Γ fun xs => noOwn (wipeG Γ vs) = true ∧ ∃ (b : Nat) (c : Nat → Bool) (P1 : Nat → List D → Prop), xs.length * b ≤ n ∧
  (∀ k x, xs[k]? = some x → g x (wipeG Γ vs) fun Γ2 => t Γ2 fun bb => bb = c k ∧ (bb = true → wa b Γ2 (P1 k))) ∧
  ∀ zss : List (List D), zss.length = xs.length → (∀ k ys, zss[k]? = some ys → if c k = true then P1 k ys else ys = []) → Pd zss.flatten
theorem a_cl {wi : TI} {g : TG} {tt : TT} {ta : TAc} {vs js : List Nat} {wit : WA} {wg : WG} {wt : WT} {wa : Nat → G → (List D → Prop) → Prop} (hi : IOk K wi wit) (hg : GOk K g wg js) (ht : TOk K tt wt) (ha : AcOk K ta wa) (hj : ∀ j ∈ js, j ∈ vs := by decide) :
    AcOk K (tCl wi g tt ta vs) (wCl wit wg wt wa vs) := fun n Γ Pd h F0 H0 F H σ r Dl ws zs hf h0 hd ra sz Nx fin =>
  hi Γ _ h F0 H0 F H σ r _ fun J xs F1 H1 z e1 hit => by
    obtain ⟨no, b, c, P1, lb, turn, out⟩ := z
    have g1 := Gr.of (K := K) hf hd e1
    exact turns_ok hg ht ha hj hit (Ex.refl F1) (fun gr => gr.rep no h0 ((r.ext e1).wipe vs)) g1.nof h0 (e1.hh.kp hd) (ra.mono e1.ff) lb sz turn fun F' H' ws' zss gr hd' ra' zl zp zn => fin F' H' ws' _ (g1.trans gr) hd' ra' (out zss zl zp) zn
abbrev wLcN (it : WA) (g : WG) (t : WT) (wa : Nat → G → (List D → Prop) → Prop) (vs : List Nat) : WA := fun Γ Q => it Γ fun xs => ∃ (b : Nat) (c : Nat → Bool) (P1 : Nat → List D → Prop), xs.length * b ≤ 100000 ∧
  (∀ k x, xs[k]? = some x → g x (wipeG Γ vs) fun Γ2 => t Γ2 fun bb => bb = c k ∧ (bb = true → wa b Γ2 (P1 k))) ∧
  ∀ zss : List (List D), zss.length = xs.length → (∀ k ys, zss[k]? = some ys → if c k = true then P1 k ys else ys = []) → Q zss.flatten
theorem f_lcN {wi : TI} {g : TG} {tt : TT} {ta : TAc} {vs js : List Nat} {wit : WA} {wg : WG} {wt : WT} {wa : Nat → G → (List D → Prop) → Prop} (hi : IOk K wi wit) (hg : GOk K g wg js) (ht : TOk K tt wt) (ha : AcOk K ta wa) (hj : ∀ j ∈ js, j ∈ vs := by decide) :
    FOk K (tLcN wi g tt ta vs) (wLcN wit wg wt wa vs) := fun Γ Q hq F0 H0 F H σ r QV w =>
  hi Γ _ hq F0 H0 F H σ r _ fun J xs F1 H1 z e1 hit => by
    obtain ⟨b, c, P1, lb, turn, out⟩ := z
    intro Dl hD
    have r1 := r.ext e1
    have hf := fresh_back e1.fh hD
    have x0 : Ext F1 H1 F1 (upd H1 Dl (.lst [])) := Ext.heap e1.fh (Ex.new hD)
    refine turns_ok (zs := []) hg ht ha hj hit (Ex.refl F1) (fun gr => (r1.wipe vs).ext (gr.ext hD x0)) hf (ExT.back r1.h0 hD) upd_same .nil lb (by show 0 + 100000 ≤ 100000; decide) turn fun F' H' ws' zss gr hd' ra' zl zp zn => ?_
    exact w Dl ws' _ F' H' (out zss zl zp) (e1.trans (gr.ext hD x0)) (ExT.back e1.hh hD) gr.nof hd' ra'
end
end DL
namespace DL
open PySem PySem.Spec PyProof.Rows L2 Evl Lay ErrX LCN
section
variable {K : PySem.W.Frag}
theorem noOwn_put {k : Nat} {x : D} : ∀ {Γ : G} {k : Nat}, noOwn Γ = true → noOwn (put Γ k (.d x)) = true
  | [], _, h => h
  | .u :: Γ, 0, h => h
  | .d _ :: Γ, 0, h => h
  | .u :: Γ, k + 1, h => noOwn_put (k := k) (Γ := Γ) h
  | .d _ :: Γ, k + 1, h => noOwn_put (k := k) (Γ := Γ) h
theorem put_nth : ∀ {Γ : G} {k : Nat}, put Γ k (nth Γ k) = Γ
  | [], _ => rfl
  | _ :: _, 0 => rfl
  | x :: r, k + 1 => by
    show x :: put r k (nth r k) = x :: r
    rw [put_nth]
/-- at p a list of the lists at rs -/
structure LoL (K : PySem.W.Frag) (H0 F H : Hp) (p : Addr) (rs : List Addr) (xss : List (List D)) : Prop where
  hp : H p = some (.lst (rs.map V.ref))
  fp : F p = none
  h0 : H0 p = none
  len : rs.length = xss.length
  nd : (p :: rs).Nodup
  each : ∀ (j : Nat) (r : Addr), rs[j]? = some r → F r = none ∧ H0 r = none ∧ ∃ vs xs, H r = some (.lst vs) ∧ xss[j]? = some xs ∧ RA K F vs xs
variable {H0 F H F1 H1 : Hp} {p : Addr} {rs : List Addr} {xss : List (List D)}
theorem LoL.ext (l : LoL K H0 F H p rs xss) (e : Ext F H F1 H1) : LoL K H0 F1 H1 p rs xss := by
  refine ⟨e.hh.kp l.hp, nof_ext l.fp l.hp e, l.h0, l.len, l.nd, fun j r hr => ?_⟩
  obtain ⟨a, b, vs, xs, c, d, f⟩ := l.each j r hr
  exact ⟨nof_ext a c e, b, vs, xs, e.hh.kp c, d, f.mono e.ff⟩
theorem LoL.put {q : Nat} {r : Addr} {vs : List V} {v : V} {xs : List D} {x : D} (l : LoL K H0 F H p rs xss) (hr : rs[q]? = some r) (hv : H r = some (.lst vs)) (hx : xss[q]? = some xs) (ra : RA K F vs xs) (rv : R K F v x) : LoL K H0 F (upd H r (.lst (vs ++ [v]))) p rs (xss.set q (xs ++ [x])) := by
  have nd := l.nd
  rw [List.nodup_cons] at nd
  have ql := (List.getElem?_eq_some_iff.mp hr).1
  have np : p ≠ r := fun e => nd.1 (e ▸ List.mem_of_getElem? hr)
  refine ⟨by rw [upd_ne np]; exact l.hp, l.fp, l.h0, by rw [List.length_set]; exact l.len, l.nd, fun j r' hj => ?_⟩
  obtain ⟨a, b, ws, ys, c, d, f⟩ := l.each j r' hj
  by_cases e : q = j
  · subst e
    rw [hr] at hj
    cases hj
    rw [hx] at d
    cases d
    exact ⟨a, b, _, _, upd_same, by rw [List.getElem?_set_self (by rw [← l.len]; exact ql)], ra.snoc rv⟩
  · have jl := (List.getElem?_eq_some_iff.mp hj).1
    have ne : r' ≠ r := fun e2 => by
      subst e2
      have := (List.getElem_inj (h₀ := ql) (h₁ := jl) nd.2).mp (by rw [(List.getElem?_eq_some_iff.mp hr).2, (List.getElem?_eq_some_iff.mp hj).2])
      exact e this
    exact ⟨a, b, ws, ys, by rw [upd_ne ne]; exact c, by rw [List.getElem?_set_ne e]; exact d, f⟩
/-- what is told when it is handed back -/
def told (F H : Hp) (p : Addr) (rs : List Addr) : Hp := fun a => open Classical in if a = p ∨ a ∈ rs then H a else F a
theorem LoL.fin {F0 : Hp} {σ : L2.St} {Γ : G} (l : LoL K H0 F H p rs xss) (rp : Rep K F0 H0 F H σ Γ) : Ext F0 H0 (told F H p rs) H ∧ R K (told F H p rs) (.ref p) (.l (xss.map D.l)) := by
  have ff : Ex F (told F H p rs) := fun a o h => by
    unfold told
    rw [if_neg]
    · exact h
    · rintro (e | e)
      · subst e
        rw [l.fp] at h
        cases h
      · obtain ⟨j, hj⟩ := List.getElem?_of_mem e
        rw [(l.each j a hj).1] at h
        cases h
  refine ⟨⟨rp.f0.trans ff, rp.h0, fun a o h => ?_, rp.tb, fun a o h n => ?_⟩, .l (vs := rs.map V.ref) ?_ ?_⟩
  · unfold told at h
    split at h
    · exact h
    · exact rp.fh a o h
  · unfold told at h
    split at h
    · rename_i z
      rcases z with e | e
      · subst e
        exact l.h0
      · obtain ⟨j, hj⟩ := List.getElem?_of_mem e
        exact (l.each j a hj).2.1
    · exact rp.nw a o h n
  · unfold told
    rw [if_pos (.inl rfl)]
    exact l.hp
  · have all : ∀ (j : Nat), ∀ rs' xss', rs' = rs.drop j → xss' = xss.drop j → RA K (told F H p rs) (rs'.map V.ref) (xss'.map D.l) := fun j rs' => by
      induction rs' generalizing j with
      | nil =>
        intro xss' e1 e2
        have : rs.length ≤ j := by
          have := congrArg List.length e1
          rw [List.length_drop] at this
          simp at this
          omega
        rw [e2, List.drop_eq_nil_of_le (by rw [← l.len]; exact this)]
        exact .nil
      | cons r rs' ih =>
        intro xss' e1 e2
        have hj : rs[j]? = some r := by
          have := congrArg (fun l => l[0]?) e1
          simp at this
          exact this.symm
        obtain ⟨_, _, vs, xs, c, d, f⟩ := l.each j r hj
        have e3 : xss' = xs :: xss.drop (j + 1) := by
          rw [e2]
          obtain ⟨h1, h2⟩ := List.getElem?_eq_some_iff.mp d
          rw [List.drop_eq_getElem_cons h1, h2]
        have e4 : rs' = rs.drop (j + 1) := by
          have := congrArg List.tail e1
          rw [List.tail_drop] at this
          exact this
        rw [e3]
        refine .cons (.l (vs := vs) ?_ (f.mono ff)) (ih (j + 1) _ e4 rfl)
        unfold told
        rw [if_pos (.inr (List.mem_of_getElem? hj))]
        exact c
    exact all 0 rs xss rfl rfl
/-- fs = [[] for ..]; for x in ..: a = e1; if t: b = e2; for m in ..: fs[m].append(e3); and fs handed back -/
abbrev wCopies (it0 it1 it2 : WA) (f x a b m : Nat) (w1 : WE) (wt : WT) (w2 w3 : WE) : WS := fun P Γ => (noOwn Γ = true ∧ nth Γ f = .u ∧ f < Γ.length) ∧ it0 Γ fun xs0 => xs0.length ≤ 100000 ∧ ∃ I : Nat → List (List D) → G → Prop,
  it1 Γ fun xs1 => I 0 (List.replicate xs0.length []) Γ ∧
    (∀ k d xss Γ', xs1[k]? = some d → I k xss Γ' → w1 (put Γ' x (.d d)) fun d1 => wt (put (put Γ' x (.d d)) a (.d d1)) fun bb =>
      (bb = true → w2 (put (put Γ' x (.d d)) a (.d d1)) fun d2 => it2 (put (put (put Γ' x (.d d)) a (.d d1)) b (.d d2)) fun xs2 => ∃ J : Nat → List (List D) → G → Prop, J 0 xss (put (put (put Γ' x (.d d)) a (.d d1)) b (.d d2)) ∧
        (∀ j y xss' Γ4, xs2[j]? = some y → J j xss' Γ4 → ∃ q : Nat, y = .i (q : Int) ∧ ∃ xs, xss'[q]? = some xs ∧ xs.length < 100000 ∧ m < Γ4.length ∧ w3 (put Γ4 m (.d y)) fun d3 => J (j + 1) (xss'.set q (xs ++ [d3])) (put Γ4 m (.d y))) ∧
        ∀ xss' Γ4, J xs2.length xss' Γ4 → I (k + 1) xss' Γ4) ∧
      (bb = false → I (k + 1) xss (put (put Γ' x (.d d)) a (.d d1)))) ∧
    ∀ xss Γ', I xs1.length xss Γ' → P.rt (.l (xss.map D.l))
theorem s_copies {wi0 wi1 wi2 : TI} {g0 : TG} {te1 te2 te3 : TE} {tt : TT} {vs js : List Nat} {it0 it1 it2 : WA} {wg0 : WG} {f x a b m : Nat} {w1 w2 w3 : WE} {wt : WT} (h0 : IOk K wi0 it0) (hg0 : GOk K g0 wg0 js) (h1 : IOk K wi1 it1) (e1 : EOk K te1 w1) (ht : TOk K tt wt) (e2 : EOk K te2 w2) (h2 : IOk K wi2 it2) (e3 : EOk K te3 w3)
    (gj : ∀ d Γ, wg0 d Γ fun _ => True) (hj : ∀ j ∈ js, j ∈ vs := by decide) (fx : f ≠ x := by decide) (fa : f ≠ a := by decide) (fb : f ≠ b := by decide) (fm : f ≠ m := by decide) :
    SOk K (tSeq (tAsg (tLc wi0 g0 tYes (tLst tNil) vs) (gName f)) (tSeq (tFor wi1 (gName x) (tSeq (tAsg te1 (gName a)) (tIfS tt (tSeq (tAsg te2 (gName b)) (tFor wi2 (gName m) (tDrop (tBM K "list" rAppend (tOp (rIxL K) (tVar f) (tVar m)) (tCons te3 tNil))))) tNext))) (tRet (tVar f))))
      (wCopies it0 it1 it2 f x a b m w1 wt w2 w3) := fun P Γ hq F0 H0 F H σ r E w => by
  obtain ⟨⟨no, nu, fl⟩, hq⟩ := hq
  have fin : ∀ {F1 H1 : Hp} {p : Addr} {rs : List Addr}, (∃ I : Nat → List (List D) → G → Prop,
      it1 Γ fun xs1 => I 0 (List.replicate rs.length []) Γ ∧
        (∀ k d xss Γ', xs1[k]? = some d → I k xss Γ' → w1 (DL.put Γ' x (.d d)) fun d1 => wt (DL.put (DL.put Γ' x (.d d)) a (.d d1)) fun bb =>
          (bb = true → w2 (DL.put (DL.put Γ' x (.d d)) a (.d d1)) fun d2 => it2 (DL.put (DL.put (DL.put Γ' x (.d d)) a (.d d1)) b (.d d2)) fun xs2 => ∃ J : Nat → List (List D) → G → Prop, J 0 xss (DL.put (DL.put (DL.put Γ' x (.d d)) a (.d d1)) b (.d d2)) ∧
            (∀ j y xss' Γ4, xs2[j]? = some y → J j xss' Γ4 → ∃ q : Nat, y = .i (q : Int) ∧ ∃ xs, xss'[q]? = some xs ∧ xs.length < 100000 ∧ m < Γ4.length ∧ w3 (DL.put Γ4 m (.d y)) fun d3 => J (j + 1) (xss'.set q (xs ++ [d3])) (DL.put Γ4 m (.d y))) ∧
            ∀ xss' Γ4, J xs2.length xss' Γ4 → I (k + 1) xss' Γ4) ∧
          (bb = false → I (k + 1) xss (DL.put (DL.put Γ' x (.d d)) a (.d d1)))) ∧
        ∀ xss Γ', I xs1.length xss Γ' → P.rt (.l (xss.map D.l))) → Rep K F0 H0 F1 H1 (σ.set f (some (.ref p))) Γ → LoL K H0 F1 H1 p rs (List.replicate rs.length []) →
      tSeq (tFor wi1 (gName x) (tSeq (tAsg te1 (gName a)) (tIfS tt (tSeq (tAsg te2 (gName b)) (tFor wi2 (gName m) (tDrop (tBM K "list" rAppend (tOp (rIxL K) (tVar f) (tVar m)) (tCons te3 tNil))))) tNext))) (tRet (tVar f)) E (σ.set f (some (.ref p))) H1 := by
    rintro F1 H1 p rs ⟨I, hI⟩ r1 l1
    have fσ : (σ.set f (some (V.ref p)))[f]? = some (some (.ref p)) := List.getElem?_set_self (by rw [r.len]; exact fl)
    generalize σ.set f (some (V.ref p)) = σ1 at r1 fσ ⊢
    refine h1 Γ _ hI F0 H0 F1 H1 σ1 r1 _ fun J xs1 F2 H2 z e12 hit => ?_
    obtain ⟨i0, turn, out⟩ := z
    obtain ⟨Gd, Y, wk, good, yld⟩ := hit
    refine for_it wk (fun k σ' H' => ∃ xss Γ' F', I k xss Γ' ∧ Rep K F0 H0 F' H' σ' Γ' ∧ Ex F2 F' ∧ LoL K H0 F' H' p rs xss ∧ noOwn Γ' = true ∧ σ'[f]? = some (some (.ref p))) ⟨_, Γ, F2, i0, r1.ext e12, Ex.refl F2, l1.ext e12, no, fσ⟩
      (fun k σ' H' _ ⟨xss, Γ', F', _, r', x', _⟩ => good F' H' x' r'.fh) (fun k v σ' H' H3 lt ⟨xss, Γ', F', i, r', x', l', no', f'⟩ y => ?_) fun σ' H' ⟨xss, Γ', F', i, r', x', l', no', f'⟩ => ?_
    · obtain ⟨F3, d, hd, e23, rv⟩ := yld k F' H' v H3 lt x' r'.fh y
      have ra := (r'.ext e23).set (k := x) rv
      have la := l'.ext e23
      have fa1 : (σ'.set x (some v))[f]? = some (some (.ref p)) := by rw [List.getElem?_set_ne (Ne.symm fx)]; exact f'
      have na : noOwn (DL.put Γ' x (.d d)) = true := noOwn_put (k := x) (Γ := Γ') no'
      show tAsg te1 (gName a) _ _ _
      refine e1 _ _ (turn k d xss Γ' hd i) F0 H0 F3 H3 _ ra _ fun v1 d1 F4 H4 z4 e34 rv1 => ?_
      have rb := (ra.ext e34).set (k := a) rv1
      have lb := la.ext e34
      have fb1 : ((σ'.set x (some v)).set a (some v1))[f]? = some (some (.ref p)) := by rw [List.getElem?_set_ne (Ne.symm fa)]; exact fa1
      have nb : noOwn (DL.put (DL.put Γ' x (.d d)) a (.d d1)) = true := noOwn_put (k := a) (Γ := DL.put Γ' x (.d d)) na
      have xb := ((x'.trans e23.ff).trans e34.ff)
      generalize DL.put (DL.put Γ' x (.d d)) a (.d d1) = Γb at z4 rb nb
      show tIfS tt _ _ _ ((σ'.set x (some v)).set a (some v1)) H4
      generalize (σ'.set x (some v)).set a (some v1) = σb at rb fb1 ⊢
      refine ht Γb _ z4 F0 H0 F4 H4 σb rb _ fun bb F5 H5 z5 e45 => ?_
      cases bb with
      | false =>
        show ∃ xss Γ' F', _
        exact ⟨xss, Γb, F5, z5.2 rfl, rb.ext e45, xb.trans e45.ff, lb.ext e45, nb, fb1⟩
      | true =>
        show tAsg te2 (gName b) _ _ _
        refine e2 _ _ (z5.1 rfl) F0 H0 F5 H5 σb (rb.ext e45) _ fun v2 d2 F6 H6 z6 e56 rv2 => ?_
        have rc := ((rb.ext e45).ext e56).set (k := b) rv2
        have lc := (lb.ext e45).ext e56
        have fc1 : (σb.set b (some v2))[f]? = some (some (.ref p)) := by rw [List.getElem?_set_ne (Ne.symm fb)]; exact fb1
        have nc : noOwn (DL.put Γb b (.d d2)) = true := noOwn_put (k := b) (Γ := Γb) nb
        have xc := (xb.trans e45.ff).trans e56.ff
        generalize DL.put Γb b (.d d2) = Γc at z6 rc nc
        show tFor wi2 (gName m) _ _ (σb.set b (some v2)) H6
        generalize σb.set b (some v2) = σc at rc fc1 ⊢
        refine h2 Γc _ z6 F0 H0 F6 H6 σc rc _ fun J2 xs2 F7 H7 z7 e67 hit2 => ?_
        obtain ⟨Jp, j0, turn2, out2⟩ := z7
        obtain ⟨Gd2, Y2, wk2, good2, yld2⟩ := hit2
        refine for_it wk2 (fun j σ' H' => ∃ xss Γ' F', Jp j xss Γ' ∧ Rep K F0 H0 F' H' σ' Γ' ∧ Ex F7 F' ∧ LoL K H0 F' H' p rs xss ∧ noOwn Γ' = true ∧ σ'[f]? = some (some (.ref p))) ⟨_, Γc, F7, j0, rc.ext e67, Ex.refl F7, lc.ext e67, nc, fc1⟩
          (fun k σ' H' _ ⟨xss, Γ', F', _, r', x', _⟩ => good2 F' H' x' r'.fh) (fun j v3 σd H8 H9 lt2 ⟨xss3, Γd, F8, ij, rd, xd, ld, nd, fd⟩ y2 => ?_) fun σd H8 ⟨xss3, Γd, F8, ij, rd, xd, ld, nd, fd⟩ => ?_
        · obtain ⟨F9, d3, hd3, e89, rv3⟩ := yld2 j F8 H8 v3 H9 lt2 xd rd.fh y2
          obtain ⟨q, rfl, xs, hxs, xsl, ml, z9⟩ := turn2 j d3 xss3 Γd hd3 ij
          cases rv3
          have re := (rd.ext e89).set (k := m) (R.i (q : Int))
          have le := ld.ext e89
          have fe : (σd.set m (some (.int (q : Int))))[f]? = some (some (.ref p)) := by rw [List.getElem?_set_ne (Ne.symm fm)]; exact fd
          have me : (σd.set m (some (V.int (q : Int))))[m]? = some (some (.int (q : Int))) := List.getElem?_set_self (by rw [rd.len]; exact ml)
          have ne : noOwn (DL.put Γd m (.d (.i (q : Int)))) = true := noOwn_put (k := m) (Γ := Γd) nd
          generalize DL.put Γd m (.d (.i (q : Int))) = Γe at z9 re ne
          show tDrop _ _ (σd.set m (some (V.int (q : Int)))) H9
          generalize σd.set m (some (V.int (q : Int))) = σe at re fe me ⊢
          have ql : q < rs.length := by
            rw [le.len]
            exact (List.getElem?_eq_some_iff.mp hxs).1
          have hr : rs[q]? = some rs[q] := List.getElem?_eq_getElem ql
          obtain ⟨g1, g2, ws, xs', g3, g4, g5⟩ := le.each q _ hr
          rw [hxs] at g4
          cases g4
          refine ⟨.ref p, fe, .int (q : Int), me, p, rs.map V.ref, (q : Int), .ref rs[q], rfl, rfl, sq_of le.hp, L2.atI_nat (by rw [List.getElem?_map, hr]; rfl), ?_⟩
          refine ⟨.inl ⟨rfl, ws, sq_of g3⟩, ?_⟩
          refine e3 Γe _ z9 F0 H0 F9 H9 σe re _ fun v4 d4 F10 H10 z10 e910 rv4 => ?_
          have g3' := e910.hh.kp g3
          have lf := le.ext e910
          refine ⟨rs[q], ws, v4, rfl, rfl, g3', sz_lt (by rw [g5.len]; exact xsl), ?_⟩
          exact ⟨_, Γe, F10, z10, (re.ext e910).mut ne (lf.each q _ hr).1 g2 g3' noTab_lst, (xd.trans e89.ff).trans e910.ff, lf.put hr g3' hxs (g5.mono e910.ff) rv4, ne, fe⟩
        · show ∃ xss Γ' F', _
          exact ⟨xss3, Γd, F8, out2 xss3 Γd ij, rd, (xc.trans e67.ff).trans xd, ld, nd, fd⟩
    · show tRet (tVar f) E σ' H'
      obtain ⟨x1, x2⟩ := l'.fin r'
      exact ⟨.ref p, f', w.rt _ _ _ _ (out xss Γ' i) x1 x2⟩
  refine h0 Γ _ hq F0 H0 F H σ r _ fun J xs0 F1 H1 z e01 hit => ?_
  obtain ⟨lx, I, hI⟩ := z
  obtain ⟨Gd, Y, wk, good, yld⟩ := hit
  intro Dl hD
  have r1 := (r.ext e01).wipe vs
  refine lc_it wk (fun k H' => ∃ F' rs, Ext F1 H1 F' H' ∧ LoL K H0 F' H' Dl rs (List.replicate rs.length []) ∧ rs.length = k) ?_ (fun k H' _ ⟨F', rs, x', _⟩ => good F' H' x'.ff x'.fh) (fun k v H' H2 lt ⟨F', rs, x', l', len⟩ y => ?_) fun H' ⟨F', rs, x', l', len⟩ => ?_
  · refine ⟨F1, [], Ext.heap e01.fh (Ex.new hD), ⟨upd_same, fresh_back e01.fh hD, ExT.back r.h0 (ExT.back e01.hh hD), rfl, by simp, fun j r hr => by simp at hr⟩, rfl⟩
  · obtain ⟨F2, d, hx, e12, rv⟩ := yld k F' H' v H2 lt x'.ff x'.fh y
    refine hg0 d (wipeG Γ vs) (fun _ => True) (gj d _) F0 H0 F2 H2 _ v (r1.ext (x'.trans e12)) rv _ fun Γ3 σ3 F3 H3 _ r3 e23 w3 => ⟨by rw [w3 vs hj]; exact wipe_twice σ vs, ?_⟩
    unfold tYes
    dsimp only
    rw [if_pos rfl]
    refine ⟨Nat.zero_le _, fun q hq => ?_⟩
    have l3 := (l'.ext e12).ext e23
    have x3 := (x'.trans e12).trans e23
    have nq : Dl ≠ q := fun e => by
      have := l3.hp
      rw [e, hq] at this
      cases this
    have nr : q ∉ rs := fun e => by
      obtain ⟨j, hj⟩ := List.getElem?_of_mem e
      obtain ⟨_, _, _, _, c, _⟩ := l3.each j q hj
      rw [hq] at c
      cases c
    have fq := fresh_back r3.fh hq
    have hD3 : (upd H3 q (.lst [])) Dl = some (.lst (rs.map V.ref)) := by rw [upd_ne nq]; exact l3.hp
    refine ⟨rs.map V.ref, hD3, sz_lt (by rw [List.length_map]; omega), F3, rs ++ [q], ?_, ⟨by rw [List.map_append]; exact upd_same, l3.fp, l3.h0, by simp, ?_, fun j r' hj => ?_⟩, by rw [List.length_append, len]; rfl⟩
    · have x4 : Ext F1 H1 F3 (upd H3 q (.lst [])) := x3.trans (Ext.heap r3.fh (Ex.new hq))
      refine ⟨x4.ff, x4.hh.mut hD, fun a o z => ?_, x4.tb.mut hD3 noTab_lst, x4.nw⟩
      rw [upd_ne (ne_of_none z l3.fp)]
      exact x4.fh a o z
    · have nd := l3.nd
      rw [List.nodup_cons] at nd ⊢
      refine ⟨fun e => ?_, ?_⟩
      · rcases List.mem_append.mp e with e | e
        · exact nd.1 e
        · exact nq (List.mem_singleton.mp e)
      · rw [List.nodup_append]
        refine ⟨nd.2, by simp, fun a ha b hb e => ?_⟩
        rw [List.mem_singleton.mp hb] at e
        subst e
        exact nr ha
    · have nd := l3.nd
      rw [List.nodup_cons] at nd
      rw [List.getElem?_append] at hj
      split at hj
      · rename_i jl
        obtain ⟨a1, a2, ws, ys, a3, a4, a5⟩ := l3.each j r' hj
        have mr := List.mem_of_getElem? hj
        refine ⟨a1, a2, ws, ys, by rw [upd_ne (show r' ≠ Dl from fun e => nd.1 (by rw [← e]; exact mr)), upd_ne (show r' ≠ q from fun e => nr (by rw [← e]; exact mr))]; exact a3, ?_, a5⟩
        rw [List.getElem?_replicate, if_pos jl] at a4
        rw [List.getElem?_replicate, if_pos (by rw [List.length_append]; omega)]
        exact a4
      · rename_i jl
        have jl2 := (List.getElem?_eq_some_iff.mp hj).1
        simp at jl2
        have ej : j - rs.length = 0 := by omega
        rw [ej] at hj
        cases hj
        refine ⟨fq, ExT.back r3.h0 hq, [], [], by rw [upd_ne (Ne.symm nq), upd_same], ?_, .nil⟩
        rw [List.getElem?_replicate, if_pos (by rw [List.length_append]; show j < rs.length + 1; omega)]
  · have r2 := (r.ext (e01.trans x')).drop (k := f) (o := some (V.ref Dl))
    rw [← nu, put_nth] at r2
    refine fin ⟨I, ?_⟩ r2 l'
    rw [len]
    exact hI
end
end DL
namespace DL
open PySem PySem.Spec PyProof.Rows L2 Evl Lay ErrX LCN
/-- S n ds Pd: given ds it adds at most n things, of which Pd is told -/
def spLend (K : PySem.W.Frag) (S : Nat → List D → (List D → Prop) → Prop) : Sp := fun vs H Q _ => ∃ (F : Hp) (vs0 : List V) (ds : List D) (Dl : Addr) (ws : List V) (zs : List D) (n : Nat) (Pd : List D → Prop),
  vs = vs0 ++ [.ref Dl] ∧ Ex F H ∧ RA K F vs0 ds ∧ F Dl = none ∧ H Dl = some (.lst ws) ∧ RA K F ws zs ∧ zs.length + n ≤ 100000 ∧ S n ds Pd ∧
  ∀ F' H' ws' ys, Gr K Dl F H F' H' → H' Dl = some (.lst ws') → RA K F' ws' (zs ++ ys) → Pd ys → ys.length ≤ n → Q .non H'
section
variable {K : PySem.W.Frag}
/-- H without what stands at p -/
def without (H : Hp) (p : Addr) : Hp := fun a => if a = p then none else H a
theorem without_ex {H : Hp} {p : Addr} : Ex (without H p) H := fun a o h => by
  unfold without at h
  split at h
  · cases h
  · exact h
theorem without_self {H : Hp} {p : Addr} : without H p p = none := by
  unfold without
  rw [if_pos rfl]
theorem rep_without {F H : Hp} {σ : L2.St} {Γ : G} {p : Addr} (r : Rep K F H F H σ Γ) : Rep K F (without H p) F H σ Γ ∨ noOwn Γ = false := by
  cases no : noOwn Γ with
  | false => exact .inr rfl
  | true => exact .inl ⟨r.f0, ExT.of without_ex, r.fh, TabG.of without_ex, fun q o h n => (by rw [n] at h; cases h), r.len, r.sl, fun k o h => (noOwn_nth no h).elim, fun k m o o' q _ h => (noOwn_nth no h).elim⟩
abbrev tLend (tt : TT) (tes : TE) (wi : TI) (g : TG) (tt2 : TT) (te0 te1 te2 : TE) (sp : Sp) : TS :=
  tSeq (tIfS tt (tSeq (tDrop (tBM K "list" rAppend (tVar 3) (tCons tes tNil))) tRetN) tNext) (tFor wi g (tIfS tt2 (tDrop (tCallD sp (tCons te0 (tCons te1 (tCons te2 (tCons (tVar 3) tNil)))))) tNext))
abbrev wLend (wt : WT) (wes : WE) (it : WA) (wg : WG) (wt2 : WT) (w0 w1 w2 : WE) (S : Nat → List D → (List D → Prop) → Prop) (n : Nat) (Γ : G) (Pd : List D → Prop) : Prop :=
  (noOwn Γ = true ∧ nth Γ 3 = .u) ∧ wt Γ fun b => (b = true → 1 ≤ n ∧ wes Γ fun d => Pd [d]) ∧ (b = false → it Γ fun xs => ∃ (I : G → Prop) (c : Nat → Bool) (P1 : Nat → List D → Prop) (bd : Nat), I Γ ∧ xs.length * bd ≤ n ∧
    (∀ k x Γ', xs[k]? = some x → I Γ' → wg x Γ' fun Γ2 => (I Γ2 ∧ noOwn Γ2 = true) ∧ wt2 Γ2 fun bb => bb = c k ∧ (bb = true → w0 Γ2 fun d0 => w1 Γ2 fun d1 => w2 Γ2 fun d2 => S bd [d0, d1, d2] (P1 k))) ∧
    ∀ zss : List (List D), zss.length = xs.length → (∀ k ys, zss[k]? = some ys → if c k = true then P1 k ys else ys = []) → Pd zss.flatten)
theorem lend_run {tt tt2 : TT} {tes te0 te1 te2 : TE} {wi : TI} {g : TG} {js : List Nat} {wt wt2 : WT} {wes w0 w1 w2 : WE} {it : WA} {wg : WG} {S : Nat → List D → (List D → Prop) → Prop} (ht : TOk K tt wt) (hes : EOk K tes wes) (hi : IOk K wi it) (hg : GOk K g wg js) (ht2 : TOk K tt2 wt2) (h0 : EOk K te0 w0) (h1 : EOk K te1 w1) (h2 : EOk K te2 w2) (hj : 3 ∉ js)
    {F H : Hp} {σ : L2.St} {Γ : G} {Dl : Addr} {ws : List V} {zs : List D} {n : Nat} {Pd : List D → Prop} (r : Rep K F H F H σ Γ) (f3 : σ[3]? = some (some (.ref Dl))) (fd : F Dl = none) (hd : H Dl = some (.lst ws)) (ra : RA K F ws zs) (sz : zs.length + n ≤ 100000) (h : wLend wt wes it wg wt2 w0 w1 w2 S n Γ Pd)
    {Q : VK} (fin : ∀ F' H' ws' ys, Gr K Dl F H F' H' → H' Dl = some (.lst ws') → RA K F' ws' (zs ++ ys) → Pd ys → ys.length ≤ n → Q .non H') :
    tLend (K := K) tt tes wi g tt2 te0 te1 te2 (spLend K S) { nx := fun _ H' => Q .non H', rt := Q } σ H := by
  obtain ⟨⟨no, nu⟩, h⟩ := h
  have r0 : Rep K F (without H Dl) F H σ Γ := by
    rcases rep_without (p := Dl) r with z | z
    · exact z
    · rw [no] at z
      cases z
  have hw : (without H Dl) Dl = none := without_self
  show tIfS tt _ _ _ _ _
  refine ht Γ _ h F (without H Dl) F H σ r0 _ fun b F1 H1 z e1 => ?_
  have d1 := e1.hh.kp hd
  have f1 := nof_ext fd hd e1
  have g1 : Gr K Dl F H F1 H1 := Gr.of fd hd e1
  cases b with
  | true =>
    obtain ⟨n1, z⟩ := z.1 rfl
    rw [if_pos rfl]
    refine ⟨.ref Dl, f3, .inl ⟨rfl, ws, sq_of d1⟩, ?_⟩
    refine hes Γ _ z F (without H Dl) F1 H1 σ (r0.ext e1) _ fun v d F2 H2 z2 e2 rv => ?_
    have d2 := e2.hh.kp d1
    have f2 := nof_ext f1 d1 e2
    refine ⟨Dl, ws, v, rfl, rfl, d2, sz_lt (by rw [ra.len]; omega), ?_⟩
    show Q .non _
    exact fin F2 _ (ws ++ [v]) [d] ((g1.trans (Gr.of f1 d1 e2)).trans (Gr.put f2 d2)) upd_same ((ra.mono (e1.trans e2).ff).snoc rv) z2 n1
  | false =>
    have z := z.2 rfl
    show tFor wi g _ _ σ H1
    refine hi Γ _ z F (without H Dl) F1 H1 σ (r0.ext e1) _ fun J xs F2 H2 z2 e2 hit => ?_
    obtain ⟨I, c, P1, bd, i0, lb, turn, out⟩ := z2
    obtain ⟨Gd, Y, wk, good, yld⟩ := hit
    have d2 := e2.hh.kp d1
    have f2 := nof_ext f1 d1 e2
    have g2 := g1.trans (Gr.of f1 d1 e2)
    refine for_it wk (fun k σ' H' => ∃ F' Γ' ws' zss, Ex F2 F' ∧ Gr K Dl F H F' H' ∧ Rep K F (without H Dl) F' H' σ' Γ' ∧ I Γ' ∧ noOwn Γ' = true ∧ σ'[3]? = some (some (.ref Dl)) ∧ H' Dl = some (.lst ws') ∧ RA K F' ws' (zs ++ (zss : List (List D)).flatten) ∧ zss.length = k ∧ (∀ k ys, zss[k]? = some ys → if c k = true then P1 k ys else ys = []) ∧ zss.flatten.length ≤ k * bd)
      ⟨F2, Γ, ws, [], Ex.refl F2, g2, (r0.ext e1).ext e2, i0, no, f3, d2, by rw [List.flatten_nil, List.append_nil]; exact ra.mono (e1.trans e2).ff, rfl, fun k ys h => by simp at h, Nat.zero_le _⟩
      (fun k σ' H' _ ⟨F', Γ', ws', zss, x, gr, r', _⟩ => good F' H' x r'.fh) (fun k v σ' H' H3 lt ⟨F', Γ', ws', zss, x, gr, r', ig, no', f', hd', ra', zl, zp, zn⟩ y => ?_) fun σ' H' ⟨F', Γ', ws', zss, x, gr, r', ig, no', f', hd', ra', zl, zp, zn⟩ => ?_
    · have step : (k + 1) * bd ≤ xs.length * bd := Nat.mul_le_mul_right bd lt
      have step2 : (k + 1) * bd = k * bd + bd := Nat.succ_mul k bd
      obtain ⟨F3, d, hx, e3, rv⟩ := yld k F' H' v H3 lt x r'.fh y
      refine hg d Γ' _ (turn k d Γ' hx ig) F (without H Dl) F3 H3 σ' v (r'.ext e3) rv _ fun Γ4 σ4 F4 H4 z4 r4 e4 w4 => ?_
      obtain ⟨⟨i4, n4⟩, z4⟩ := z4
      have f4 : σ4[3]? = some (some (.ref Dl)) := by
        have := w4 js fun j hj => hj
        rw [← wipe_out hj, this, wipe_out hj]
        exact f'
      show tIfS tt2 _ _ _ σ4 H4
      refine ht2 Γ4 _ z4 F (without H Dl) F4 H4 σ4 r4 _ fun bb F5 H5 z5 e5 => ?_
      obtain ⟨hb, z5⟩ := z5
      have e35 := (e3.trans e4).trans e5
      have d5 := e35.hh.kp hd'
      have f5 := nof_ext gr.nof hd' e35
      have g5 := gr.trans (Gr.of gr.nof hd' e35)
      have x5 := x.trans e35.ff
      have at' : ∀ ys : List D, (if c k = true then P1 k ys else ys = []) → ∀ i us, (zss ++ [ys])[i]? = some us → if c i = true then P1 i us else us = [] := fun ys hy i us h => by
        rw [List.getElem?_append] at h
        split at h
        · exact zp i us h
        · rename_i hk
          have : i = zss.length := by
            have := (List.getElem?_eq_some_iff.mp h).1
            simp at this
            omega
          subst this
          simp at h
          subst h
          rw [zl]
          exact hy
      cases bb with
      | false =>
        show ∃ F' Γ' ws' zss, _
        refine ⟨F5, Γ4, ws', zss ++ [[]], x5, g5, r4.ext e5, i4, n4, f4, d5, ?_, by rw [List.length_append, zl]; rfl, at' [] (by rw [← hb, if_neg (by decide)]), ?_⟩
        · rw [List.flatten_append, List.flatten_singleton, List.append_nil]
          exact ra'.mono e35.ff
        · rw [List.flatten_append, List.flatten_singleton, List.append_nil]
          omega
      | true =>
        rw [if_pos rfl]
        refine h0 Γ4 _ (z5 rfl) F (without H Dl) F5 H5 σ4 (r4.ext e5) _ fun v0 d0 F6 H6 z6 e6 rv0 => ?_
        refine h1 Γ4 _ z6 F (without H Dl) F6 H6 σ4 ((r4.ext e5).ext e6) _ fun v1 d1 F7 H7 z7 e7 rv1 => ?_
        refine h2 Γ4 _ z7 F (without H Dl) F7 H7 σ4 (((r4.ext e5).ext e6).ext e7) _ fun v2 d2 F8 H8 z8 e8 rv2 => ?_
        have r8 := (((r4.ext e5).ext e6).ext e7).ext e8
        have e58 := (e6.trans e7).trans e8
        have e38 := e35.trans e58
        have d8 := e38.hh.kp hd'
        have f8 := nof_ext gr.nof hd' e38
        have g8 := gr.trans (Gr.of gr.nof hd' e38)
        refine ⟨.ref Dl, f4, ?_⟩
        refine ⟨F8, [v0, v1, v2], [d0, d1, d2], Dl, ws', zs ++ zss.flatten, bd, P1 k, rfl, e8.fh, .cons (rv0.mono (e7.trans e8).ff) (.cons (rv1.mono e8.ff) (.cons rv2 .nil)), f8, d8, ra'.mono e38.ff, by rw [List.length_append]; omega, z8, fun F9 H9 ws9 ys g9 hd9 ra9 pd ly => ?_⟩
        show ∃ F' Γ' ws' zss, _
        refine ⟨F9, Γ4, ws9, zss ++ [ys], (x.trans e38.ff).trans g9.ff, g8.trans g9, g9.rep n4 hw r8, i4, n4, f4, hd9, ?_, by rw [List.length_append, zl]; rfl, at' ys (by rw [← hb, if_pos rfl]; exact pd), ?_⟩
        · rw [List.flatten_append, List.flatten_singleton, ← List.append_assoc]
          exact ra9
        · rw [List.flatten_append, List.flatten_singleton, List.length_append]
          omega
    · show Q .non H'
      exact fin F' H' ws' _ gr hd' ra' (out zss zl zp) (by omega)
end
end DL
namespace SrtD
open PySem PySem.Spec PyProof.Rows L2 Evl Lay ErrX DL SeqAt SrtO
section
variable {prog : Program} {w : World}
open Classical in
theorem lists_sortable {s : Sh} {A : Around} {sa : Shared} {a : Addr} {vs : List Value} {k : Value → D} (hu : A.units + 1 + s.dep < cLine) (h2 : 2 ≤ vs.length) (hp : ∀ h' : Heap, (∀ b o, b ≠ a → sa.heap.get? b = some o → h'.get? b = some o) → ∀ v ∈ vs, isS (.l s) h' v (k v)) :
    SortableO prog w A sa a vs fun v u => ltS (.l s) (k v) (k u) := by
  intro h' keep
  have hp' := hp h' keep
  refine ⟨oneType', fun Q E hq => PySem.W.kas_kind (T := .type "list") h2 (fun v hv => looks_kind (hp' v hv)) rfl rfl hq, ?_⟩
  intro p q hm hm'
  have x1 := hp' _ hm
  have x2 := hp' _ hm'
  show wpAny (model prog w) A (keyLt' oneType' p.1 q.1) (fun r s' => s' = _ ∧ r = ltS (.l s) (k p.1) (k q.1)) (fun _ _ => False) _
  obtain ⟨a1, ia, xs, e1, ha, k1, la, Ha⟩ := x1
  obtain ⟨a2, ib, ys, e2, hb, k2, lb, Hb⟩ := x2
  rw [k1, k2, e1, e2, keyLt'_oneType, oneLt'_eq]
  simp only [if_true]
  obtain ⟨o1, ho1, hc1, _⟩ := id ha
  refine wpAny_bind (wpAny_cRoomFor (by omega) ?_)
  refine wpAny_bind (wpAny_callSpecialIfBound?_slot (T := "list") ⟨_, ho1, hc1⟩ F.slot_list_lt (call_list_lt (e := fun j => decide (xs[j]? = ys[j]?)) (r := fun j => ltO (ltS s) xs[j]? ys[j]?) ha hb (fun j h1 h2 => ?_) (fun j h1 h2 _ => ?_) ?_))
  · have := eq_law s (A := A.in1) (sa := { sa with heap := h' }) (by show A.units + 1 + s.dep < cLine; omega) (Ha j h1 (by omega)) (Hb j h2 (by omega))
    rw [List.getElem?_eq_getElem (show j < xs.length by omega), List.getElem?_eq_getElem (show j < ys.length by omega)]
    exact at_dec this
  · have := lt_law s (A := A.in1) (sa := { sa with heap := h' }) (by show A.units + 1 + s.dep < cLine; omega) (Ha j h1 (by omega)) (Hb j h2 (by omega))
    rw [List.getElem?_eq_getElem (show j < xs.length by omega), List.getElem?_eq_getElem (show j < ys.length by omega)]
    exact this
  · refine wpAny_truthy_bool ⟨rfl, ?_⟩
    show _ = lexL (ltS s) xs ys
    unfold lexL
    rw [← lts, la, lb]
end
section
variable {X : Cx} {pins : List (Addr × Obj)} {σ : L2.St} {H : Hp} {sa : Shared}
def rSortL (K : PySem.W.Frag) (s : Sh) : List V → Hp → VK → Prop := fun vs H Q => ∃ (a : Addr) (Z : List (V × D)) (F : Hp), vs = [.ref a] ∧ SqL K H a (Z.map (·.1)) ∧ Ex F H ∧ (∀ z ∈ Z, R K F z.1 z.2 ∧ hasSh (.l s) z.2) ∧
  ∀ (Z' : List (V × D)) (p : Addr), Z'.Perm Z → (Z'.map (·.2)).Pairwise (fun x y => ltS (.l s) y x = false) → H p = none → Q (.ref p) (upd H p (.lst (Z'.map (·.1))))
open Classical in
theorem kx_sortL (K : PySem.W.Frag) {s : Sh} {X : Cx} (hu : X.A.units + 64 < cLine) (hd : s.dep ≤ 8 := by decide) (hK : X.K = K := by rfl) : CallR X (.builtin "sorted") (rSortL K s) := by
  subst hK
  intro pins sa σ H vs us Q I r h
  obtain ⟨a, Z, F, rfl, hl0, ex, hz, q⟩ := h
  obtain ⟨its, rv, hl, hsz⟩ := I.list hl0
  rw [Vals.ref1 r]
  have refs : ∀ x ∈ Z.map (·.1), ∃ a, x = V.ref a := fun x hx => by
    obtain ⟨z, hz', rfl⟩ := List.mem_map.mp hx
    obtain ⟨r1, ⟨xs, e, _⟩⟩ := hz z hz'
    rw [e] at r1
    generalize z.1 = v at r1
    cases r1 with
    | l st ra => exact ⟨_, rfl⟩
  obtain ⟨e1, e2⟩ := refs_back rv refs
  have kdef : ∃ kv : Value → D, (∀ v, hasSh (.l s) (kv v)) ∧ ∀ z ∈ Z, ∀ t, z.1 = .ref t → isS (.l s) sa.heap (.ref t) (kv (.ref t)) ∧ kv (.ref t) = z.2 := by
    refine ⟨fun u => if h : ∃ d, isS (.l s) sa.heap u d then Classical.choose h else .l [], fun v => ?_, fun z hz' t et => ?_⟩
    · by_cases c : ∃ d, isS (.l s) sa.heap v d
      · show hasSh (.l s) (if h : ∃ d, isS (.l s) sa.heap v d then Classical.choose h else .l [])
        rw [dif_pos c]
        exact isS_sh (Classical.choose_spec c)
      · show hasSh (.l s) (if h : ∃ d, isS (.l s) sa.heap v d then Classical.choose h else .l [])
        rw [dif_neg c]
        exact ⟨[], rfl, fun x hx => by cases hx⟩
    · obtain ⟨r1, sh⟩ := hz z hz'
      rw [et] at r1
      have x := is_of I ex (.l s) (.ref t) (.ref t) z.2 sh r1 rfl
      have c : ∃ d, isS (.l s) sa.heap (.ref t) d := ⟨_, x⟩
      show isS (.l s) sa.heap (.ref t) (if h : ∃ d, isS (.l s) sa.heap (.ref t) d then Classical.choose h else .l []) ∧ (if h : ∃ d, isS (.l s) sa.heap (.ref t) d then Classical.choose h else .l []) = z.2
      rw [dif_pos c]
      exact ⟨Classical.choose_spec c, isS_det (Classical.choose_spec c) x⟩
  obtain ⟨kv, ksh, hk⟩ := kdef
  have own : ∀ v ∈ its, isS (.l s) sa.heap v (kv v) := fun v hv => by
    obtain ⟨t, rfl⟩ := e2 v hv
    have hm : V.ref t ∈ Z.map (·.1) := by rw [e1]; exact List.mem_map.mpr ⟨_, hv, rfl⟩
    obtain ⟨z, hz', ez⟩ := List.mem_map.mp hm
    obtain ⟨k1, k2⟩ := hk z hz' t ez
    exact k1
  refine sorted_ord ((tot (.l s)).swo kv ksh) hl.isList (by rw [← rv.length]; exact hsz) (fun h2 h1 b hb kk => ?_) fun out hs1 hb => ?_
  · refine lists_sortable (by show X.A.units + 1 + 1 + 1 + s.dep < cLine; omega) (by omega) fun h' keep v hv => ?_
    exact isS_keep (own v hv) fun c o q => keep c o (kk c o q).1 (kk c o q).2
  · have h3 : ∀ u ∈ out, ∃ a, u = Value.ref a := fun u hu => e2 u (hb.perm.mem_iff.mp hu)
    have pm : (out.map backV).Perm (Z.map (·.1)) := by
      rw [e1]
      exact hb.perm.map backV
    obtain ⟨Z', q1, q2⟩ := DO.perm_lift _ pm
    have sn := sndsD (kv := kv) q2 h3 fun z hz' t et => (hk z (q1.mem_iff.mp hz') t et).2
    have pw : (Z'.map (·.2)).Pairwise (fun x y => ltS (.l s) y x = false) := by
      rw [sn, List.pairwise_map]
      exact hs1
    obtain ⟨n, hn⟩ := sortedAll_at sa.heap its out.toArray
    have len : (out.map backV).length ≤ sizeLine := by
      rw [pm.length_eq]
      exact hsz
    have rvo : Vals (Z'.map (·.1)) out := by
      rw [q2]
      exact vals_back h3
    refine ⟨.ref _, upd H (sa.heap.objs.size + 1) (.lst (Z'.map (·.1))), I.laid (t' := sa.toks) (fun _ _ => sortedAll_old) (Nat.le_succ _) ⟨by rw [q2]; exact len, out, n, rvo, by simpa using hn⟩, rfl, q Z' _ q1 pw (I.hok.fresh (Nat.le_succ _))⟩
end
section
variable {K : PySem.W.Frag}
def wSortL (s : Sh) : List D → (D → Prop) → Prop := fun xs Q => ∃ L : List D, xs = [.l L] ∧ (∀ d ∈ L, hasSh (.l s) d) ∧ ∀ L' : List D, L'.Perm L → L'.Pairwise (fun x y => ltS (.l s) y x = false) → Q (.l L')
theorem c_sortL {s : Sh} : COk K (rSortL K s) (wSortL s) := fun xs Q ⟨L, e0, hs, hq⟩ F H vs e r QV q => by
  subst e0
  obtain ⟨a, us, rfl, h, ra⟩ := DO.one_l r
  obtain ⟨Z, z1, z2, z3⟩ := ra_zip ra
  refine ⟨a, Z, F, rfl, by rw [z1]; exact sq_of (e _ _ h), e, fun z hz => ?_, fun Z' p pm pw np => ?_⟩
  · have := hs z.2 (by rw [← z2]; exact List.mem_map_of_mem hz)
    exact ⟨z3 z hz, this⟩
  · have pm2 : (Z'.map (·.2)).Perm L := z2 ▸ pm.map (·.2)
    have z3' : ∀ z ∈ Z', R K F z.1 z.2 := fun z hz => z3 z (pm.mem_iff.mp hz)
    exact q _ _ (upd F p (.lst (Z'.map (·.1)))) _ (hq (Z'.map (·.2)) pm2 pw) (Ext.new e np) (.l upd_same ((ra_unzip z3').mono (Ex.new (fresh_back e np))))
def wSortI : List D → (D → Prop) → Prop := fun xs Q => ∃ ns : List Int, xs = [.l (ns.map D.i)] ∧ ∀ ns' : List Int, ns'.Perm ns → ns'.Pairwise (· ≤ ·) → Q (.l (ns'.map D.i))
theorem ra_ints {F : Hp} : ∀ {vs : List V} {ns : List Int}, RA K F vs (ns.map D.i) → vs = ns.map V.int
  | _, [], .nil => rfl
  | _, n :: ns, .cons (.i _) r => by rw [ra_ints r]; rfl
theorem ints_ra {F : Hp} : ∀ ns : List Int, RA K F (ns.map V.int) (ns.map D.i)
  | [] => .nil
  | n :: ns => .cons (.i n) (ints_ra ns)
theorem c_sortI : COk K (rSortedI K) wSortI := fun xs Q ⟨ns, e0, hq⟩ F H vs e r QV q => by
  subst e0
  obtain ⟨a, us, rfl, h, ra⟩ := DO.one_l r
  refine ⟨a, ns, rfl, by rw [← ra_ints ra]; exact sq_of (e _ _ h), fun ns' p pm pw np => ?_⟩
  exact q _ _ (upd F p (.lst (ns'.map V.int))) _ (hq ns' pm pw) (Ext.new e np) (.l upd_same (ints_ra ns'))
theorem kx_sortI (K : PySem.W.Frag) {X : Cx} (hK : X.K = K := by rfl) : CallR X (.builtin "sorted") (rSortedI K) := by
  subst hK
  exact cr_sortedI
end
end SrtD
namespace BitP
/-- the bits of those below n that f tells -/
def bp : Nat → (Nat → Bool) → Nat
  | 0, _ => 0
  | n + 1, f => (if f n then 2 ^ n else 0) + bp n f
theorem bp_lt (f : Nat → Bool) : ∀ n, bp n f < 2 ^ n
  | 0 => Nat.one_pos
  | n + 1 => by
    have := bp_lt f n
    unfold bp
    rw [Nat.pow_succ]
    split <;> omega
theorem bp_test (f : Nat → Bool) : ∀ n q, (bp n f).testBit q = (decide (q < n) && f q)
  | 0, q => by
    unfold bp
    simp
  | n + 1, q => by
    have lt := bp_lt f n
    have ih := bp_test f n q
    unfold bp
    by_cases c : f n = true
    · rw [if_pos c]
      have e := Nat.two_pow_add_eq_or_of_lt lt 1
      rw [Nat.mul_one] at e
      rw [e, Nat.testBit_or, ih, Nat.testBit_two_pow]
      by_cases z : n = q
      · subst z
        simp [c]
      · have : decide (q < n + 1) = decide (q < n) := by
          rw [decide_eq_decide]
          omega
        rw [this, decide_eq_false z, Bool.false_or]
    · rw [if_neg c, Nat.zero_add, ih]
      by_cases z : n = q
      · subst z
        simp [c]
      · have : decide (q < n + 1) = decide (q < n) := by
          rw [decide_eq_decide]
          omega
        rw [this]
theorem bp_ext {f g : Nat → Bool} {n : Nat} (h : ∀ q, q < n → f q = g q) : bp n f = bp n g := Nat.eq_of_testBit_eq fun q => by
  rw [bp_test, bp_test]
  by_cases z : q < n
  · rw [h q z]
  · rw [decide_eq_false z]
    rfl
theorem bp_and (f g : Nat → Bool) (n : Nat) : bp n f &&& bp n g = bp n fun q => f q && g q := Nat.eq_of_testBit_eq fun q => by
  rw [Nat.testBit_and, bp_test, bp_test, bp_test]
  cases decide (q < n) <;> simp
theorem bp_add {f g : Nat → Bool} : ∀ {n : Nat}, (∀ q, q < n → f q = true → g q = true → False) → bp n (fun q => f q || g q) = bp n f + bp n g
  | 0, _ => rfl
  | n + 1, h => by
    have ih := bp_add (f := f) (g := g) (n := n) fun q hq => h q (by omega)
    have hn := h n (by omega)
    unfold bp
    rw [ih]
    cases a : f n <;> cases b : g n <;> simp [a, b] at hn ⊢ <;> omega
theorem bp_one {q : Nat} : ∀ {n : Nat}, q < n → bp n (fun k => k == q) = 2 ^ q := fun {n} h => Nat.eq_of_testBit_eq fun k => by
  rw [bp_test, Nat.testBit_two_pow]
  by_cases z : q = k
  · subst z
    simp [h]
  · rw [decide_eq_false z]
    have : (k == q) = false := by
      rw [beq_eq_false_iff_ne]
      exact fun e => z e.symm
    rw [this, Bool.and_false]
theorem bp_none (n : Nat) : bp n (fun _ => false) = 0 := Nat.eq_of_testBit_eq fun k => by
  rw [bp_test]
  simp
theorem bp_zero {f : Nat → Bool} {n : Nat} : bp n f = 0 ↔ ∀ q, q < n → f q = false := by
  constructor
  · intro h q hq
    have := bp_test f n q
    rw [h, decide_eq_true hq] at this
    simpa using this.symm
  · intro h
    rw [bp_ext (g := fun _ => false) h, bp_none]
theorem bp_all : ∀ n : Nat, bp n (fun _ => true) = 2 ^ n - 1
  | 0 => rfl
  | n + 1 => by
    have ih := bp_all n
    unfold bp
    rw [if_pos rfl, ih, Nat.pow_succ]
    have := Nat.two_pow_pos n
    omega
theorem bp_list {n : Nat} : ∀ {A : List Nat}, A.Nodup → (∀ q ∈ A, q < n) → (A.map fun q => 2 ^ q).sum = bp n fun q => A.contains q
  | [], _, _ => by
    rw [show (fun q => ([] : List Nat).contains q) = fun _ => false from funext fun q => by simp, bp_none]
    rfl
  | a :: A, nd, h => by
    rw [List.nodup_cons] at nd
    have ih := bp_list (A := A) nd.2 fun q hq => h q (List.mem_cons_of_mem _ hq)
    rw [List.map_cons, List.sum_cons, ih, ← bp_one (h a (List.mem_cons_self ..)), ← bp_add]
    · exact bp_ext fun q _ => by rw [List.contains_cons]
    · intro q _ e1 e2
      rw [beq_iff_eq] at e1
      subst e1
      exact nd.1 (by simpa using e2)
theorem bp_sub {f g : Nat → Bool} {n : Nat} (h : ∀ q, q < n → g q = true → f q = true) : bp n f = bp n (fun q => f q && !g q) + bp n g := by
  rw [← bp_add]
  · refine bp_ext fun q hq => ?_
    cases b : g q with
    | false => simp
    | true => simp [h q hq b]
  · intro q _ a b
    rw [b] at a
    simp at a
theorem bp_within {f g : Nat → Bool} {n : Nat} : bp n f &&& bp n g = bp n g ↔ ∀ q, q < n → g q = true → f q = true := by
  constructor
  · intro e q hq hg
    have := congrArg (fun x => x.testBit q) e
    simp only [Nat.testBit_and, bp_test, decide_eq_true hq, hg, Bool.true_and, Bool.and_true] at this
    exact this
  · intro h
    rw [bp_and]
    refine bp_ext fun q hq => ?_
    cases b : g q with
    | false => simp
    | true => rw [h q hq b]; rfl
/-- above k nothing but whole multiples -/
theorem bp_hi {k : Nat} : ∀ {n : Nat} (f : Nat → Bool), (∀ q, q < n → q ≤ k → f q = false) → ∃ m, bp n f = 2 ^ (k + 1) * m := fun {n} f h => by
  refine ⟨bp n f / 2 ^ (k + 1), ?_⟩
  have e : bp n f % 2 ^ (k + 1) = 0 := Nat.eq_of_testBit_eq fun q => by
    rw [Nat.testBit_mod_two_pow, bp_test, Nat.zero_testBit]
    by_cases z : q < k + 1
    · by_cases y : q < n
      · rw [h q y (by omega)]
        simp
      · rw [decide_eq_false y]
        simp
    · rw [decide_eq_false z]
      simp
  have := Nat.div_add_mod (bp n f) (2 ^ (k + 1))
  omega
open PySem
/-- the lowest bit -/
theorem low {f : Nat → Bool} {n k : Nat} (hk : k < n) (fk : f k = true) (lo : ∀ j, j < k → f j = false) : Builtin.bitAnd (bp n f : Int) (-(bp n f : Int)) = ((2 ^ k : Nat) : Int) := by
  have split : bp n f = bp n (fun q => f q && !(q == k)) + 2 ^ k := by
    rw [← bp_one hk]
    refine bp_sub fun q _ e => ?_
    rw [beq_iff_eq] at e
    subst e
    exact fk
  obtain ⟨m, hm⟩ := bp_hi (k := k) (n := n) (fun q => f q && !(q == k)) fun q _ hq => by
    by_cases e : q = k
    · subst e
      simp
    · rw [lo q (by omega)]
      rfl
  have p := Nat.two_pow_pos k
  have x1 : bp n f = 2 ^ (k + 1) * m + 2 ^ k := by rw [split, hm]
  have x2 : bp n f - 1 = 2 ^ (k + 1) * m + (2 ^ k - 1) := by omega
  have pk : 2 ^ k < 2 ^ (k + 1) := by rw [Nat.pow_succ]; omega
  have key : bp n f &&& (bp n f - 1) = 2 ^ (k + 1) * m := by
    rw [x1] at *
    rw [show 2 ^ (k + 1) * m + 2 ^ k - 1 = 2 ^ (k + 1) * m + (2 ^ k - 1) by omega, Nat.two_pow_add_eq_or_of_lt pk, Nat.two_pow_add_eq_or_of_lt (show 2 ^ k - 1 < 2 ^ (k + 1) by omega), ← Nat.or_and_distrib_left, Nat.and_two_pow_sub_one_eq_mod, Nat.mod_self, Nat.or_zero]
  have pos : 0 < bp n f := by omega
  unfold Builtin.bitAnd
  rw [decide_eq_true (show (0 : Int) ≤ (bp n f : Int) by omega), decide_eq_false (show ¬ (0 : Int) ≤ -(bp n f : Int) by omega)]
  dsimp only
  have bn : (Builtin.bitNot (-(bp n f : Int))).toNat = bp n f - 1 := by
    unfold Builtin.bitNot
    omega
  rw [bn, Int.toNat_natCast, key]
  omega
theorem bits_pow (k : Nat) : Builtin.Int.intBits ((2 ^ k : Nat) : Int) = k + 1 := by
  unfold Builtin.Int.intBits
  have p := Nat.two_pow_pos k
  rw [if_neg (by rw [beq_iff_eq]; omega), Int.natAbs_natCast, Nat.log2_two_pow]
end BitP
namespace DL
open PySem PySem.Spec PyProof.Rows L2 Evl Lay ErrX LCN
section
variable {K : PySem.W.Frag}
theorem o_shl : OOk K (rI CPow fun i j => .int (i * 2 ^ j.toNat)) (wI2 CPow fun a b => .i (a * 2 ^ b.toNat)) := o_I fun F a b => .i _
theorem o_and : OOk K (rI0 fun i j => .int (Builtin.bitAnd i j)) (wI20 fun a b => .i (Builtin.bitAnd a b)) := o_I0 fun F a b => .i _
abbrev wBits (a : WE) : WE := fun Γ Q => a Γ fun d => ∃ v : Int, d = .i v ∧ Q (.i (Builtin.Int.intBits v : Nat))
theorem e_bits {te : TE} {we : WE} (h : EOk K te we) : EOk K (tBits te) (wBits we) := fun Γ Q hq F0 H0 F H σ r QV w =>
  h Γ _ hq F0 H0 F H σ r _ fun v d F1 H1 z e1 rv => by
    obtain ⟨n, rfl, z⟩ := z
    cases rv
    exact ⟨n, rfl, w _ _ F1 H1 z e1 (.i _)⟩
abbrev wStarA (a : WE) (r : WA) : WA := fun Γ Q => a Γ fun d => ∃ ys : List D, (d = .l ys ∨ d = .t ys) ∧ r Γ fun zs => Q (ys ++ zs)
theorem ra_app {F : Hp} : ∀ {vs us : List V} {xs ys : List D}, RA K F vs xs → RA K F us ys → RA K F (vs ++ us) (xs ++ ys)
  | _, _, _, _, .nil, h => h
  | _, _, _, _, .cons a r, h => .cons a (ra_app r h)
theorem a_star {te : TE} {t : TA} {we : WE} {w : WA} (he : EOk K te we) (ht : AOk K t w) : AOk K (StX.tStar K te t) (wStarA we w) := fun Γ Q hq F0 H0 F H σ r QV q =>
  he Γ _ hq F0 H0 F H σ r _ fun v d F1 H1 z e1 rv => by
    obtain ⟨ys, hd, z⟩ := z
    have key : ∃ p xs, v = V.ref p ∧ (SqT K H1 p xs ∨ SqL K H1 p xs) ∧ RA K F1 xs ys := by
      rcases hd with rfl | rfl
      · cases rv with
        | @l p vs _ h ra => exact ⟨p, vs, rfl, .inr (sq_of (e1.fh _ _ h)), ra⟩
      · cases rv with
        | @t p vs _ h ra => exact ⟨p, vs, rfl, .inl (ex_t e1.fh h), ra⟩
    obtain ⟨p, xs, rfl, hs, ra⟩ := key
    exact ⟨p, xs, rfl, hs, ht Γ _ z F0 H0 F1 H1 σ (r.ext e1) _ fun us zs F2 H2 z2 e2 ru => q _ _ F2 H2 z2 (e1.trans e2) (ra_app (ra.mono e2.ff) ru)⟩
/-- f(a, b, c, xs): xs, one's own, is lent -/
abbrev wLendC (k : Nat) (w0 w1 w2 : WE) (S : Nat → List D → (List D → Prop) → Prop) : WS := fun P Γ => ∃ zs : List D, nth Γ k = .ol zs ∧ noOwn (put Γ k .u) = true ∧ w0 Γ fun d0 => w1 Γ fun d1 => w2 Γ fun d2 => ∃ (n : Nat) (Pd : List D → Prop), zs.length + n ≤ 100000 ∧ S n [d0, d1, d2] Pd ∧ ∀ ys, Pd ys → ys.length ≤ n → P.nx (put Γ k (.ol (zs ++ ys)))
theorem put_put {x y : Sl} : ∀ {Γ : G} {k : Nat}, put (put Γ k x) k y = put Γ k y
  | [], _ => rfl
  | _ :: _, 0 => rfl
  | a :: r, k + 1 => by
    show a :: put (put r k x) k y = a :: put r k y
    rw [put_put]
theorem set_same {σ : L2.St} {k : Nat} {o : Option V} (h : σ[k]? = some o) : σ.set k o = σ := by
  refine List.ext_getElem? fun i => ?_
  by_cases e : k = i
  · subst e
    rw [List.getElem?_set_self (List.getElem?_eq_some_iff.mp h).1, h]
  · rw [List.getElem?_set_ne e]
theorem s_lendC {k : Nat} {te0 te1 te2 : TE} {w0 w1 w2 : WE} {S : Nat → List D → (List D → Prop) → Prop} (h0 : EOk K te0 w0) (h1 : EOk K te1 w1) (h2 : EOk K te2 w2) :
    SOk K (tDrop (tCallD (spLend K S) (tCons te0 (tCons te1 (tCons te2 (tCons (tVar k) tNil)))))) (wLendC k w0 w1 w2 S) := fun P Γ hq F0 H0 F H σ r E w => by
  obtain ⟨zs, hk, no, hq⟩ := hq
  obtain ⟨p, vs, a, b, c, d, f⟩ := r.ol k zs hk
  refine h0 Γ _ hq F0 H0 F H σ r _ fun v0 d0 F1 H1 z1 e1 rv0 => ?_
  refine h1 Γ _ z1 F0 H0 F1 H1 σ (r.ext e1) _ fun v1 d1 F2 H2 z2 e2 rv1 => ?_
  refine h2 Γ _ z2 F0 H0 F2 H2 σ ((r.ext e1).ext e2) _ fun v2 d2 F3 H3 z3 e3 rv2 => ?_
  obtain ⟨n, Pd, sz, hS, fin⟩ := z3
  have e13 := (e1.trans e2).trans e3
  have r3 := r.ext e13
  have d3 := e13.hh.kp d
  have f3 := nof_ext b d e13
  refine ⟨.ref p, a, ?_⟩
  refine ⟨F3, [v0, v1, v2], [d0, d1, d2], p, vs, zs, n, Pd, rfl, e3.fh, .cons (rv0.mono (e2.trans e3).ff) (.cons (rv1.mono e3.ff) (.cons rv2 .nil)), f3, d3, f.mono e13.ff, sz, hS, fun F' H' ws' ys g hd ra pd ly => ?_⟩
  have rd := r3.drop (k := k) (o := some (V.ref p))
  rw [set_same a] at rd
  have r4 := g.rep no c rd
  have r5 := r4.setO (k := k) g.nof c hd ra fun m ys ne q s => (noOwn_nth no q).elim
  rw [set_same a, put_put] at r5
  exact w.nx _ _ _ _ (fin ys pd ly) r5
end
end DL
namespace SetI
open PySem PySem.Spec PyProof.Rows L2 Evl Lay ErrX DL
theorem met (val : Nat → Int) : ∀ i, (firstMet val i).Nodup ∧ ∀ x, x ∈ firstMet val i ↔ ∃ j, j < i ∧ val j = x
  | 0 => ⟨List.nodup_nil, fun x => ⟨(fun h => by cases h), fun ⟨j, h, _⟩ => absurd h (Nat.not_lt_zero j)⟩⟩
  | i + 1 => by
    obtain ⟨nd, mem⟩ := met val i
    rw [firstMet_succ]
    unfold step_dedup
    by_cases c : (firstMet val i).any (· == val i) = true
    · rw [if_pos c]
      obtain ⟨y, hy, e⟩ := List.any_eq_true.mp c
      have e : y = val i := beq_iff_eq.mp e
      refine ⟨nd, fun x => (mem x).trans ⟨fun ⟨j, h, e⟩ => ⟨j, by omega, e⟩, fun ⟨j, h, e2⟩ => ?_⟩⟩
      by_cases z : j = i
      · subst z
        rw [← e2, ← e]
        exact (mem y).mp hy
      · exact ⟨j, by omega, e2⟩
    · rw [if_neg c]
      have no : val i ∉ firstMet val i := fun h => c (List.any_eq_true.mpr ⟨_, h, beq_self_eq_true _⟩)
      refine ⟨?_, fun x => ?_⟩
      · rw [List.nodup_append]
        refine ⟨nd, by simp, fun a ha b hb e => ?_⟩
        rw [List.mem_singleton.mp hb] at e
        subst e
        exact no ha
      · rw [List.mem_append, List.mem_singleton, mem]
        constructor
        · rintro (⟨j, h, e⟩ | rfl)
          · exact ⟨j, by omega, e⟩
          · exact ⟨i, by omega, rfl⟩
        · rintro ⟨j, h, e⟩
          by_cases z : j = i
          · subst z
            exact .inr e.symm
          · exact .inl ⟨j, by omega, e⟩
def tLenSetD (K : PySem.W.Frag) (ta : TE) : TE := fun σ H Q => ta σ H fun x H1 => ∃ (l : Addr) (ns : List Int), x = .ref l ∧ SqL K H1 l (ns.map V.int) ∧ ns.length ≤ 4000 ∧ ∀ U : List Int, U.Nodup → (∀ x, x ∈ U ↔ x ∈ ns) → Q (.int (U.length : Nat)) H1
theorem pe_lenSetD {X : Cx} {a : Expr} {ta : TE} {p p2 q pos : Pos} (hg : Gl X "len") (hm : X.mg "len" = none) (hg2 : Gl X "set") (hm2 : X.mg "set" = none) (ha : PE X a ta) (hc : X.calm = true := by rfl)
    (na : starEach [a] X.env = (false, eval a X.env) :: starEach [] X.env := by rfl) : PE X (.Call (.Name "len" p) [.Call (.Name "set" p2) [a] [] q] [] pos) (tLenSetD X.K ta) := by
  refine ⟨fun pins s σ H Q I h => ?_⟩
  refine Call_ (ld_blt I hg hm PySem.boot_len ?_)
  refine PyProof.Rows.callWith_builtin1 (PyProof.Rows.args_cons ?_ rfl) rfl rfl
  refine Call_ (ld_blt I hg2 hm2 PyProof.Rows.boot_set ?_)
  refine PyProof.Rows.callWith_type1 (PyProof.Rows.args_cons (thn (ha.run pins s σ H _ I h) fun v s1 ⟨x, H1, I1, r1, q1⟩ => PyProof.Rows.args_nil ?_) na) na rfl
  obtain ⟨l, ns, rfl, hq, hl, q1⟩ := q1
  cases r1
  obtain ⟨its, r, pl, hz⟩ := I1.list hq
  have hlen : its.toArray.size = ns.length := by rw [List.size_toArray, ← r.length, List.length_map]
  refine call_set_list (I1.ok.hd hc) pl.isList (ns := ns) (by simpa using r.ints) (by rw [hlen]; unfold scanBound; omega) fun h' tk hS hk => ?_
  refine PyProof.Rows.args_nil ?_
  obtain ⟨nd, mem⟩ := met (fun i => ns.getD i 0) its.toArray.size
  have le := firstMet_length_le (fun i => ns.getD i 0) its.toArray.size
  generalize firstMet (fun i => ns.getD i 0) its.toArray.size = U at hS nd mem le
  obtain ⟨o, es, ep, t, ho, hex, hd, _, _, _, hf, hn⟩ := hS
  have I2 : Inv X pins σ H1 { s1 with heap := h', toks := tk } := I1.kept fun b o e => hk b o (Heap.lt_size e) e
  refine call_len_set ho hex hd hf (by rw [hn] <;> omega) ⟨.int U.length, H1, I2.tok _, ⟨_, by rw [hn]⟩, q1 U nd fun x => (mem x).trans ?_⟩
  rw [hlen]
  constructor
  · rintro ⟨j, h, e⟩
    rw [← e, List.getD_eq_getElem?_getD, List.getElem?_eq_getElem h]
    exact List.getElem_mem h
  · intro h
    obtain ⟨j, h, e⟩ := List.getElem_of_mem h
    exact ⟨j, h, by rw [List.getD_eq_getElem?_getD, List.getElem?_eq_getElem h]; exact e⟩
end SetI
namespace DL
open PySem PySem.Spec PyProof.Rows L2 Evl Lay ErrX LCN
section
variable {K : PySem.W.Frag}
abbrev wLsetI (we : WE) : WE := fun Γ Q => we Γ fun d => ∃ ns : List Int, d = .l (ns.map D.i) ∧ ns.length ≤ 4000 ∧ ∀ U : List Int, U.Nodup → (∀ x, x ∈ U ↔ x ∈ ns) → Q (.i (U.length : Nat))
theorem e_lsetI {te : TE} {we : WE} (h : EOk K te we) : EOk K (SetI.tLenSetD K te) (wLsetI we) := fun Γ Q hq F0 H0 F H σ r QV w =>
  h Γ _ hq F0 H0 F H σ r _ fun v d F1 H1 z e1 rv => by
    obtain ⟨ns, rfl, l, z⟩ := z
    cases rv with
    | @l p vs _ hp ra =>
      exact ⟨p, ns, rfl, by rw [← SrtD.ra_ints ra]; exact sq_of (e1.fh _ _ hp), l, fun U nd mem => w _ _ F1 H1 (z U nd mem) e1 (.i _)⟩
end
end DL
namespace DL
open PySem PySem.Spec PyProof.Rows L2 Evl Lay ErrX LCN
section
variable {K : PySem.W.Frag}
theorem kx_sumI (K : PySem.W.Frag) {X : Cx} (hc : X.calm = true) (hK : X.K = K := by rfl) : CallR X (.builtin "sum") (rSum K) := by
  subst hK
  exact cr_sum hc
def wSumI : List D → (D → Prop) → Prop := fun xs Q => ∃ ns : List Int, xs = [.l (ns.map D.i)] ∧ Q (.i ns.sum)
theorem c_sumI : COk K (rSum K) wSumI := fun xs Q ⟨ns, e0, hq⟩ F H vs e r QV q => by
  subst e0
  obtain ⟨a, us, rfl, h, ra⟩ := DO.one_l r
  exact ⟨a, ns, rfl, by rw [← SrtD.ra_ints ra]; exact sq_of (e _ _ h), q _ _ _ _ hq (Ext.refl e) (.i _)⟩
end
end DL
namespace SrtD
open PySem PySem.Spec PyProof.Rows L2 Evl Lay ErrX DL SeqAt SrtO
section
variable {X : Cx} {pins : List (Addr × Obj)} {σ : L2.St} {H : Hp} {sa : Shared}
open Classical in
noncomputable def cntD (ds : List D) (y : D) : Nat := ds.countP fun x => decide (x = y)
open Classical in
def rCntS (K : PySem.W.Frag) (s : Sh) : V → List V → Hp → VK → Prop := fun x xs H Q => ∃ (p : Addr) (vs : List V) (ds : List D) (v : V) (y : D) (F : Hp), x = .ref p ∧ xs = [v] ∧ Ex F H ∧ SqL K H p vs ∧ RA K F vs ds ∧ (∀ d ∈ ds, hasSh s d) ∧ R K F v y ∧ hasSh s y ∧ Q (.int (cntD ds y : Nat)) H
open Classical in
theorem mt_countS (K : PySem.W.Frag) {s : Sh} {X : Cx} (hu : X.A.units + 64 < cLine) (hd : s.dep ≤ 8 := by decide) (hK : X.K = K := by rfl) : MtR X "list.count" (rCntS K s) := by
  subst hK
  intro pins sa σ H x xs v us Q I rx rxs h
  obtain ⟨p, vs, ds, w, y, F, rfl, rfl, ex, hs, ra, sh, rw_, shy, q⟩ := h
  cases rx
  obtain ⟨u, rfl, ru⟩ := rxs.one
  obtain ⟨its, rv, ⟨⟨cls, dd, data, sl⟩, n, ho, hc, hdn, hdt⟩, hlen⟩ := I.list hs
  simp only at hc hdt
  subst hc hdt
  have isy := is_of I ex s w u y shy rw_ ru
  obtain ⟨l, all⟩ := is_all (fun v u d => is_of I ex s v u d) ra rv sh
  have one : ∀ z ∈ its, ∃ d, isS s sa.heap z d := fun z hz => by
    obtain ⟨j, hj, rfl⟩ := List.getElem_of_mem hz
    exact ⟨_, all j hj (by omega)⟩
  refine call_meets PySem.F.slot_list_count ⟨_, ho, rfl⟩ PySem.F.entry_list_count (PySem.F.args_list_count_2 _ _)
    (SeqAt.list_countAt p its.toArray n dd sl u (fun z => decide (isS s sa.heap z y))) ⟨ho, fun z hz => ?_, ?_⟩
  · obtain ⟨d, hz⟩ := one z (by simpa using hz)
    have e := eq_law s (A := X.A.in1) (by show X.A.units + 1 + s.dep < cLine; omega) hz isy
    have : decide (isS s sa.heap z y) = decide (d = y) := by
      rw [decide_eq_decide]
      exact ⟨fun h => isS_det hz h, fun h => h ▸ hz⟩
    rw [this]
    exact e
  · have ec : ∀ (ks : List Value) (es : List D), ks.length = es.length → (∀ j (h1 : j < ks.length) (h2 : j < es.length), isS s sa.heap ks[j] es[j]) → ks.countP (fun z => decide (isS s sa.heap z y)) = cntD es y := fun ks => by
      induction ks with
      | nil =>
        intro es l0 _
        cases es with
        | nil => rfl
        | cons _ _ => cases l0
      | cons k ks ih =>
        intro es l0 a
        cases es with
        | nil => cases l0
        | cons e es =>
          have ih := ih es (by simpa using l0) fun j h1 h2 => a (j + 1) (Nat.succ_lt_succ h1) (Nat.succ_lt_succ h2)
          have a0 : isS s sa.heap k e := a 0 (Nat.zero_lt_succ _) (Nat.zero_lt_succ _)
          unfold cntD at ih ⊢
          rw [List.countP_cons, List.countP_cons, ih]
          have : decide (isS s sa.heap k y) = decide (e = y) := by
            rw [decide_eq_decide]
            exact ⟨fun h => isS_det a0 h, fun h => h ▸ a0⟩
          rw [this]
    refine ⟨.int (cntD ds y : Nat), H, I.tok _, ⟨sa.toks, ?_⟩, q⟩
    show Value.int ((its.toArray.toList.countP _ : Nat) : Int) sa.toks = Value.int ((cntD ds y : Nat) : Int) sa.toks
    rw [show its.toArray.toList = its from rfl, ec its ds l all]
end
end SrtD
namespace DL
open PySem PySem.Spec PyProof.Rows L2 Evl Lay ErrX LCN
section
variable {K : PySem.W.Frag}
abbrev wCntS (s : SrtD.Sh) (wa wb : WE) : WE := fun Γ Q => wa Γ fun x => ∃ ds : List D, x = .l ds ∧ (∀ d ∈ ds, SrtD.hasSh s d) ∧ wb Γ fun y => SrtD.hasSh s y ∧ Q (.i (SrtD.cntD ds y : Nat))
theorem e_cntS {s : SrtD.Sh} {ta tb : TE} {wa wb : WE} (ha : EOk K ta wa) (hb : EOk K tb wb) : EOk K (tBM K "list" (SrtD.rCntS K s) ta (tCons tb tNil)) (wCntS s wa wb) := fun Γ Q hq F0 H0 F H σ r QV w =>
  ha Γ _ hq F0 H0 F H σ r _ fun v x F1 H1 z1 e1 rv => by
    obtain ⟨ds, rfl, sh, z1⟩ := z1
    cases rv with
    | @l p vs _ hp ra =>
      refine ⟨.inl ⟨rfl, vs, sq_of (e1.fh _ _ hp)⟩, hb Γ _ z1 F0 H0 F1 H1 σ (r.ext e1) _ fun u y F2 H2 z2 e2 ru => ?_⟩
      exact ⟨p, vs, ds, u, y, F2, rfl, rfl, e2.fh, sq_of (e2.hh.kp (e1.fh _ _ hp)), ra.mono e2.ff, sh, ru, z2.1, w _ _ F2 H2 z2.2 (e1.trans e2) (.i _)⟩
end
end DL
namespace DL
open PySem PySem.Spec PyProof.Rows L2 Evl Lay ErrX LCN
section
variable {X : Cx} {tg c a b : Expr} {pos : Pos} {tc : TT} {wa wb : TI}
def iIf (tc : TT) (wa wb : TI) : TI := fun σ H R => tc σ H fun d H1 => if d = true then wa σ H1 R else wb σ H1 R
theorem pi_if (hc : PT X c tc) (ha : PI X tg a wa) (hb : PI X tg b wb) : PI X tg (.IfExp c a b pos) (iIf tc wa wb) := by
  refine ⟨fun pins s σ H R I h => ?_⟩
  refine wpAny_IfExp (thn (hc.run pins s σ H _ I h) fun d s1 ⟨H1, I1, q1⟩ => ?_)
  cases d with
  | true => exact ha.run pins s1 σ H1 R I1 q1
  | false => exact hb.run pins s1 σ H1 R I1 q1
end
section
variable {K : PySem.W.Frag}
abbrev wItIf (c : WT) (a b : WA) : WA := fun Γ Q => c Γ fun x => (x = true → a Γ Q) ∧ (x = false → b Γ Q)
theorem i_if {tc : TT} {ta tb : TI} {c : WT} {a b : WA} (hc : TOk K tc c) (ha : IOk K ta a) (hb : IOk K tb b) : IOk K (iIf tc ta tb) (wItIf c a b) := fun Γ Q hq F0 H0 F H σ r QI w =>
  hc Γ _ hq F0 H0 F H σ r _ fun x F1 H1 z e1 => by
    cases x with
    | true =>
      show (if true = true then ta σ H1 QI else tb σ H1 QI)
      rw [if_pos rfl]
      exact ha Γ _ (z.1 rfl) F0 H0 F1 H1 σ (r.ext e1) _ fun J xs F2 H2 q e2 it => w J xs F2 H2 q (e1.trans e2) it
    | false =>
      show (if false = true then ta σ H1 QI else tb σ H1 QI)
      rw [if_neg Bool.false_ne_true]
      exact hb Γ _ (z.2 rfl) F0 H0 F1 H1 σ (r.ext e1) _ fun J xs F2 H2 q e2 it => w J xs F2 H2 q (e1.trans e2) it
abbrev wPar3O (i j l : Nat) (a : WE) (f : WA) (c : WE) : WS := fun P Γ => a Γ fun x => f Γ fun ys => c Γ fun z => P.nx (put (put (put Γ i (.d x)) j (.ol ys)) l (.d z))
theorem s_par3O {i j l : Nat} {ta tf tc : TE} {a c : WE} {f : WA} (ha : EOk K ta a) (hf : FOk K tf f) (hc : EOk K tc c) (hl : j ≠ l := by decide) (hi : i ≠ j := by decide) : SOk K (tPar3 i j l (tCons ta (tCons tf (tCons tc tNil)))) (wPar3O i j l a f c) := fun P Γ hq F0 H0 F H σ r E w =>
  ha Γ _ hq F0 H0 F H σ r _ fun v1 x F1 H1 z1 e1 r1 => hf Γ _ z1 F0 H0 F1 H1 σ (r.ext e1) _ fun p vs ys F2 H2 z2 e2 hp hfp h1 ra => hc Γ _ z2 F0 H0 F2 H2 σ ((r.ext e1).ext e2) _ fun v3 z F3 H3 z3 e3 r3 => by
    have rr := ((r.ext e1).ext e2).ext e3
    have f3 := nof_ext hfp h1 e3
    have d3 := e3.hh.kp h1
    have h0 : H0 p = none := ExT.back (r.ext e1).h0 hp
    have r4 : Rep K F0 H0 F3 H3 (σ.set i (some v1)) (put Γ i (.d x)) := rr.set (r1.mono (e2.trans e3).ff)
    have r5 : Rep K F0 H0 F3 H3 ((σ.set i (some v1)).set j (some (.ref p))) (put (put Γ i (.d x)) j (.ol ys)) := r4.setO f3 h0 d3 (ra.mono e3.ff) fun m us ne q s => by
      have mi : m ≠ i := fun e => by
        subst e
        rw [nth_put] at q
        split at q
        · cases q
        · rename_i z
          rw [nth_out (Nat.le_of_not_lt fun l => z ⟨rfl, l⟩)] at q
          cases q
      rw [nth_put_ne mi] at q
      rw [List.getElem?_set_ne (Ne.symm mi)] at s
      obtain ⟨p', _, a1, _, _, a2, _⟩ := r.ow m us q
      rw [s] at a1
      cases a1
      rw [ExT.back e1.hh hp] at a2
      cases a2
    exact ⟨v1, .ref p, v3, rfl, w.nx _ _ _ _ z3 (r5.set r3)⟩
end
end DL
namespace CovM
variable {n : Nat} {held : Nat → List Nat}
def over (n : Nat) (held : Nat → List Nat) (q : Nat) : List Nat := (List.range n).filter fun p => decide (held p).Nodup && (held p).contains q
def fst (n : Nat) (f : Nat → Bool) : Nat := ((List.range n).find? f).getD 0
def less (f : Nat → Bool) (A : List Nat) : Nat → Bool := fun q => f q && !A.contains q
def noneB (n : Nat) (f : Nat → Bool) : Bool := (List.range n).all fun q => !f q
/-- what the search tells -/
def fillS (n : Nat) (held : Nat → List Nat) : Nat → (Nat → Bool) → List Nat → List (List Nat)
  | 0, f, ps => if noneB n f then [ps] else []
  | k + 1, f, ps => if noneB n f then [ps] else (over n held (fst n f)).flatMap fun p => if (held p).all f then fillS n held k (less f (held p)) (ps ++ [p]) else []
/-- P covers just what f tells, each once -/
structure EC (n : Nat) (held : Nat → List Nat) (f : Nat → Bool) (P : List Nat) : Prop where
  lt : ∀ p ∈ P, p < n
  nd : (P.flatMap held).Nodup
  mem : ∀ q, q ∈ P.flatMap held ↔ q < n ∧ f q = true
theorem over_mem {p q : Nat} : p ∈ over n held q ↔ p < n ∧ (held p).Nodup ∧ q ∈ held p := by
  unfold over
  simp [List.mem_filter, and_assoc]
theorem none_iff {f : Nat → Bool} : noneB n f = true ↔ ∀ q, q < n → f q = false := by
  unfold noneB
  simp [List.all_eq_true]
theorem fst_ok {f : Nat → Bool} (h : ¬ noneB n f = true) : fst n f < n ∧ f (fst n f) = true ∧ ∀ j, j < fst n f → f j = false := by
  unfold fst
  cases fd : (List.range n).find? f with
  | none =>
    refine absurd (none_iff.mpr fun q hq => ?_) h
    have := List.find?_eq_none.mp fd q (List.mem_range.mpr hq)
    simpa using this
  | some k =>
    have hk : f k = true := List.find?_some fd
    have hm := List.mem_range.mp (List.mem_of_find?_eq_some fd)
    refine ⟨hm, hk, fun j hj => ?_⟩
    have hj : j < k := hj
    cases e : f j with
    | false => rfl
    | true =>
      obtain ⟨as, bs, e1, e2⟩ := (List.find?_eq_some_iff_append.mp fd).2
      have : as = List.range k := by
        have l : as.length = k := by
          have g := congrArg (fun l => l[as.length]?) e1
          simp only [List.getElem?_append_right (Nat.le_refl _), Nat.sub_self] at g
          have g2 : (List.range n)[as.length]? = some k := by rw [g]; rfl
          exact (List.getElem?_range (by
            have := (List.getElem?_eq_some_iff.mp g2).1
            rw [List.length_range] at this
            exact this)).symm.trans g2 |> Option.some.inj
        have t := congrArg (List.take k) e1
        rw [List.take_range, Nat.min_eq_left (by omega), ← l, List.take_left] at t
        rw [← t, l]
      have := e2 j (by rw [this]; exact List.mem_range.mpr hj)
      rw [e] at this
      cases this
theorem less_iff {f : Nat → Bool} {A : List Nat} {q : Nat} : less f A q = true ↔ f q = true ∧ q ∉ A := by
  unfold less
  simp
theorem sound (hl : ∀ p q, q ∈ held p → q < n) : ∀ {k : Nat} {f : Nat → Bool} {ps out : List Nat}, out ∈ fillS n held k f ps → ∃ P, out = ps ++ P ∧ EC n held f P := by
  have nil : ∀ {f : Nat → Bool} {ps out : List Nat}, noneB n f = true → out = ps → ∃ P, out = ps ++ P ∧ EC n held f P := fun {f ps out} z e => ⟨[], by rw [e, List.append_nil], ⟨(fun p hp => by cases hp), List.nodup_nil, fun q => ⟨(fun hq => by cases hq), fun ⟨h1, h2⟩ => by
    rw [none_iff.mp z q h1] at h2
    cases h2⟩⟩⟩
  intro k
  induction k with
  | zero =>
    intro f ps out h
    unfold fillS at h
    split at h
    · rename_i z
      exact nil z (List.mem_singleton.mp h)
    · cases h
  | succ k ih =>
    intro f ps out h
    unfold fillS at h
    split at h
    · rename_i z
      exact nil z (List.mem_singleton.mp h)
    · rename_i z
      obtain ⟨p, hp, h⟩ := List.mem_flatMap.mp h
      split at h
      · rename_i al
        obtain ⟨P, e, E⟩ := ih h
        obtain ⟨p1, p2, p3⟩ := over_mem.mp hp
        refine ⟨p :: P, by rw [e, List.append_assoc]; rfl, ⟨fun q hq => ?_, ?_, fun q => ?_⟩⟩
        · rcases List.mem_cons.mp hq with rfl | hq
          · exact p1
          · exact E.lt q hq
        · rw [List.flatMap_cons, List.nodup_append]
          refine ⟨p2, E.nd, fun a ha b hb e => ?_⟩
          subst e
          exact (less_iff.mp ((E.mem a).mp hb).2).2 ha
        · rw [List.flatMap_cons, List.mem_append, E.mem]
          constructor
          · rintro (hq | hq)
            · exact ⟨hl p q hq, List.all_eq_true.mp al q hq⟩
            · exact ⟨hq.1, (less_iff.mp hq.2).1⟩
          · rintro ⟨h1, h2⟩
            by_cases c : q ∈ held p
            · exact .inl c
            · exact .inr ⟨h1, less_iff.mpr ⟨h2, c⟩⟩
      · cases h
theorem complete (ne : ∀ p, held p ≠ []) : ∀ {k : Nat} {f : Nat → Bool} {ps P : List Nat}, EC n held f P → P.length ≤ k → ∃ P', P'.Perm P ∧ ps ++ P' ∈ fillS n held k f ps := by
  have nil : ∀ {f : Nat → Bool} {P : List Nat}, EC n held f P → noneB n f = true → P = [] := fun {f P} E z => by
    cases P with
    | nil => rfl
    | cons p P =>
      obtain ⟨q, hq⟩ := List.exists_mem_of_ne_nil _ (ne p)
      have := (E.mem q).mp (by rw [List.flatMap_cons]; exact List.mem_append_left _ hq)
      rw [none_iff.mp z q this.1] at this
      cases this.2
  have cons : ∀ {f : Nat → Bool} {P : List Nat}, EC n held f P → ¬ noneB n f = true → ∃ p P1, P.Perm (p :: P1) ∧ p ∈ over n held (fst n f) ∧ (held p).all f = true ∧ EC n held (less f (held p)) P1 := fun {f P} E z => by
    obtain ⟨z1, z2, z3⟩ := fst_ok z
    obtain ⟨p, hp, hq⟩ := List.mem_flatMap.mp ((E.mem _).mpr ⟨z1, z2⟩)
    have pm : P.Perm (p :: P.erase p) := List.perm_cons_erase hp
    have nd := (pm.flatMap_right held).nodup_iff.mp E.nd
    have mm : ∀ q, q ∈ (p :: P.erase p).flatMap held ↔ q < n ∧ f q = true := fun q => ((pm.flatMap_right held).mem_iff).symm.trans (E.mem q)
    rw [List.flatMap_cons, List.nodup_append] at nd
    obtain ⟨n1, n2, n3⟩ := nd
    refine ⟨p, P.erase p, pm, over_mem.mpr ⟨E.lt p hp, n1, hq⟩, List.all_eq_true.mpr fun q hq => ((mm q).mp (by rw [List.flatMap_cons]; exact List.mem_append_left _ hq)).2, ⟨fun q hq => E.lt q (List.mem_of_mem_erase hq), n2, fun q => ?_⟩⟩
    rw [less_iff]
    constructor
    · intro hq
      have := (mm q).mp (by rw [List.flatMap_cons]; exact List.mem_append_right _ hq)
      exact ⟨this.1, this.2, fun c => n3 q c q hq rfl⟩
    · rintro ⟨h1, h2, h3⟩
      have := (mm q).mpr ⟨h1, h2⟩
      rw [List.flatMap_cons] at this
      rcases List.mem_append.mp this with c | c
      · exact absurd c h3
      · exact c
  intro k
  induction k with
  | zero =>
    intro f ps P E l
    have e : P = [] := List.length_eq_zero_iff.mp (by omega)
    subst e
    unfold fillS
    by_cases z : noneB n f = true
    · rw [if_pos z]
      exact ⟨[], List.Perm.refl _, by simp⟩
    · obtain ⟨p, P1, pm, _⟩ := cons E z
      have := pm.length_eq
      simp at this
  | succ k ih =>
    intro f ps P E l
    unfold fillS
    by_cases z : noneB n f = true
    · rw [if_pos z, nil E z]
      exact ⟨[], List.Perm.refl _, by simp⟩
    · rw [if_neg z]
      obtain ⟨p, P1, pm, hp, al, E1⟩ := cons E z
      have := pm.length_eq
      rw [List.length_cons] at this
      obtain ⟨P', pm2, m⟩ := ih (ps := ps ++ [p]) E1 (by omega)
      refine ⟨p :: P', (pm2.cons p).trans pm.symm, List.mem_flatMap.mpr ⟨p, hp, ?_⟩⟩
      rw [if_pos al]
      rw [List.append_assoc] at m
      exact m
theorem once (hl : ∀ p q, q ∈ held p → q < n) : ∀ {k : Nat} {f : Nat → Bool} {ps : List Nat}, (fillS n held k f ps).Pairwise fun a b => ¬ a.Perm b := by
  intro k
  induction k with
  | zero =>
    intro f ps
    unfold fillS
    split <;> simp
  | succ k ih =>
    intro f ps
    unfold fillS
    split
    · simp
    · rename_i z
      rw [List.pairwise_flatMap]
      refine ⟨fun p _ => ?_, ?_⟩
      · split
        · exact ih
        · exact List.Pairwise.nil
      · have nd : (over n held (fst n f)).Pairwise (· ≠ ·) := List.nodup_iff_pairwise_ne.mp (List.Nodup.sublist List.filter_sublist List.nodup_range)
        refine List.Pairwise.imp_of_mem (fun {p1 p2} h1 h2 ne a ha b hb pm => ?_) nd
        split at ha
        · split at hb
          · obtain ⟨A, rfl, EA⟩ := sound hl ha
            obtain ⟨B, rfl, EB⟩ := sound hl hb
            rw [List.append_assoc, List.append_assoc] at pm
            have pm := (List.perm_append_left_iff ps).mp pm
            have m : p2 ∈ [p1] ++ A := pm.mem_iff.mpr (by simp)
            have m : p2 ∈ A := by
              rcases List.mem_append.mp m with c | c
              · exact absurd (List.mem_singleton.mp c).symm ne
              · exact c
            have q2 := (over_mem.mp h2).2.2
            have := (EA.mem (fst n f)).mp (List.mem_flatMap.mpr ⟨p2, m, q2⟩)
            exact (less_iff.mp this.2).2 (over_mem.mp h1).2.2
          · cases hb
        · cases ha
theorem fill_len {b : Nat} (ob : ∀ q, (over n held q).length ≤ b) (b1 : 1 ≤ b) : ∀ {k : Nat} {f : Nat → Bool} {ps : List Nat}, (fillS n held k f ps).length ≤ b ^ k
  | 0, f, ps => by
    unfold fillS
    split <;> simp
  | k + 1, f, ps => by
    have ih := fun (f : Nat → Bool) ps => fill_len ob b1 (k := k) (f := f) (ps := ps)
    unfold fillS
    have p1 : 1 ≤ b ^ (k + 1) := Nat.one_le_pow _ _ (by omega)
    split
    · exact p1
    · have : ∀ l : List Nat, (l.flatMap fun p => if (held p).all f then fillS n held k (less f (held p)) (ps ++ [p]) else []).length ≤ l.length * b ^ k := fun l => by
        induction l with
        | nil => exact Nat.zero_le _
        | cons p l il =>
          rw [List.flatMap_cons, List.length_append, List.length_cons, Nat.succ_mul]
          have : (if (held p).all f then fillS n held k (less f (held p)) (ps ++ [p]) else []).length ≤ b ^ k := by
            split
            · exact ih _ _
            · exact Nat.zero_le _
          omega
      refine Nat.le_trans (this _) ?_
      rw [Nat.pow_succ, Nat.mul_comm (b ^ k)]
      exact Nat.mul_le_mul_right _ (ob _)
/-- how many f tells -/
def cnt (n : Nat) (f : Nat → Bool) : Nat := ((List.range n).filter f).length
theorem cnt_less {f : Nat → Bool} {A : List Nat} (nd : A.Nodup) (lt : ∀ q ∈ A, q < n) (al : A.all f = true) : cnt n f = A.length + cnt n (less f A) := by
  unfold cnt
  rw [← List.length_append]
  refine List.Perm.length_eq ((List.perm_ext_iff_of_nodup (List.Nodup.sublist List.filter_sublist List.nodup_range) ?_).mpr fun q => ?_)
  · rw [List.nodup_append]
    refine ⟨nd, List.Nodup.sublist List.filter_sublist List.nodup_range, fun a ha b hb e => ?_⟩
    subst e
    exact (less_iff.mp (List.mem_filter.mp hb).2).2 ha
  · rw [List.mem_append, List.mem_filter, List.mem_filter, less_iff, List.mem_range]
    constructor
    · rintro ⟨h1, h2⟩
      by_cases c : q ∈ A
      · exact .inl c
      · exact .inr ⟨h1, h2, c⟩
    · rintro (h | ⟨h1, h2, _⟩)
      · exact ⟨lt q h, List.all_eq_true.mp al q h⟩
      · exact ⟨h1, h2⟩
theorem cnt_pos {f : Nat → Bool} (z : ¬ noneB n f = true) : 0 < cnt n f := by
  obtain ⟨a, b, _⟩ := fst_ok z
  unfold cnt
  exact List.length_pos_of_mem (List.mem_filter.mpr ⟨List.mem_range.mpr a, b⟩)
theorem cnt_all : cnt n (fun _ => true) = n := by
  unfold cnt
  rw [List.filter_eq_self.mpr fun _ _ => rfl, List.length_range]
/-- covers have as many places as fit -/
theorem ec_len {b : Nat} (hb : ∀ p, (held p).length = b) {P : List Nat} (E : EC n held (fun _ => true) P) : P.length * b = n := by
  have l : (P.flatMap held).length = P.length * b := by
    clear E
    induction P with
    | nil => simp
    | cons p P ih => rw [List.flatMap_cons, List.length_append, ih, hb, List.length_cons, Nat.succ_mul]; omega
  rw [← l]
  have : (P.flatMap held).Perm (List.range n) := (List.perm_ext_iff_of_nodup E.nd List.nodup_range).mpr fun q => by rw [E.mem, List.mem_range]; simp
  rw [this.length_eq, List.length_range]
/-- at a number not more places than a place has numbers -/
theorem over_len {b : Nat} (hb : ∀ p, (held p).length = b) (inj : ∀ i p1 p2, p1 < n → p2 < n → i < b → (held p1)[i]? = (held p2)[i]? → p1 = p2) (q : Nat) : (over n held q).length ≤ b := by
  have nd : ((over n held q).map fun p => (held p).idxOf q).Nodup := by
    rw [List.nodup_iff_pairwise_ne, List.pairwise_map]
    refine List.Pairwise.imp_of_mem (fun {p1 p2} h1 h2 ne e => ne ?_) (List.nodup_iff_pairwise_ne.mp (List.Nodup.sublist List.filter_sublist List.nodup_range))
    obtain ⟨a1, _, a3⟩ := over_mem.mp h1
    obtain ⟨b1, _, b3⟩ := over_mem.mp h2
    have l1 := List.idxOf_lt_length_of_mem a3
    have l2 := List.idxOf_lt_length_of_mem b3
    refine inj ((held p1).idxOf q) p1 p2 a1 b1 (by rw [← hb p1]; exact l1) ?_
    rw [List.getElem?_eq_getElem l1, List.getElem_idxOf l1, e, List.getElem?_eq_getElem l2, List.getElem_idxOf l2]
  have := List.Nodup.length_le_of_subset nd (l₂ := List.range b) fun i hi => by
    obtain ⟨p, hp, rfl⟩ := List.mem_map.mp hi
    have := List.idxOf_lt_length_of_mem (over_mem.mp hp).2.2
    rw [hb] at this
    exact List.mem_range.mpr this
  rw [List.length_map, List.length_range] at this
  exact this
end CovM
namespace CovM
variable {n : Nat} {held : Nat → List Nat}
/-- the places A and p share no number -/
def apart (held : Nat → List Nat) (p : Nat) (A : List Nat) : Bool := (held p).all fun q => !(A.flatMap held).contains q
/-- all sets of the first k places that share no number, in the order in which they are made -/
def subs (held : Nat → List Nat) : Nat → List (List Nat)
  | 0 => [[]]
  | k + 1 => subs held k ++ if decide (held k).Nodup then ((subs held k).filter (apart held k)).map (· ++ [k]) else []
theorem apart_iff {p : Nat} {A : List Nat} : apart held p A = true ↔ ∀ q ∈ held p, q ∉ A.flatMap held := by
  unfold apart
  simp [List.all_eq_true]
theorem subs_mem : ∀ {k : Nat} {A : List Nat}, A ∈ subs held k ↔ A.Pairwise (· < ·) ∧ (∀ p ∈ A, p < k) ∧ (A.flatMap held).Nodup
  | 0, A => by
    unfold subs
    rw [List.mem_singleton]
    constructor
    · rintro rfl
      exact ⟨List.Pairwise.nil, (fun p hp => by cases hp), List.nodup_nil⟩
    · rintro ⟨_, h, _⟩
      cases A with
      | nil => rfl
      | cons a A => exact absurd (h a (List.mem_cons_self ..)) (Nat.not_lt_zero a)
  | k + 1, A => by
    have ih := fun A => subs_mem (k := k) (A := A)
    unfold subs
    rw [List.mem_append, ih]
    constructor
    · rintro (⟨a, b, c⟩ | h)
      · exact ⟨a, fun p hp => Nat.lt_succ_of_lt (b p hp), c⟩
      · split at h
        · rename_i nd
          have nd := of_decide_eq_true nd
          obtain ⟨B, hB, rfl⟩ := List.mem_map.mp h
          obtain ⟨hB, ap⟩ := List.mem_filter.mp hB
          obtain ⟨a, b, c⟩ := (ih B).mp hB
          have ap := apart_iff.mp ap
          refine ⟨?_, fun p hp => ?_, ?_⟩
          · rw [List.pairwise_append]
            exact ⟨a, List.pairwise_singleton _ _, fun x hx y hy => by rw [List.mem_singleton.mp hy]; exact b x hx⟩
          · rcases List.mem_append.mp hp with hp | hp
            · exact Nat.lt_succ_of_lt (b p hp)
            · rw [List.mem_singleton.mp hp]
              exact Nat.lt_succ_self k
          · rw [List.flatMap_append, List.nodup_append]
            refine ⟨c, by simpa using nd, fun x hx y hy e => ?_⟩
            subst e
            exact ap x (by simpa using hy) hx
        · cases h
    · rintro ⟨a, b, c⟩
      by_cases z : ∀ p ∈ A, p < k
      · exact .inl ⟨a, z, c⟩
      · have last : ∃ B, A = B ++ [k] := by
          have : ∃ p ∈ A, ¬ p < k := Classical.byContradiction fun no => z fun p hp => Classical.byContradiction fun q => no ⟨p, hp, q⟩
          obtain ⟨p, hp, hk⟩ := this
          have pk : p = k := by
            have := b p hp
            omega
          subst pk
          obtain ⟨B, C, rfl⟩ := List.append_of_mem hp
          cases C with
          | nil => exact ⟨B, rfl⟩
          | cons x C =>
            have h1 := (List.pairwise_append.mp a).2.1
            rw [List.pairwise_cons] at h1
            have h2 := h1.1 x (List.mem_cons_self ..)
            have h3 := b x (by simp)
            omega
        obtain ⟨B, rfl⟩ := last
        rw [List.flatMap_append, List.nodup_append] at c
        obtain ⟨c1, c2, c3⟩ := c
        have c2 : (held k).Nodup := by simpa using c2
        have a1 := List.pairwise_append.mp a
        refine .inr ?_
        rw [if_pos (by rw [decide_eq_true c2])]
        refine List.mem_map.mpr ⟨B, List.mem_filter.mpr ⟨(ih B).mpr ⟨a1.1, fun p hp => a1.2.2 p hp k (List.mem_singleton.mpr rfl), c1⟩, apart_iff.mpr fun q hq z => c3 q z q (by simpa using hq) rfl⟩, rfl⟩
theorem subs_nd : ∀ k : Nat, (subs held k).Nodup
  | 0 => by unfold subs; simp
  | k + 1 => by
    have ih := subs_nd k
    unfold subs
    rw [List.nodup_append]
    refine ⟨ih, ?_, fun A hA B hB e => ?_⟩
    · split
      · rw [List.nodup_iff_pairwise_ne, List.pairwise_map]
        exact (List.nodup_iff_pairwise_ne.mp (List.Nodup.sublist List.filter_sublist ih)).imp fun {A B} ne e => ne (List.append_cancel_right e)
      · exact List.nodup_nil
    · subst e
      split at hB
      · obtain ⟨B, _, rfl⟩ := List.mem_map.mp hB
        have := (subs_mem.mp hA).2.1 k (by simp)
        omega
      · cases hB
/-- those that cover all -/
def whole (n : Nat) (held : Nat → List Nat) : List (List Nat) := (subs held n).filter fun A => decide ((A.flatMap held).length = n)
theorem whole_mem (hl : ∀ p q, q ∈ held p → q < n) {A : List Nat} : A ∈ whole n held ↔ A.Pairwise (· < ·) ∧ EC n held (fun _ => true) A := by
  unfold whole
  rw [List.mem_filter, subs_mem, decide_eq_true_iff]
  constructor
  · rintro ⟨⟨a, b, c⟩, d⟩
    refine ⟨a, b, c, fun q => ⟨fun hq => ⟨?_, rfl⟩, fun hq => ?_⟩⟩
    · obtain ⟨p, _, hp⟩ := List.mem_flatMap.mp hq
      exact hl p q hp
    · refine Classical.byContradiction fun no => ?_
      have := List.Nodup.length_le_of_subset c (l₂ := (List.range n).erase q) fun x hx => ?_
      · rw [List.length_erase_of_mem (List.mem_range.mpr hq.1), List.length_range, d] at this
        omega
      · obtain ⟨p, _, hp⟩ := List.mem_flatMap.mp hx
        exact (List.mem_erase_of_ne fun e => no (by rw [← e]; exact hx)).mpr (List.mem_range.mpr (hl p x hp))
  · rintro ⟨a, E⟩
    refine ⟨⟨a, E.lt, E.nd⟩, ?_⟩
    have : (A.flatMap held).Perm (List.range n) := (List.perm_ext_iff_of_nodup E.nd List.nodup_range).mpr fun q => by rw [E.mem, List.mem_range]; simp
    rw [this.length_eq, List.length_range]
theorem ec_perm {f : Nat → Bool} {P P' : List Nat} (pm : P.Perm P') (E : EC n held f P) : EC n held f P' :=
  ⟨fun p hp => E.lt p (pm.mem_iff.mpr hp), (pm.flatMap_right held).nodup_iff.mp E.nd, fun q => ((pm.flatMap_right held).mem_iff).symm.trans (E.mem q)⟩
theorem ec_nd (ne : ∀ p, held p ≠ []) {f : Nat → Bool} {P : List Nat} (E : EC n held f P) : P.Nodup := by
  have nd := E.nd
  clear E
  induction P with
  | nil => exact List.nodup_nil
  | cons p P ih =>
    rw [List.flatMap_cons, List.nodup_append] at nd
    rw [List.nodup_cons]
    refine ⟨fun hp => ?_, ih nd.2.1⟩
    obtain ⟨q, hq⟩ := List.exists_mem_of_ne_nil _ (ne p)
    exact nd.2.2 q hq q (List.mem_flatMap.mpr ⟨p, hp, hq⟩) rfl
/-- the search and the sets: the same covers, each once -/
theorem same_covers (hl : ∀ p q, q ∈ held p → q < n) (ne : ∀ p, held p ≠ []) {c k : Nat} (hc : ∀ p, (held p).length = c) (c1 : 1 ≤ c) (hk : n / c ≤ k) {srt : List Nat → List Nat} (sp : ∀ l, (srt l).Perm l) (sa : ∀ l, (srt l).Pairwise (· ≤ ·)) :
    ((fillS n held k (fun _ => true) []).map srt).Perm (whole n held) := by
  have nd1 : ((fillS n held k (fun _ => true) []).map srt).Nodup := by
    rw [List.nodup_iff_pairwise_ne, List.pairwise_map]
    exact (once hl).imp fun {a b} no e => no ((sp a).symm.trans ((List.Perm.of_eq e).trans (sp b)))
  refine (List.perm_ext_iff_of_nodup nd1 (List.Nodup.sublist List.filter_sublist (subs_nd n))).mpr fun A => ?_
  refine Iff.trans ?_ (whole_mem hl).symm
  constructor
  · intro hA
    obtain ⟨o, ho, rfl⟩ := List.mem_map.mp hA
    obtain ⟨P0, e, E⟩ := sound hl ho
    rw [List.nil_append] at e
    subst e
    have E2 := ec_perm (sp o).symm E
    refine ⟨?_, E2⟩
    have nd := List.nodup_iff_pairwise_ne.mp (ec_nd ne E2)
    exact (List.Pairwise.and nd (sa o)).imp fun {a b} h => Nat.lt_of_le_of_ne h.2 h.1
  · rintro ⟨a, E⟩
    have lk : A.length ≤ k := by
      have := ec_len hc E
      refine Nat.le_trans ?_ hk
      rw [← this, Nat.mul_div_cancel _ (by omega)]
      exact Nat.le_refl _
    obtain ⟨P', pm, m⟩ := complete (ps := []) ne E lk
    refine List.mem_map.mpr ⟨_, m, ?_⟩
    rw [List.nil_append]
    refine ((sp P').trans pm).eq_of_pairwise (fun x y _ _ h1 h2 => Nat.le_antisymm h1 h2) (sa P') (a.imp fun {a b} h => Nat.le_of_lt h)
end CovM
namespace SrtD
open PySem PySem.Spec PyProof.Rows L2 DL
theorem lexF_map {lt lt' : D → D → Bool} {f g : Nat → D} (fi : ∀ a b, f a = f b → a = b) (gi : ∀ a b, g a = g b → a = b) (h : ∀ a b, lt (f a) (f b) = lt' (g a) (g b)) (fin : Bool) : ∀ xs ys : List Nat, lexF lt fin (xs.map f) (ys.map f) = lexF lt' fin (xs.map g) (ys.map g)
  | [], ys => by simp [lexF]
  | x :: xs, [] => by simp [lexF]
  | x :: xs, y :: ys => by
    simp only [List.map_cons, lexF]
    by_cases e : x = y
    · subst e
      rw [if_pos rfl, if_pos rfl]
      exact lexF_map fi gi h fin xs ys
    · rw [if_neg fun z => e (fi _ _ z), if_neg fun z => e (gi _ _ z), h]
theorem lexL_map {lt lt' : D → D → Bool} {f g : Nat → D} (fi : ∀ a b, f a = f b → a = b) (gi : ∀ a b, g a = g b → a = b) (h : ∀ a b, lt (f a) (f b) = lt' (g a) (g b)) (xs ys : List Nat) : lexL lt (xs.map f) (ys.map f) = lexL lt' (xs.map g) (ys.map g) := by
  unfold lexL
  rw [List.length_map, List.length_map, List.length_map, List.length_map]
  exact lexF_map fi gi h _ xs ys
end SrtD
namespace CovM
variable {n : Nat} {held : Nat → List Nat}
/-- what A leaves free -/
def freeA (held : Nat → List Nat) (A : List Nat) : Nat → Bool := fun q => !(A.flatMap held).contains q
/-- the places that follow A: br tells those that may hold a number -/
def kids (n : Nat) (held : Nat → List Nat) (br : Nat → List Nat) (A : List Nat) : List (List Nat) :=
  if noneB n (freeA held A) then [] else ((br (fst n (freeA held A))).filter fun p => decide (held p).Nodup && apart held p A).map fun p => A ++ [p]
def lay (n : Nat) (held : Nat → List Nat) (br : Nat → List Nat) : Nat → List (List Nat)
  | 0 => [[]]
  | t + 1 => (lay n held br t).flatMap (kids n held br)
theorem freeA_less (A : List Nat) (p : Nat) : less (freeA held A) (held p) = freeA held (A ++ [p]) := by
  funext q
  unfold less freeA
  rw [List.flatMap_append, Bool.eq_iff_iff]
  simp [not_or]
theorem freeA_nil : freeA held [] = fun _ => true := by
  funext q
  unfold freeA
  simp
theorem all_apart (A : List Nat) (p : Nat) : (held p).all (freeA held A) = apart held p A := rfl
/-- one step of the search, from A on -/
theorem fill_kids {br : Nat → List Nat} (hb : ∀ q, q < n → ((br q).filter fun p => decide (held p).Nodup).Perm (over n held q)) (k : Nat) (A : List Nat) :
    (fillS n held (k + 1) (freeA held A) A).Perm ((if noneB n (freeA held A) then [A] else []) ++ (kids n held br A).flatMap fun B => fillS n held k (freeA held B) B) := by
  show (if noneB n (freeA held A) then [A] else (over n held (fst n (freeA held A))).flatMap fun p => if (held p).all (freeA held A) then fillS n held k (less (freeA held A) (held p)) (A ++ [p]) else []).Perm _
  unfold kids
  by_cases z : noneB n (freeA held A) = true
  · rw [if_pos z, if_pos z, if_pos z]
    exact List.Perm.refl _
  · rw [if_neg z, if_neg z, if_neg z, List.nil_append]
    obtain ⟨f1, _, _⟩ := fst_ok z
    refine ((hb _ f1).symm.flatMap_right _).trans (List.Perm.of_eq ?_)
    generalize br (fst n (freeA held A)) = l
    induction l with
    | nil => rfl
    | cons p l ih =>
      by_cases nd : (held p).Nodup
      · rw [List.filter_cons_of_pos (by rw [decide_eq_true nd]), List.flatMap_cons, ih]
        by_cases ap : apart held p A = true
        · rw [List.filter_cons_of_pos (p := fun p => decide (held p).Nodup && apart held p A) (by show (decide _ && apart held p A) = true; rw [decide_eq_true nd, ap]; rfl), List.map_cons, List.flatMap_cons, all_apart, if_pos ap, freeA_less]
        · rw [List.filter_cons_of_neg (p := fun p => decide (held p).Nodup && apart held p A) (by show ¬ (decide _ && apart held p A) = true; rw [decide_eq_true nd, Bool.true_and]; exact ap), all_apart, if_neg ap, List.nil_append]
      · rw [List.filter_cons_of_neg (by rw [decide_eq_false nd]; exact Bool.false_ne_true), ih, List.filter_cons_of_neg (p := fun p => decide (held p).Nodup && apart held p A) (by show ¬ (decide _ && apart held p A) = true; rw [decide_eq_false nd]; exact Bool.false_ne_true)]
/-- those that are whole -/
def fullA (n : Nat) (held : Nat → List Nat) (A : List Nat) : Bool := noneB n (freeA held A)
theorem lay_fill {br : Nat → List Nat} (hb : ∀ q, q < n → ((br q).filter fun p => decide (held p).Nodup).Perm (over n held q)) : ∀ (k : Nat) (X : List (List Nat)),
    (X.flatMap fun A => fillS n held (k + 1) (freeA held A) A).Perm (X.filter (fullA n held) ++ (X.flatMap (kids n held br)).flatMap fun B => fillS n held k (freeA held B) B)
  | k, [] => List.Perm.refl _
  | k, A :: X => by
    have ih := lay_fill hb k X
    rw [List.flatMap_cons, List.flatMap_cons, List.flatMap_append]
    refine ((fill_kids hb k A).append ih).trans ?_
    by_cases z : fullA n held A = true
    · have z1 : noneB n (freeA held A) = true := z
      rw [List.filter_cons_of_pos z, if_pos z1]
      show (A :: (_ ++ (_ ++ _))).Perm (A :: (_ ++ (_ ++ _)))
      refine List.Perm.cons A ?_
      rw [← List.append_assoc, ← List.append_assoc]
      exact List.Perm.append List.perm_append_comm (List.Perm.refl _)
    · have z1 : ¬ noneB n (freeA held A) = true := z
      rw [List.filter_cons_of_neg z, if_neg z1, List.nil_append]
      rw [← List.append_assoc, ← List.append_assoc]
      exact List.Perm.append List.perm_append_comm (List.Perm.refl _)
/-- all whole ones of the layers from t on -/
theorem lays {br : Nat → List Nat} (hb : ∀ q, q < n → ((br q).filter fun p => decide (held p).Nodup).Perm (over n held q)) : ∀ (k t : Nat),
    ((lay n held br t).flatMap fun A => fillS n held k (freeA held A) A).Perm ((List.range (k + 1)).flatMap fun i => (lay n held br (t + i)).filter (fullA n held))
  | 0, t => by
    refine List.Perm.of_eq ?_
    show _ = (lay n held br (t + 0)).filter (fullA n held) ++ []
    rw [List.append_nil, Nat.add_zero]
    generalize lay n held br t = X
    induction X with
    | nil => rfl
    | cons A X ih =>
      rw [List.flatMap_cons, ih]
      unfold fillS
      by_cases z : fullA n held A = true
      · have z1 : noneB n (freeA held A) = true := z
        rw [List.filter_cons_of_pos z, if_pos z1]
        rfl
      · have z1 : ¬ noneB n (freeA held A) = true := z
        rw [List.filter_cons_of_neg z, if_neg z1]
        rfl
  | k + 1, t => by
    refine (lay_fill hb k (lay n held br t)).trans ?_
    have ih := lays hb k (t + 1)
    rw [List.range_succ_eq_map, List.flatMap_cons, Nat.add_zero]
    refine List.Perm.append (List.Perm.refl _) (ih.trans (List.Perm.of_eq ?_))
    rw [List.flatMap_map]
    congr 1
    funext i
    rw [show t + 1 + i = t + (i + 1) by omega]
/-- all that the layers tell -/
def inLays (n : Nat) (held : Nat → List Nat) (br : Nat → List Nat) (k : Nat) : List (List Nat) := (List.range k).flatMap fun i => (lay n held br i).filter (fullA n held)
theorem layers_whole {br : Nat → List Nat} (hb : ∀ q, q < n → ((br q).filter fun p => decide (held p).Nodup).Perm (over n held q)) (hl : ∀ p q, q ∈ held p → q < n) (ne : ∀ p, held p ≠ []) {c : Nat} (hc : ∀ p, (held p).length = c) (c1 : 1 ≤ c) {srt : List Nat → List Nat} (sp : ∀ l, (srt l).Perm l) (sa : ∀ l, (srt l).Pairwise (· ≤ ·)) :
    ((inLays n held br (n + 1)).map srt).Perm (whole n held) := by
  have a := same_covers hl ne hc c1 (Nat.div_le_self n c) sp sa
  have b := lays hb n 0
  refine List.Perm.trans (List.Perm.map srt ?_) a
  have e : (lay n held br 0).flatMap (fun A => fillS n held n (freeA held A) A) = fillS n held n (fun _ => true) [] := by
    show fillS n held n (freeA held []) [] ++ [] = _
    rw [List.append_nil, freeA_nil]
  rw [e] at b
  refine List.Perm.trans (List.Perm.of_eq ?_) b.symm
  unfold inLays
  congr 1
  funext i
  rw [Nat.zero_add]
end CovM
namespace RepM
open PySem PySem.Spec Builtin.Str
/-- the signs of what is shown -/
def cs (d : PyData) : List Nat := d.shown.cps.toList
def isDg (c : Nat) : Bool := decide (48 ≤ c) && decide (c ≤ 57)
def dig (n : Nat) : List Nat := (Nat.toDigits 10 n).map Char.toNat
theorem dig_dg {n : Nat} : ∀ c ∈ dig n, isDg c = true := fun c hc => by
  unfold dig at hc
  obtain ⟨x, hx, rfl⟩ := List.mem_map.mp hc
  have := Nat.isDigit_of_mem_toDigits (by decide) (by decide) hx
  unfold Char.isDigit at this
  unfold isDg
  rw [Bool.and_eq_true] at this ⊢
  obtain ⟨h1, h2⟩ := this
  have h1 := of_decide_eq_true h1
  have h2 := of_decide_eq_true h2
  exact ⟨decide_eq_true (UInt32.le_iff_toNat_le.mp h1), decide_eq_true (UInt32.le_iff_toNat_le.mp h2)⟩
theorem dig_ne {n : Nat} : dig n ≠ [] := by
  unfold dig
  intro h
  exact Nat.toDigits_ne_nil (List.map_eq_nil_iff.mp h)
theorem cs_nat (n : Nat) : cs (.int (n : Int)) = dig n := by
  unfold cs
  simp only [PyData.shown]
  rw [Str.ofString_eq_toList]
  show ((toString (n : Int)).toList.map Char.toNat) = dig n
  unfold dig
  rw [← Nat.toList_repr]
  rfl
theorem cs_neg (n : Nat) : cs (.int (Int.negSucc n)) = 45 :: dig (n + 1) := by
  unfold cs
  simp only [PyData.shown]
  rw [Str.ofString_eq_toList]
  show ((toString (Int.negSucc n)).toList.map Char.toNat) = _
  unfold dig
  rw [← Nat.toList_repr]
  show (("-" ++ (n + 1).repr : String).toList.map Char.toNat) = _
  rw [String.toList_append, List.map_append]
  rfl
theorem str_app (x y : Str) : (x ++ y).cps.toList = x.cps.toList ++ y.cps.toList := by
  show (x.cps ++ y.cps).toList = _
  simp
def more : List PyData → List Nat
  | [] => [41]
  | y :: r => 44 :: 32 :: (cs y ++ more r)
theorem join_more : ∀ (x : PyData) (r : List PyData), (Str.join ", " (PyData.shownAll (x :: r))).cps.toList ++ [41] = cs x ++ more r
  | x, [] => rfl
  | x, y :: r => by
    have ih := join_more y r
    show (x.shown ++ ", " ++ Str.join ", " (PyData.shownAll (y :: r))).cps.toList ++ [41] = _
    rw [str_app, str_app, List.append_assoc, List.append_assoc, ih]
    rfl
theorem shownAll_len : ∀ ds : List PyData, (PyData.shownAll ds).length = ds.length
  | [] => rfl
  | d :: ds => by
    show (PyData.shownAll ds).length + 1 = ds.length + 1
    rw [shownAll_len ds]
theorem cs_t0 : cs (.tuple []) = [40, 41] := by decide +kernel
theorem cs_t1 (x : PyData) : cs (.tuple [x]) = 40 :: (cs x ++ [44, 41]) := by
  unfold cs
  simp only [PyData.shown]
  unfold tupleText
  rw [str_app, str_app]
  show (40 :: x.shown.cps.toList) ++ [44, 41] = _
  rfl
theorem cs_t2 (x y : PyData) (r : List PyData) : cs (.tuple (x :: y :: r)) = 40 :: (cs x ++ more (y :: r)) := by
  rw [← join_more]
  unfold cs
  simp only [PyData.shown]
  unfold tupleText
  rw [if_neg (by rw [shownAll_len]; simp), str_app, str_app]
  show (40 :: (Str.join ", " (PyData.shownAll (x :: y :: r))).cps.toList) ++ [41] = _
  rfl
theorem textFrom_head : ∀ (ts : List Str) (k : Nat) (acc : Str) (c : Nat) (r : List Nat), acc.cps.toList = c :: r → ∃ r', (textFrom k acc ts).cps.toList = c :: r'
  | [], k, acc, c, r, h => ⟨r, h⟩
  | t :: ts, k, acc, c, r, h => by
    show ∃ r', (textFrom (k + 1) (acc ++ (if k > 0 then ", " else "" : String) ++ t) ts).cps.toList = c :: r'
    refine textFrom_head ts (k + 1) _ c (r ++ ((Str.ofString (if k > 0 then ", " else "" : String)).cps.toList ++ t.cps.toList)) ?_
    rw [str_app, str_app, h]
    simp
theorem fold_head (q : Nat) : ∀ (l : List Nat) (acc : Array Nat) (c : Nat) (r : List Nat), acc.toList = c :: r → ∃ r', (l.foldl (fun out c => out ++ (reprChar q c).toArray) acc).toList = c :: r'
  | [], acc, c, r, h => ⟨r, h⟩
  | x :: l, acc, c, r, h => by
    rw [List.foldl_cons]
    refine fold_head q l _ c (r ++ reprChar q x) ?_
    simp [h]
/-- the first sign -/
theorem first : ∀ d : PyData, ∃ c r, cs d = c :: r ∧ ((∃ i, d = .int i) ∧ (isDg c = true ∨ c = 45) ∨ (∃ xs, d = .tuple xs) ∧ c = 40 ∨ (∀ i, d ≠ .int i) ∧ (∀ xs, d ≠ .tuple xs) ∧ isDg c = false ∧ c ≠ 45 ∧ c ≠ 40 ∧ c ≠ 41 ∧ c ≠ 44)
  | .none => ⟨78, _, rfl, .inr (.inr ⟨(fun _ e => by cases e), (fun _ e => by cases e), by decide, by decide, by decide, by decide, by decide⟩)⟩
  | .bool true => ⟨84, _, rfl, .inr (.inr ⟨(fun _ e => by cases e), (fun _ e => by cases e), by decide, by decide, by decide, by decide, by decide⟩)⟩
  | .bool false => ⟨70, _, rfl, .inr (.inr ⟨(fun _ e => by cases e), (fun _ e => by cases e), by decide, by decide, by decide, by decide, by decide⟩)⟩
  | .int (.ofNat n) => by
    have h := cs_nat n
    cases q : dig n with
    | nil => exact absurd q dig_ne
    | cons c r => exact ⟨c, r, by rw [← q]; exact h, .inl ⟨⟨_, rfl⟩, .inl (dig_dg c (by rw [q]; exact List.mem_cons_self ..))⟩⟩
  | .int (.negSucc n) => ⟨45, _, cs_neg n, .inl ⟨⟨_, rfl⟩, .inr rfl⟩⟩
  | .str x => by
    obtain ⟨r, h⟩ := fold_head (reprQuote x) x.cps.toList #[reprQuote x] (reprQuote x) [] rfl
    have q : reprQuote x = 39 ∨ reprQuote x = 34 := by
      unfold reprQuote
      split <;> simp
    refine ⟨reprQuote x, r ++ [reprQuote x], ?_, .inr (.inr ⟨(fun _ e => by cases e), (fun _ e => by cases e), ?_⟩)⟩
    · unfold cs
      simp only [PyData.shown]
      unfold reprText
      rw [← Array.foldl_toList, Array.toList_push, h]
      rfl
    · rcases q with q | q <;> rw [q] <;> decide
  | .list xs => by
    obtain ⟨r, h⟩ := textFrom_head (PyData.shownAll xs) 0 "[" 91 [] rfl
    refine ⟨91, r ++ [93], ?_, .inr (.inr ⟨(fun _ e => by cases e), (fun _ e => by cases e), by decide, by decide, by decide, by decide, by decide⟩)⟩
    unfold cs
    simp only [PyData.shown]
    unfold listText
    rw [str_app, h]
    rfl
  | .dict kvs => by
    refine ⟨123, (Str.join ", " (PyData.shownKv kvs)).cps.toList ++ [125], ?_, .inr (.inr ⟨(fun _ e => by cases e), (fun _ e => by cases e), by decide, by decide, by decide, by decide, by decide⟩)⟩
    unfold cs
    simp only [PyData.shown]
    unfold dictText
    rw [str_app, str_app]
    rfl
  | .tuple [] => ⟨40, [41], cs_t0, .inr (.inl ⟨⟨_, rfl⟩, rfl⟩)⟩
  | .tuple [x] => ⟨40, _, cs_t1 x, .inr (.inl ⟨⟨_, rfl⟩, rfl⟩)⟩
  | .tuple (x :: y :: r) => ⟨40, _, cs_t2 x y r, .inr (.inl ⟨⟨_, rfl⟩, rfl⟩)⟩
end RepM
namespace PageM
open PySem PySem.Spec DL DO StrM
abbrev Pr := Int × Int
def rowL (L : List Pr) (w : Nat) (y : Int) : List Nat := (List.range w).map fun (x : Nat) => if ((x : Int), y) ∈ L then 35 else 46
def rowS (L : List Pr) (w : Nat) (y : Int) : Str := ⟨(rowL L w y).toArray⟩
def rowsS (L : List Pr) (w h : Nat) : List Str := (List.range h).map fun (y : Nat) => rowS L w (y : Int)
def pageOf (L : List Pr) (w h : Nat) : Str := Str.join ⟨#[10]⟩ (rowsS L w h)
/-- cells within a rectangle that they need -/
structure Grid (L : List Pr) (w h : Nat) : Prop where
  nd : L.Nodup
  ins : ∀ p ∈ L, 0 ≤ p.1 ∧ p.1 < w ∧ 0 ≤ p.2 ∧ p.2 < h
  right : ∃ p ∈ L, p.1 + 1 = w
  low : ∃ p ∈ L, p.2 + 1 = h
  w100 : w ≤ 100
  h100 : h ≤ 100
theorem Grid.ne {L : List Pr} {w h : Nat} (g : Grid L w h) : L ≠ [] := fun e => by
  obtain ⟨p, hp, _⟩ := g.right
  rw [e] at hp
  cases hp
theorem Grid.h0 {L : List Pr} {w h : Nat} (g : Grid L w h) : 0 < h := by
  obtain ⟨p, hp, e⟩ := g.low
  have := g.ins p hp
  omega
theorem rowL_len {L : List Pr} {w : Nat} {y : Int} : (rowL L w y).length = w := by
  unfold rowL
  rw [List.length_map, List.length_range]
theorem rowS_len {L : List Pr} {w : Nat} {y : Int} : (rowS L w y).length = w := by
  show (rowL L w y).toArray.size = w
  rw [List.size_toArray, rowL_len]
theorem rowL_get {L : List Pr} {w x : Nat} {y : Int} (h : x < w) : (rowL L w y)[x]? = some (if ((x : Int), y) ∈ L then 35 else 46) := by
  unfold rowL
  rw [List.getElem?_map, List.getElem?_range h]
  rfl
theorem row_free {L : List Pr} {w : Nat} {y : Int} : (10 : Nat) ∉ (rowS L w y).cps.toList := by
  intro h
  have h : 10 ∈ rowL L w y := h
  unfold rowL at h
  obtain ⟨x, _, e⟩ := List.mem_map.mp h
  split at e <;> cases e
theorem mem35 {L : List Pr} {w : Nat} {y : Int} : 35 ∈ rowL L w y ↔ ∃ x, x < w ∧ ((x : Int), y) ∈ L := by
  unfold rowL
  rw [List.mem_map]
  constructor
  · rintro ⟨x, hx, e⟩
    split at e
    · rename_i q
      exact ⟨x, List.mem_range.mp hx, q⟩
    · cases e
  · rintro ⟨x, hx, q⟩
    exact ⟨x, List.mem_range.mpr hx, if_pos q⟩
theorem split_page {L : List Pr} {w h : Nat} (h0 : 0 < h) : Txt.split (pageOf L w h) ⟨#[10]⟩ = rowsS L w h := by
  refine split_join (fun e => ?_) fun y hy => ?_
  · have := congrArg List.length e
    unfold rowsS at this
    rw [List.length_map, List.length_range] at this
    simp at this
    omega
  · obtain ⟨k, _, rfl⟩ := List.mem_map.mp hy
    exact row_free
/-- the cells that are marked, line by line -/
def lineM (L : List Pr) (w : Nat) (y : Nat) : List Pr := ((List.range w).filter fun (x : Nat) => decide (((x : Int), (y : Int)) ∈ L)).map fun (x : Nat) => ((x : Int), (y : Int))
def marks (L : List Pr) (w h : Nat) : List Pr := ((List.range h).filter fun (y : Nat) => decide (35 ∈ rowL L w (y : Int))).flatMap (lineM L w)
theorem lineM_mem {L : List Pr} {w y : Nat} {p : Pr} : p ∈ lineM L w y ↔ p ∈ L ∧ p.2 = y ∧ 0 ≤ p.1 ∧ p.1 < w := by
  unfold lineM
  simp only [List.mem_map, List.mem_filter, List.mem_range, decide_eq_true_iff]
  constructor
  · rintro ⟨x, ⟨h1, h2⟩, rfl⟩
    exact ⟨h2, rfl, by show (0 : Int) ≤ x; omega, by show (x : Int) < w; omega⟩
  · rintro ⟨h1, h2, h3, h4⟩
    obtain ⟨n, e⟩ := Int.eq_ofNat_of_zero_le h3
    refine ⟨n, ⟨by omega, ?_⟩, ?_⟩
    · have : p = ((n : Int), (y : Int)) := Prod.ext e h2
      rw [← this]
      exact h1
    · exact (Prod.ext e h2).symm
theorem marks_mem {L : List Pr} {w h : Nat} (g : Grid L w h) {p : Pr} : p ∈ marks L w h ↔ p ∈ L := by
  unfold marks
  simp only [List.mem_flatMap, List.mem_filter, List.mem_range, decide_eq_true_iff, lineM_mem]
  constructor
  · rintro ⟨y, _, h1, _⟩
    exact h1
  · intro hp
    obtain ⟨h1, h2, h3, h4⟩ := g.ins p hp
    obtain ⟨n, e⟩ := Int.eq_ofNat_of_zero_le h3
    obtain ⟨m, e2⟩ := Int.eq_ofNat_of_zero_le h1
    refine ⟨n, ⟨by omega, mem35.mpr ⟨m, by omega, ?_⟩⟩, hp, e, h1, h2⟩
    have : p = ((m : Int), (n : Int)) := Prod.ext e2 e
    rw [← this]
    exact hp
theorem lineM_nd {L : List Pr} {w y : Nat} : (lineM L w y).Nodup := by
  unfold lineM
  refine List.pairwise_map.mpr (List.Pairwise.imp (fun {a b} ne e => ne ?_) (List.nodup_range.filter _))
  injection e with e _
  exact Int.ofNat.inj e
theorem marks_nd {L : List Pr} {w h : Nat} : (marks L w h).Nodup := by
  unfold marks
  refine List.pairwise_flatMap.mpr ⟨fun y _ => lineM_nd, ?_⟩
  refine List.Pairwise.imp (fun {a b} ne p hp q hq e => ?_) (List.nodup_range.filter _)
  subst e
  have h1 := (lineM_mem.mp hp).2.1
  have h2 := (lineM_mem.mp hq).2.1
  exact ne (by omega)
theorem marks_perm {L : List Pr} {w h : Nat} (g : Grid L w h) : (marks L w h).Perm L := by
  refine (List.perm_ext_iff_of_nodup marks_nd g.nd).mpr fun p => marks_mem g
/-- how many '#' -/
theorem count_row {L : List Pr} {w y : Nat} : (rowL L w (y : Int)).count 35 = (lineM L w y).length := by
  unfold rowL lineM
  rw [List.length_map, List.count_eq_countP, List.countP_map, List.countP_eq_length_filter]
  congr 1
  refine List.filter_congr fun x _ => ?_
  show ((if ((x : Int), (y : Int)) ∈ L then 35 else 46) == 35) = _
  split
  · rename_i q
    simp [q]
  · rename_i q
    simp [q]
theorem count_jl : ∀ (xs : List (List Nat)), (jl 10 xs).count 35 = (xs.map (List.count 35)).sum
  | [] => rfl
  | [x] => by simp [jl]
  | x :: y :: r => by
    have ih := count_jl (y :: r)
    show (x ++ 10 :: jl 10 (y :: r)).count 35 = _
    rw [List.count_append, List.count_cons, ih]
    simp
theorem len_flat {α β : Type} (f : α → List β) : ∀ (xs : List α), (xs.flatMap f).length = (xs.map fun x => (f x).length).sum
  | [] => rfl
  | x :: xs => by rw [List.flatMap_cons, List.length_append, len_flat f xs]; rfl
theorem sum_filter (f : Nat → Nat) (c : Nat → Bool) (hz : ∀ y, c y = false → f y = 0) : ∀ xs : List Nat, ((xs.filter c).map f).sum = (xs.map f).sum
  | [] => rfl
  | x :: xs => by
    rw [List.map_cons, List.sum_cons, ← sum_filter f c hz xs]
    cases q : c x with
    | true => rw [List.filter_cons_of_pos q]; rfl
    | false => rw [List.filter_cons_of_neg (by rw [q]; exact Bool.false_ne_true), hz x q, Nat.zero_add]
theorem count_page {L : List Pr} {w h : Nat} (g : Grid L w h) : Txt.count (pageOf L w h) ⟨#[35]⟩ = (L.length : Int) := by
  rw [count_one]
  have : (pageOf L w h).cps.toList.count 35 = L.length := by
    unfold pageOf
    rw [join_list, count_jl, ← (marks_perm g).length_eq]
    unfold marks rowsS
    rw [len_flat, List.map_map, List.map_map, sum_filter _ _ (fun y hy => ?_)]
    · congr 1
      refine List.map_congr_left fun y _ => ?_
      exact count_row
    · rw [decide_eq_false_iff_not] at hy
      show (lineM L w y).length = 0
      rw [← count_row]
      exact List.count_eq_zero.mpr hy
  rw [this]
theorem join_nil : ∀ ys : List Str, (Str.join ⟨#[]⟩ ys).cps.toList = (ys.map (·.cps.toList)).flatten
  | [] => rfl
  | [x] => by
    show x.cps.toList = _
    simp
  | x :: y :: r => by
    have ih := join_nil (y :: r)
    show (x.cps ++ #[] ++ (Str.join ⟨#[]⟩ (y :: r)).cps).toList = _
    rw [Array.toList_append, Array.toList_append, ih]
    simp
theorem sum_const {α : Type} (n : Nat) (f : α → Nat) : ∀ xs : List α, (∀ x ∈ xs, f x = n) → (xs.map f).sum = xs.length * n
  | [], _ => by simp
  | x :: xs, h => by
    rw [List.map_cons, List.sum_cons, sum_const n f xs fun y hy => h y (List.mem_cons_of_mem _ hy), h x (List.mem_cons_self ..), List.length_cons, Nat.add_mul]
    omega
theorem rows_sum {L : List Pr} {w h : Nat} : ((rowsS L w h).map (·.length)).sum = h * w := by
  rw [sum_const w (·.length) (rowsS L w h) fun x hx => ?_]
  · unfold rowsS
    rw [List.length_map, List.length_range]
  · obtain ⟨y, _, rfl⟩ := List.mem_map.mp hx
    exact rowS_len
theorem rows_len {L : List Pr} {w h : Nat} : (rowsS L w h).length = h := by
  unfold rowsS
  rw [List.length_map, List.length_range]
theorem len_jl : ∀ xs : List (List Nat), (jl 10 xs).length ≤ (xs.map List.length).sum + xs.length
  | [] => Nat.le_refl _
  | [x] => by simp [jl]
  | x :: y :: r => by
    have ih := len_jl (y :: r)
    show (x ++ 10 :: jl 10 (y :: r)).length ≤ _
    rw [List.length_append, List.length_cons]
    rw [List.map_cons, List.sum_cons, List.length_cons]
    omega
theorem page_len {L : List Pr} {w h : Nat} (g : Grid L w h) : (pageOf L w h).length ≤ 20000 := by
  have e : (pageOf L w h).length = (pageOf L w h).cps.toList.length := by
    rw [Array.length_toList]
    rfl
  rw [e]
  unfold pageOf
  rw [join_list]
  refine Nat.le_trans (len_jl _) ?_
  have s := rows_sum (L := L) (w := w) (h := h)
  rw [List.map_map, List.length_map, rows_len]
  have e2 : ((rowsS L w h).map (List.length ∘ fun x => x.cps.toList)).sum = h * w := by
    rw [← s]
    congr 1
  rw [e2]
  have := Nat.mul_le_mul g.h100 g.w100
  have := g.h100
  omega
/-- a cell put into a line -/
theorem row_set {A : List Pr} {w x : Nat} {y : Int} (hx : x < w) : (rowL A w y).take x ++ 35 :: (rowL A w y).drop (x + 1) = rowL (A ++ [((x : Int), y)]) w y := by
  refine List.ext_getElem? fun k => ?_
  have l1 : ((rowL A w y).take x).length = x := by rw [List.length_take, rowL_len]; omega
  rcases Nat.lt_trichotomy k x with h | h | h
  · rw [List.getElem?_append_left (by omega), List.getElem?_take_of_lt h, rowL_get (by omega), rowL_get (by omega)]
    congr 1
    have : ((k : Int), y) ∈ A ++ [((x : Int), y)] ↔ ((k : Int), y) ∈ A := by
      rw [List.mem_append, List.mem_singleton]
      constructor
      · rintro (h1 | h1)
        · exact h1
        · injection h1 with h1 _
          omega
      · exact .inl
    simp only [this]
  · subst h
    rw [List.getElem?_append_right (by omega), l1, Nat.sub_self, rowL_get hx, if_pos (List.mem_append_right _ (List.mem_singleton.mpr rfl))]
    rfl
  · rw [List.getElem?_append_right (by omega), l1]
    obtain ⟨d, rfl⟩ : ∃ d, k = x + 1 + d := ⟨k - x - 1, by omega⟩
    rw [show x + 1 + d - x = d + 1 by omega, List.getElem?_cons_succ, List.getElem?_drop]
    by_cases hw : x + 1 + d < w
    · rw [rowL_get hw, rowL_get hw]
      congr 1
      have : (((x + 1 + d : Nat) : Int), y) ∈ A ++ [((x : Int), y)] ↔ (((x + 1 + d : Nat) : Int), y) ∈ A := by
        rw [List.mem_append, List.mem_singleton]
        constructor
        · rintro (h1 | h1)
          · exact h1
          · injection h1 with h1 _
            omega
        · exact .inl
      simp only [this]
    · rw [List.getElem?_eq_none (by rw [rowL_len]; omega), List.getElem?_eq_none (by rw [rowL_len]; omega)]
theorem row_other {A : List Pr} {w : Nat} {x y z : Int} (h : z ≠ y) : rowL (A ++ [(x, y)]) w z = rowL A w z := by
  unfold rowL
  refine List.map_congr_left fun k _ => ?_
  have : ((k : Int), z) ∈ A ++ [(x, y)] ↔ ((k : Int), z) ∈ A := by
    rw [List.mem_append, List.mem_singleton]
    constructor
    · rintro (h1 | h1)
      · exact h1
      · injection h1 with _ h1
        exact absurd h1 h
    · exact .inl
  simp only [this]
theorem rows_set {A : List Pr} {w h x y : Nat} (hx : x < w) (hy : y < h) : (rowsS A w h).set y (rowS (A ++ [((x : Int), (y : Int))]) w y) = rowsS (A ++ [((x : Int), (y : Int))]) w h := by
  refine List.ext_getElem? fun k => ?_
  rw [List.getElem?_set]
  split
  · rename_i e
    subst e
    rw [if_pos (by rw [rows_len]; exact hy)]
    unfold rowsS
    rw [List.getElem?_map, List.getElem?_range hy]
    rfl
  · rename_i ne
    unfold rowsS
    rw [List.getElem?_map, List.getElem?_map]
    by_cases hk : k < h
    · rw [List.getElem?_range hk]
      show some _ = some _
      congr 1
      unfold rowS
      dsimp only
      rw [row_other (show ((k : Nat) : Int) ≠ (y : Int) by omega)]
    · rw [List.getElem?_eq_none (by rw [List.length_range]; omega)]
      rfl
theorem rows_nil {w h : Nat} : rowsS [] w h = List.replicate h ⟨(List.replicate w 46).toArray⟩ := by
  unfold rowsS rowS rowL
  rw [List.eq_replicate_iff]
  refine ⟨by simp, fun b hb => ?_⟩
  obtain ⟨y, _, rfl⟩ := List.mem_map.mp hb
  congr 1
  congr 1
  rw [List.eq_replicate_iff]
  exact ⟨by simp, fun b hb => by
    obtain ⟨x, _, rfl⟩ := List.mem_map.mp hb
    simp⟩
end PageM
namespace K74
open PySem PySem.Spec PyProof.Rows L2 Evl Lay ErrX DL
def top (i : Nat) : Stmt := PySem.Challenge.pw_shovefloors_k74_whole_floors_certified.main.body.getD i (.Pass ⟨0, 0, 0, 0⟩)
structure Txt (mg : Str → Option Value) : Prop where
  z_abs : mg "abs" = none
  z_all : mg "all" = none
  z_bool : mg "bool" = none
  z_divmod : mg "divmod" = none
  z_enumerate : mg "enumerate" = none
  z_int : mg "int" = none
  z_isinstance : mg "isinstance" = none
  z_len : mg "len" = none
  z_list : mg "list" = none
  z_max : mg "max" = none
  z_min : mg "min" = none
  z_range : mg "range" = none
  z_repr : mg "repr" = none
  z_set : mg "set" = none
  z_sorted : mg "sorted" = none
  z_str : mg "str" = none
  z_sum : mg "sum" = none
  z_tuple : mg "tuple" = none
  z_zip : mg "zip" = none
  m_MOST_CELLS : ∃ t, mg "MOST_CELLS" = some (.int 24 t)
  m_MOST_PLACE : ∃ t, mg "MOST_PLACE" = some (.int 1000 t)
  m_MOST_ROLLED : ∃ t, mg "MOST_ROLLED" = some (.int 36 t)
  m_MOST_TO_TURN : ∃ t, mg "MOST_TO_TURN" = some (.int 12 t)
section
variable {P : Program} {w : World} {K : PySem.W.Frag} {mg : Str → Option Value} {base : Heap}
abbrev s_take : Stmt := top 96
abbrev N_take : List Str := ["_law_bag_here", "_law_top", "_law_seed", "_law_upper", "_law_digit"]
abbrev P_take : List Str := ["_law_bag_here", "_law_top"]
theorem sc_take : FnScope N_take P_take (defScope s_take) := ⟨rfl, rfl, rfl, by decide +kernel, rfl, by decide +kernel, by decide +kernel⟩
def spTakeL : Sp := fun vs H Q _ => ∃ (j : Addr) (a b c top : Int), vs = [.ref j, .int top] ∧ H j = some (.lst [.int a, .int b, .int c]) ∧ RBag a b c ∧ 0 < top ∧ top < 1073741824 ∧
  ∀ (r a' b' c' : Int) H', 0 ≤ r → r < top → RBag a' b' c' → Ex (upd H j (.lst [.int a', .int b', .int c'])) H' → Q (.int r) H'
section
variable {P : Program} {w : World} {K : PySem.W.Frag} {mg : Str → Option Value} {base : Heap}
theorem d_take0 (D : DefIn K mg "_law_take" s_take P_take) (T : Txt mg) : DefOk P w K mg base "_law_take" 1 P_take spTakeL := by
  refine defok D sc_take (fun vs H Q E h => ?_) (fun f cdv A outer s H vs Q E hr hg h => ?_)
  · obtain ⟨j, a, b, c, top, rfl, _⟩ := h
    rfl
  obtain ⟨j, a, b, c, top, rfl, hj, ⟨hb0, ha0, ha1⟩, ht, ht2, k⟩ := h
  have SC := sc_take
  refine ⟨_, (pss_cons (ps_asg (pe_op op_add (pe_ix ix_list (pv 0) pe_int (fun _ _ => rfl)) pe_int) (pg_sub (pv 0) pe_int set_list)) (pss_cons (ps_set (i := 2) SC.nd rfl (Or.inl rfl) (pe_callTy call_int1 (by rfl) T.z_int (by decide +kernel) (pa_cons (pe_ix ix_list (pv 0) pe_int (fun _ _ => rfl)) pa_nil))) (pss_cons (ps_set (i := 3) SC.nd rfl (Or.inl rfl) (pe_op op_fdivN (pv 2) pe_int)) (pss_cons (ps_asg (pe_op op_modN (pe_callTy call_int1 (by rfl) T.z_int (by decide +kernel) (pa_cons (pe_op op_add (pe_op op_add (pe_op op_add (pe_op op_mul (pv 2) pe_int) (pe_op op_mul (pv 3) (pv 3))) (pe_op op_mul pe_int (pe_ix ix_list (pv 0) pe_int (fun _ _ => rfl)))) pe_int) pa_nil)) pe_int) (pg_sub (pv 0) pe_int set_list)) (pss_cons (ps_if (pt_cmpR op_gt (pe_ix ix_list (pv 0) pe_int (fun _ _ => rfl)) pe_int (nomark _)) (pss_cons (ps_asg (pe_callB call_divmod (by rfl) T.z_divmod (by decide +kernel) (pa_cons (pe_ix ix_list (pv 0) pe_int (fun _ _ => rfl)) (pa_cons (pv 1) pa_nil))) (pg_tup (by rfl) (pgs_cons (pg_sub (pv 0) pe_int set_list) (pgs_cons (pg_name (i := 4) SC.nd rfl (Or.inl rfl)) pgs_nil)))) (pss_one (ps_ret (pv 4)))) pss_nil) (pss_one (ps_ret (pe_op op_modN (pe_callTy call_int1 (by rfl) T.z_int (by decide +kernel) (pa_cons (pe_op op_fdivN (pe_ix ix_list (pv 0) pe_int (fun _ _ => rfl)) pe_int) pa_nil)) (pv 1))))))))), ?_⟩
  refine q_setL hj (ev_op (ev_op (ev_var rfl) ev_c (rv_ixL (K := K) (sq_of hj) rfl)) ev_c rv_I0) (ev_var rfl) ev_c (j := 2) (by show 2 < 3; decide) fun H1 e1 => ?_
  have j1 : (upd H1 j (.lst ([V.int a, V.int b, V.int c].set 2 (V.int (c + 1))))) j = some (.lst [V.int a, V.int b, V.int (c + 1)]) := upd_same
  refine q_asg (ev_int1 (ev_op (ev_var rfl) ev_c (rv_ixL (K := K) (sq_of j1) rfl))) fun H2 e2 => ?_
  refine q_asg (v := .int (a.fdiv 4093)) (ev_op (ev_var rfl) ev_c (rv_I ⟨by decide, by decide⟩)) fun H3 e3 => ?_
  have j3 := e3 _ _ (e2 _ _ j1)
  have u1 : -100000000000 < a.fdiv 4093 ∧ a.fdiv 4093 < 100000000000 := by
    rw [Int.fdiv_eq_ediv_of_nonneg a (by decide)]
    omega
  refine q_setL (v := .int ((a * 39373 + a.fdiv 4093 * a.fdiv 4093 + 92821 * (c + 1) + 5).fmod 2147483587)) (j := 0) j3 (ev_op (ev_int1 (ev_op (ev_op (ev_op (ev_op (ev_var rfl) ev_c (rv_I (.inr (by omega)))) (ev_op (ev_var rfl) (ev_var rfl) (rv_I (.inl (by omega)))) rv_I0) (ev_op ev_c (ev_op (ev_var rfl) ev_c (rv_ixL (K := K) (sq_of j3) rfl)) (rv_I (.inl (by omega)))) rv_I0) ev_c rv_I0)) ev_c (rv_I (by decide))) (ev_var rfl) ev_c (by show 0 < 3; decide) fun H4 e4 => ?_
  have j4 : (upd H4 j (.lst ([V.int a, V.int b, V.int (c + 1)].set 0 (V.int ((a * 39373 + a.fdiv 4093 * a.fdiv 4093 + 92821 * (c + 1) + 5).fmod 2147483587))))) j = some (.lst [V.int ((a * 39373 + a.fdiv 4093 * a.fdiv 4093 + 92821 * (c + 1) + 5).fmod 2147483587), V.int b, V.int (c + 1)]) := upd_same
  have t1 : 0 ≤ (a * 39373 + a.fdiv 4093 * a.fdiv 4093 + 92821 * (c + 1) + 5).fmod 2147483587 := Int.fmod_nonneg_of_pos _ (by decide)
  have t2 : (a * 39373 + a.fdiv 4093 * a.fdiv 4093 + 92821 * (c + 1) + 5).fmod 2147483587 < 2147483587 := Int.fmod_lt_of_pos _ (by decide)
  generalize (a * 39373 + a.fdiv 4093 * a.fdiv 4093 + 92821 * (c + 1) + 5).fmod 2147483587 = y at j4 t1 t2
  have m4 : ExM j H (upd H4 j (.lst ([V.int a, V.int b, V.int (c + 1)].set 0 (V.int y)))) := ((((Ex.m e1).upd.trans (Ex.m e2)).trans (Ex.m e3)).trans (Ex.m e4)).upd
  refine q_when (et_test (ev_op (ev_op (ev_var rfl) ev_c (rv_ixL (K := K) (sq_of j4) rfl)) ev_c rv_I0)) (fun hb H5 e5 => ?_) (fun hb H5 e5 => ?_)
  · have hpos : 0 < b := of_decide_eq_true hb
    have j5 := e5 j _ j4
    refine q_asgGU (eu_divmod (i := b) (j := top) (ea_cons (ev_op (ev_var rfl) ev_c (rv_ixL (K := K) (sq_of j5) rfl)) (ea_cons (ev_var rfl) ea_nil)) ⟨ht, ht2⟩) fun p H6 hp e6 h6 => ?_
    have j6 := e6 j _ j5
    refine g_tup (st_of h6) rfl (g_cons (g_setL j6 (ev_var rfl) ev_c (j := 1) (by show 1 < 3; decide) fun H7 e7 => g_cons (g_name (g_nil ?_))))
    refine s_ret (ev_var rfl) fun H8 e8 => ?_
    refine k (b % top) y (b / top) (c + 1) H8 (Int.emod_nonneg _ (by omega)) (Int.emod_lt_of_pos _ ht) ⟨Int.ediv_nonneg hb0 (by omega), t1, by omega⟩ ?_
    exact ExM.fin (j := j) ((((m4.trans (Ex.m e5)).trans (Ex.m e6)).trans (Ex.m e7)).upd.trans (Ex.m e8)) (e8 _ _ upd_same)
  · have j5 := e5 j _ j4
    refine s_ret (ev_op (ev_int1 (ev_op (ev_op (ev_var rfl) ev_c (rv_ixL (K := K) (sq_of j5) rfl)) ev_c (rv_I ⟨by decide, by decide⟩))) (ev_var rfl) (rv_I (by omega))) fun H6 e6 => ?_
    refine k _ y b (c + 1) H6 (Int.fmod_nonneg_of_pos _ ht) (Int.fmod_lt_of_pos _ ht) ⟨hb0, t1, by omega⟩ ?_
    exact ExM.fin (j := j) ((m4.trans (Ex.m e5)).trans (Ex.m e6)) (e6 _ _ j5)
def spTake : Sp := fun vs H Q _ => ∃ (j : Addr) (top : Int), vs = [.ref j, .int top] ∧ H j = some (bagO j) ∧ 0 < top ∧ top < 1073741824 ∧ ∀ (r : Int) H', 0 ≤ r → r < top → Ex H H' → Q (.int r) H'
theorem r_take (D : DefIn K mg "_law_take" s_take P_take) (T : Txt mg) : DefOk P w K mg base "_law_take" 1 P_take spTake := by
  refine (d_take0 D T).gst (fun vs H Q E h => ?_) (fun vs H Q E hp h hok => ?_)
  · obtain ⟨j, top, rfl, _⟩ := h
    rfl
  · obtain ⟨j, top, rfl, hj, h1, h2, k⟩ := h
    obtain ⟨a, b, c, ha, g⟩ := tri_open (R := RBag) hj hok
    refine ⟨_, g, j, a, b, c, top, rfl, upd_same, ha, h1, h2, fun r a' b' c' H' r1 r2 ha' e => ?_⟩
    rw [upd_upd] at e
    have hj' := e j _ upd_same
    exact ⟨_, fun hp' => tri_close (R := RBag) hj' ha', k r _ r1 r2 (ex_tri hj e)⟩
abbrev s_bag : Stmt := top 95
abbrev N_bag : List Str := ["_law_script", "_law_spot", "_law_own_part", "_law_each"]
abbrev P_bag : List Str := ["_law_script", "_law_spot"]
theorem sc_bag : FnScope N_bag P_bag (defScope s_bag) := ⟨rfl, rfl, rfl, by decide +kernel, rfl, by decide +kernel, by decide +kernel⟩
def spBagL (K : PySem.W.Frag) : Sp := fun vs H Q _ => ∃ (a : Addr) (ns : List Int) (n : Nat), vs = [.ref a, .int (n : Int)] ∧ SqL K H a (ns.map V.int) ∧ ns.length ≤ 63 ∧ n ≤ 100 ∧
  ∀ (p : Addr) (x y : Int) H', H p = none → RBag x y 0 → Ex H H' → H' p = some (.lst [.int x, .int y, .int 0]) → Q (.ref p) H'
theorem d_bag0 (D : DefIn K mg "_law_bag" s_bag P_bag) (T : Txt mg) : DefOk P w K mg base "_law_bag" 1 P_bag (spBagL K) := by
  refine defok D sc_bag (fun vs H Q E h => ?_) (fun f cdv A outer s H vs Q E hr hg h => ?_)
  · obtain ⟨a, ns, n, rfl, _⟩ := h
    rfl
  obtain ⟨a, ns, n, rfl, hs, l1, l2, k⟩ := h
  have SC := sc_bag
  refine ⟨_, (pss_cons (ps_set (i := 2) SC.nd rfl (Or.inl rfl) (pe_ifExp (pt_cmpR op_lt (pv 1) (pe_callB call_len (by rfl) T.z_len (by decide +kernel) (pa_cons (pv 0) pa_nil)) (nomark _)) (pe_ix ix_list (pv 0) (pv 1) (fun _ _ => rfl)) (pe_op op_add (pe_op op_mul pe_int (pv 1)) pe_int))) (pss_cons (ps_for PassesOwn.never rfl (pi_list (pe_ifExp (pt_cmpR op_ge (pv 1) (pe_callB call_len (by rfl) T.z_len (by decide +kernel) (pa_cons (pv 0) pa_nil)) (nomark _)) (pe_slice sl_list (pv 0) po_none (po_some pe_int)) (pe_lst pa_nil))) (pg_name (i := 3) SC.nd rfl (Or.inl rfl)) (pss_one (ps_set (i := 2) SC.nd rfl (Or.inl rfl) (pe_op op_modN (pe_callTy call_int1 (by rfl) T.z_int (by decide +kernel) (pa_cons (pe_op op_add (pe_op op_mul (pv 2) pe_int) (pv 3)) pa_nil)) pe_int)))) (pss_one (ps_ret (pe_lst (pa_cons (pe_op op_modN (pe_callTy call_int1 (by rfl) T.z_int (by decide +kernel) (pa_cons (pv 2) pa_nil)) pe_int) (pa_cons (pe_ifExp (PW.pt (pw_or (pt_cmpR op_lt (pv 2) pe_int (nomark _)) (pw_or1 (pt_cmpR op_ge (pv 2) (pe_op op_pow pe_int pe_int) (nomark _))))) (pe_callB call_abs (by rfl) T.z_abs (by decide +kernel) (pa_cons (pv 2) pa_nil)) pe_int) (pa_cons pe_int pa_nil)))))))), ?_⟩
  refine q_asgP (P := fun v _ => ∃ c : Int, v = .int c) (evp_if (et_test (ev_op (ev_var rfl) (ev_cb (ea_cons (ev_var rfl) ea_nil) (rc_lenL hs)) rv_I0)) (fun hb => ?_) fun hb => ?_) fun v H1 e1 p => ?_
  · have hn : n < (ns.map V.int).length := by
      have := of_decide_eq_true hb
      omega
    have hn2 : n < ns.length := by simpa using hn
    have hv : (ns.map V.int)[n]? = some (.int ns[n]) := by
      rw [List.getElem?_map, List.getElem?_eq_getElem hn2]
      rfl
    exact Ev.pp (ev_op (ev_var rfl) (ev_var rfl) (rv_ixL hs (atI_nat hv))) fun _ _ => ⟨_, rfl⟩
  · exact Ev.pp (ev_op (ev_op ev_c (ev_var rfl) (rv_I (.inl (by omega)))) ev_c rv_I0) fun _ _ => ⟨_, rfl⟩
  obtain ⟨c, rfl⟩ := p
  have hs1 := ex_l e1 hs
  have all : ∀ v ∈ (if decide (((ns.map V.int).length : Nat) ≤ (n : Int)) = true then cutV (ns.map V.int) none (some 3) else []), ∃ i : Int, v = .int i := fun v hv => by
    split at hv
    · obtain ⟨i, _, rfl⟩ := List.mem_map.mp (cutV_mem hv)
      exact ⟨i, rfl⟩
    · cases hv
  refine q_forNLn (xs := if decide (((ns.map V.int).length : Nat) ≤ (n : Int)) = true then cutV (ns.map V.int) none (some 3) else []) (el_if (et_test (ev_op (ev_var rfl) (ev_cb (ea_cons (ev_var rfl) ea_nil) (rc_lenL hs1)) rv_I0)) (fun hb => ?_) fun hb => ?_)
    (fun p i σ' H' => Ex H H' ∧ H' p = some (.lst (if decide (((ns.map V.int).length : Nat) ≤ (n : Int)) = true then cutV (ns.map V.int) none (some 3) else [])) ∧ ∃ (m : Int) (z : Option V), σ' = [some (.ref a), some (.int (n : Int)), some (.int m), z]) (fun p H3 hp e3 h3 => ?_) (fun p i σ' H' _ q => sq_of q.2.1) (fun p i x σ' H' hx q => ?_) fun p σ' H' q => ?_
  · rw [if_pos hb]
    exact el_sl (ev_var rfl) eo_none (eo_some ev_c) hs1
  · rw [if_neg (by rw [hb]; decide)]
    exact el_lst ea_nil (by decide)
  · exact ⟨e1.trans e3, h3, _, none, rfl⟩
  · obtain ⟨e3, h3, m, z, rfl⟩ := q
    obtain ⟨y, rfl⟩ := all x (List.mem_of_getElem? hx)
    refine s_asg (ev_op (ev_int1 (ev_op (ev_op (ev_var rfl) ev_c (rv_I (.inr (by omega)))) (ev_var rfl) rv_I0)) ev_c (rv_I (by decide))) fun H4 e4 => ?_
    exact ⟨e3.trans e4, e4 _ _ h3, _, _, rfl⟩
  · obtain ⟨e3, h3, m, z, rfl⟩ := q
    have cond : EvT (tOr (tTest (tOp (rI0 fun i j => V.bl (decide (i < j))) (tVar 2) (tC (V.int 0)))) (tTest (tOp (rI0 fun i j => V.bl (decide (j ≤ i))) (tVar 2) (tOp (rI CPow fun i j => V.int (i ^ j.toNat)) (tC (V.int 10)) (tC (V.int 18))))))
        [some (.ref a), some (.int (n : Int)), some (.int m), z] H' (decide (m < 0) || decide ((10 : Int) ^ (18 : Int).toNat ≤ m)) :=
      et_or (et_test (ev_op (ev_var rfl) ev_c rv_I0)) fun _ => et_test (ev_op (ev_var rfl) (ev_op ev_c ev_c (rv_I ⟨by decide, by decide, by decide⟩)) rv_I0)
    refine s_retL (xs := [.int (m.fmod 2147483587), .int (if (decide (m < 0) || decide ((10 : Int) ^ (18 : Int).toNat ≤ m)) = true then (if m < 0 then -m else m) else 0), .int 0]) (el_lst (ea_cons (ev_op (ev_int1 (ev_var rfl)) ev_c (rv_I (by decide))) (ea_cons (ev_if cond (fun hb => ?_) fun hb => ?_) (ea_cons ev_c ea_nil))) (by show 3 ≤ 100000; decide)) fun p' H4 hp' e4 h4 => ?_
    · rw [if_pos hb]
      exact ev_cb (ea_cons (ev_var rfl) ea_nil) rc_abs
    · rw [if_neg (by rw [hb]; decide)]
      exact ev_c
    · have s1 : 0 ≤ m.fmod 2147483587 := Int.fmod_nonneg_of_pos _ (by decide)
      have s2 : m.fmod 2147483587 < 2147483587 := Int.fmod_lt_of_pos _ (by decide)
      refine k p' _ _ H4 (fresh_back e3 hp') ⟨?_, s1, by omega⟩ (e3.trans e4) h4
      split
      · split <;> omega
      · exact Int.le_refl _
def spBag (K : PySem.W.Frag) : Sp := fun vs H Q _ => ∃ (a : Addr) (ns : List Int) (n : Nat), vs = [.ref a, .int (n : Int)] ∧ SqL K H a (ns.map V.int) ∧ ns.length ≤ 63 ∧ n ≤ 100 ∧
  ∀ (p : Addr) H', H p = none → Ex H H' → H' p = some (bagO p) → Q (.ref p) H'
theorem r_bag (D : DefIn K mg "_law_bag" s_bag P_bag) (T : Txt mg) : DefOk P w K mg base "_law_bag" 1 P_bag (spBag K) := by
  refine (d_bag0 D T).gst (fun vs H Q E h => ?_) (fun vs H Q E hp h hok => ?_)
  · obtain ⟨a, ns, n, rfl, _⟩ := h
    rfl
  · obtain ⟨a, ns, n, rfl, hs, l1, l2, k⟩ := h
    refine ⟨H, Gst.refl H, a, ns, n, rfl, hs, l1, l2, fun p x y H' hp hx e h => ?_⟩
    refine ⟨_, fun hp' => tri_close (R := RBag) (c := 0) h hx, k p _ hp (fun b o q => ?_) upd_same⟩
    rw [upd_ne (ne_of_none q hp)]
    exact e b o q
end
section
variable {P : Program} {w : World} {K : PySem.W.Frag} {mg : Str → Option Value} {base : Heap}
def S_take : List D → (D → Prop) → Prop := fun ds Q => match ds with
  | [.p 1, .i top] => (0 < top ∧ top < 1073741824) ∧ ∀ r : Int, 0 ≤ r → r < top → Q (.i r)
  | _ => False
theorem d_take (D : DefIn K mg "_law_take" s_take P_take) (T : Txt mg) : DefOk P w K mg base "_law_take" 1 P_take (spD K S_take) := (r_take D T).imp fun vs H Q E ⟨F, ds, P, e, ra, s, q⟩ => by
  unfold S_take at s
  split at s
  · rename_i top
    cases ra with
    | cons a ra =>
      cases ra with
      | cons b ra =>
        cases ra
        cases b
        cases a with
        | @p a _ hj => exact ⟨a, top, rfl, e _ _ hj, s.1.1, s.1.2, fun r H' r1 r2 x => q _ _ F H' (s.2 r r1 r2) (Ext.heap e x) (.i r)⟩
  · exact s.elim
def S_bag : List D → (D → Prop) → Prop := fun ds Q => match ds with
  | [.c ns, .i n] => ((ns.length ≤ 63 ∧ ∀ z ∈ ns, Builtin.Int.intBits z ≤ 1048576) ∧ 0 ≤ n ∧ n ≤ 100) ∧ Q (.p 1)
  | _ => False
theorem d_bag (D : DefIn K mg "_law_bag" s_bag P_bag) (T : Txt mg) : DefOk P w K mg base "_law_bag" 1 P_bag (spD K S_bag) := (r_bag D T).imp fun vs H Q E ⟨F, ds, P, e, ra, s, q⟩ => by
  unfold S_bag at s
  split at s
  · rename_i ns n
    obtain ⟨⟨⟨s1, sb⟩, s2, s3⟩, s4⟩ := s
    obtain ⟨m, rfl⟩ := Int.eq_ofNat_of_zero_le s2
    cases ra with
    | cons a ra =>
      cases ra with
      | cons b ra =>
        cases ra
        cases b
        cases a with
        | @c a _ hs => exact ⟨a, ns, m, rfl, ex_l e hs, s1, by omega, fun p H' hp x hj => q _ _ (upd F p (triO (RK 1) p)) H' s4 ⟨Ex.new (fresh_back e hp), ExT.of x, ex_told (e.trans x) hj, TabG.of x, fun a o z n => by
            by_cases y : a = p
            · rw [y]
              exact hp
            · rw [upd_ne y, n] at z
              cases z⟩ (.p 1 upd_same)⟩
  · exact s.elim
end
end
end K74
namespace K74
open PySem PySem.Spec PyProof.Rows L2 Evl Lay ErrX DL TE DO ShM CovM BitP
abbrev Pr := Int × Int
abbrev s_is_int : Stmt := top 16
abbrev N_is_int : List Str := ["value"]
abbrev P_is_int : List Str := ["value"]
theorem sc_is_int : FnScope N_is_int P_is_int (defScope s_is_int) := ⟨rfl, rfl, rfl, by decide +kernel, rfl, by decide +kernel, by decide +kernel⟩
abbrev s_is_ints : Stmt := top 17
abbrev N_is_ints : List Str := ["value", "many", "part"]
abbrev P_is_ints : List Str := ["value", "many"]
theorem sc_is_ints : FnScope N_is_ints P_is_ints (defScope s_is_ints) := ⟨rfl, rfl, rfl, by decide +kernel, rfl, by decide +kernel, by decide +kernel⟩
abbrev s_is_within : Stmt := top 21
abbrev N_is_within : List Str := ["value", "least", "most"]
abbrev P_is_within : List Str := ["value", "least", "most"]
theorem sc_is_within : FnScope N_is_within P_is_within (defScope s_is_within) := ⟨rfl, rfl, rfl, by decide +kernel, rfl, by decide +kernel, by decide +kernel⟩
abbrev s_is_pair : Stmt := top 18
abbrev N_is_pair : List Str := ["value"]
abbrev P_is_pair : List Str := ["value"]
theorem sc_is_pair : FnScope N_is_pair P_is_pair (defScope s_is_pair) := ⟨rfl, rfl, rfl, by decide +kernel, rfl, by decide +kernel, by decide +kernel⟩
abbrev s_is_place : Stmt := top 19
abbrev N_is_place : List Str := ["value"]
abbrev P_is_place : List Str := ["value"]
theorem sc_is_place : FnScope N_is_place P_is_place (defScope s_is_place) := ⟨rfl, rfl, rfl, by decide +kernel, rfl, by decide +kernel, by decide +kernel⟩
abbrev s_is_lattice : Stmt := top 20
abbrev N_is_lattice : List Str := ["value"]
abbrev P_is_lattice : List Str := ["value"]
theorem sc_is_lattice : FnScope N_is_lattice P_is_lattice (defScope s_is_lattice) := ⟨rfl, rfl, rfl, by decide +kernel, rfl, by decide +kernel, by decide +kernel⟩
abbrev s_first_wrong : Stmt := top 22
abbrev N_first_wrong : List Str := ["values", "most", "seen", "index", "value"]
abbrev P_first_wrong : List Str := ["values", "most"]
theorem sc_first_wrong : FnScope N_first_wrong P_first_wrong (defScope s_first_wrong) := ⟨rfl, rfl, rfl, by decide +kernel, rfl, by decide +kernel, by decide +kernel⟩
abbrev s_is_nonempty : Stmt := top 23
abbrev N_is_nonempty : List Str := ["value"]
abbrev P_is_nonempty : List Str := ["value"]
theorem sc_is_nonempty : FnScope N_is_nonempty P_is_nonempty (defScope s_is_nonempty) := ⟨rfl, rfl, rfl, by decide +kernel, rfl, by decide +kernel, by decide +kernel⟩
abbrev s_check_cells : Stmt := top 24
abbrev N_check_cells : List Str := ["cells", "index"]
abbrev P_check_cells : List Str := ["cells"]
theorem sc_check_cells : FnScope N_check_cells P_check_cells (defScope s_check_cells) := ⟨rfl, rfl, rfl, by decide +kernel, rfl, by decide +kernel, by decide +kernel⟩
abbrev s_check_number : Stmt := top 26
abbrev N_check_number : List Str := ["number", "least", "most"]
abbrev P_check_number : List Str := ["number", "least", "most"]
theorem sc_check_number : FnScope N_check_number P_check_number (defScope s_check_number) := ⟨rfl, rfl, rfl, by decide +kernel, rfl, by decide +kernel, by decide +kernel⟩
abbrev s_from_zero : Stmt := top 28
abbrev N_from_zero : List Str := ["cells", "left", "x", "y", "top"]
abbrev P_from_zero : List Str := ["cells"]
theorem sc_from_zero : FnScope N_from_zero P_from_zero (defScope s_from_zero) := ⟨rfl, rfl, rfl, by decide +kernel, rfl, by decide +kernel, by decide +kernel⟩
abbrev s_check_shape : Stmt := top 35
abbrev N_check_shape : List Str := ["shape"]
abbrev P_check_shape : List Str := ["shape"]
theorem sc_check_shape : FnScope N_check_shape P_check_shape (defScope s_check_shape) := ⟨rfl, rfl, rfl, by decide +kernel, rfl, by decide +kernel, by decide +kernel⟩
abbrev s_rest_of : Stmt := top 37
abbrev N_rest_of : List Str := ["lattice", "cell", "wide", "slip", "high", "x", "y"]
abbrev P_rest_of : List Str := ["lattice", "cell"]
theorem sc_rest_of : FnScope N_rest_of P_rest_of (defScope s_rest_of) := ⟨rfl, rfl, rfl, by decide +kernel, rfl, by decide +kernel, by decide +kernel⟩
abbrev s_holds_each_once : Stmt := top 38
abbrev N_holds_each_once : List Str := ["lattice", "cells", "wide", "_", "high", "cell"]
abbrev P_holds_each_once : List Str := ["lattice", "cells"]
theorem sc_holds_each_once : FnScope N_holds_each_once P_holds_each_once (defScope s_holds_each_once) := ⟨rfl, rfl, rfl, by decide +kernel, rfl, by decide +kernel, by decide +kernel⟩
abbrev s_both_cells : Stmt := top 57
abbrev N_both_cells : List Str := ["shape", "floor", "c", "d", "x", "y"]
abbrev P_both_cells : List Str := ["shape", "floor"]
theorem sc_both_cells : FnScope N_both_cells P_both_cells (defScope s_both_cells) := ⟨rfl, rfl, rfl, by decide +kernel, rfl, by decide +kernel, by decide +kernel⟩
abbrev s_is_floor : Stmt := top 58
abbrev N_is_floor : List Str := ["shape", "floor"]
abbrev P_is_floor : List Str := ["shape", "floor"]
theorem sc_is_floor : FnScope N_is_floor P_is_floor (defScope s_is_floor) := ⟨rfl, rfl, rfl, by decide +kernel, rfl, by decide +kernel, by decide +kernel⟩
abbrev s_has_form : Stmt := top 59
abbrev N_has_form : List Str := ["value"]
abbrev P_has_form : List Str := ["value"]
theorem sc_has_form : FnScope N_has_form P_has_form (defScope s_has_form) := ⟨rfl, rfl, rfl, by decide +kernel, rfl, by decide +kernel, by decide +kernel⟩
abbrev s_is_turned_floor : Stmt := top 61
abbrev N_is_turned_floor : List Str := ["shape", "floor"]
abbrev P_is_turned_floor : List Str := ["shape", "floor"]
theorem sc_is_turned_floor : FnScope N_is_turned_floor P_is_turned_floor (defScope s_is_turned_floor) := ⟨rfl, rfl, rfl, by decide +kernel, rfl, by decide +kernel, by decide +kernel⟩
abbrev s_lattices_with : Stmt := top 40
abbrev N_lattices_with : List Str := ["many", "wide", "slip"]
abbrev P_lattices_with : List Str := ["many"]
theorem sc_lattices_with : FnScope N_lattices_with P_lattices_with (defScope s_lattices_with) := ⟨rfl, rfl, rfl, by decide +kernel, rfl, by decide +kernel, by decide +kernel⟩
abbrev s_held_by : Stmt := top 49
abbrev N_held_by : List Str := ["shape", "wide", "high", "number", "left", "top", "x", "y"]
abbrev P_held_by : List Str := ["shape", "wide", "high", "number"]
theorem sc_held_by : FnScope N_held_by P_held_by (defScope s_held_by) := ⟨rfl, rfl, rfl, by decide +kernel, rfl, by decide +kernel, by decide +kernel⟩
abbrev s_copies_over : Stmt := top 50
abbrev N_copies_over : List Str := ["shape", "wide", "high", "found", "_", "place", "numbers", "bits", "number"]
abbrev P_copies_over : List Str := ["shape", "wide", "high"]
theorem sc_copies_over : FnScope N_copies_over P_copies_over (defScope s_copies_over) := ⟨rfl, rfl, rfl, by decide +kernel, rfl, by decide +kernel, by decide +kernel⟩
abbrev s_all_free : Stmt := top 51
abbrev N_all_free : List Str := ["wide", "high"]
abbrev P_all_free : List Str := ["wide", "high"]
theorem sc_all_free : FnScope N_all_free P_all_free (defScope s_all_free) := ⟨rfl, rfl, rfl, by decide +kernel, rfl, by decide +kernel, by decide +kernel⟩
abbrev s_first_of : Stmt := top 52
abbrev N_first_of : List Str := ["bits"]
abbrev P_first_of : List Str := ["bits"]
theorem sc_first_of : FnScope N_first_of P_first_of (defScope s_first_of) := ⟨rfl, rfl, rfl, by decide +kernel, rfl, by decide +kernel, by decide +kernel⟩
abbrev s_fill : Stmt := top 53
abbrev N_fill : List Str := ["copies", "free", "places", "found", "place", "bits"]
abbrev P_fill : List Str := ["copies", "free", "places", "found"]
theorem sc_fill : FnScope N_fill P_fill (defScope s_fill) := ⟨rfl, rfl, rfl, by decide +kernel, rfl, by decide +kernel, by decide +kernel⟩
abbrev s_fillings : Stmt := top 54
abbrev N_fillings : List Str := ["shape", "wide", "high", "found", "cells", "number", "place", "places"]
abbrev P_fillings : List Str := ["shape", "wide", "high"]
theorem sc_fillings : FnScope N_fillings P_fillings (defScope s_fillings) := ⟨rfl, rfl, rfl, by decide +kernel, rfl, by decide +kernel, by decide +kernel⟩
/-- a lattice, as asked -/
def IsLat (w s h : Int) : Prop := 0 < w ∧ w ≤ 100 ∧ 0 ≤ s ∧ s < w ∧ 0 < h ∧ h ≤ 100
/-- a place, near -/
def Place (p : Int × Int) : Prop := -1000 ≤ p.1 ∧ p.1 ≤ 1000 ∧ -1000 ≤ p.2 ∧ p.2 ≤ 1000
def CellsOk (ss : List Pr) : Prop := ss.Nodup ∧ (∀ p ∈ ss, Place p) ∧ ss.length ≤ 24
section
variable {P : Program} {w : World} {K : PySem.W.Frag} {mg : Str → Option Value} {base : Heap} {CS : Addr}
def S_is_int : List D → (D → Prop) → Prop := fun ds Q => match ds with
  | [.i _] => Q (.b true)
  | [.b _] => Q (.b false)
  | [x] => plainD x = true ∧ Q (.b false)
  | _ => False
theorem len_is_int : ∀ ds P, S_is_int ds P → ds.length = P_is_int.length := fun ds P h => by
  unfold S_is_int at h
  split at h <;> first | rfl | exact h.elim
theorem d_is_int (Df : DefIn K mg "is_int" s_is_int P_is_int) (T : Txt mg) : DOk P w K mg base "is_int" s_is_int 1 P_is_int S_is_int := by
  have SC := sc_is_int
  refine dok (k := 0) Df sc_is_int (len_is_int) (body := fun f cdv A outer s H E hr hg => ⟨_, _, (pss_one (ps_ret (pe_and (pe_callB (kx_isi K) (by rfl) T.z_isinstance (by decide +kernel) (pa_cons (pv 0) (pa_cons (pe_gty T.z_int PyProof.Rows.Boot.«int») pa_nil))) (pe_one (pe_not (pe_callB (kx_isi K) (by rfl) T.z_isinstance (by decide +kernel) (pa_cons (pv 0) (pa_cons (pe_gty T.z_bool PyProof.Rows.Boot.«bool») pa_nil)))))))), (s_ret (e_andV (e_isi (fun _ _ => tab_int) e_var) (e_notV (e_isi (fun _ _ => tab_bool) e_var)))), ?_⟩)
  clear hr hg
  intro ds Q h
  unfold S_is_int at h
  split at h
  · exact ⟨fun _ => h, fun z => nomatch z⟩
  · exact ⟨fun _ => h, fun z => nomatch z⟩
  · rename_i x n1 n2
    obtain ⟨nv, h⟩ := h
    cases x with
    | i v => exact (n1 v rfl).elim
    | b v => exact (n2 v rfl).elim
    | o _ _ _ => cases nv
    | j => cases nv
    | p _ => cases nv
    | c _ => cases nv
    | T _ => cases nv
    | _ => exact ⟨(fun z => nomatch z), fun _ => h⟩
  · exact h.elim
theorem is_int_of {x : D} {Q : D → Prop} (n : plainD x = true) (q : Q (.b (isIntD x))) : S_is_int [x] Q := by
  cases x <;> first | exact q | exact ⟨n, q⟩ | (cases n; done)
def isNumD (x : D) (lo hi : Int) : Bool := match x with
  | .i v => decide (lo ≤ v ∧ v ≤ hi)
  | _ => false
theorem num_of {x : D} {lo hi : Int} (h : isNumD x lo hi = true) : ∃ v : Int, x = .i v ∧ lo ≤ v ∧ v ≤ hi := by
  cases x with
  | i v => exact ⟨v, rfl, of_decide_eq_true h⟩
  | _ => cases h
def S_is_within : List D → (D → Prop) → Prop := fun ds Q => match ds with
  | [x, .i lo, .i hi] => plainD x = true ∧ Q (.b (isNumD x lo hi))
  | _ => False
theorem len_is_within : ∀ ds P, S_is_within ds P → ds.length = P_is_within.length := fun ds P h => by
  unfold S_is_within at h
  split at h <;> first | rfl | exact h.elim
theorem d_is_within (Df : DefIn K mg "is_within" s_is_within P_is_within) (T : Txt mg) (D_is_int : DOk P w K mg base "is_int" s_is_int 1 P_is_int S_is_int) : DOk P w K mg base "is_within" s_is_within 2 P_is_within S_is_within := by
  have SC := sc_is_within
  refine dok (k := 1) Df sc_is_within (len_is_within) (body := fun f cdv A outer s H E hr hg => ⟨_, _, (pss_one (ps_ret (pe_and (pe_callD D_is_int.d (hr.mono (by decide)) hg (pa_cons (pv 0) pa_nil)) (pe_one (pe_chain op_le op_le (pv 1) (pv 0) (pv 2)))))), (s_ret (e_andV (e_call (a_cons e_var a_nil)) (e_chain o_le o_le e_var e_var e_var))), ?_⟩)
  clear hr hg
  intro ds Q h
  unfold S_is_within at h
  split at h
  · rename_i x lo hi
    obtain ⟨pl, h⟩ := h
    refine is_int_of pl ⟨fun z => ?_, fun z => ?_⟩
    · cases x with
      | i v =>
        refine ⟨fun z1 => ?_, fun z1 => ?_⟩
        · have z1 := of_decide_eq_true z1
          show Q (.b (decide (v ≤ hi)))
          rw [show isNumD (.i v) lo hi = decide (v ≤ hi) from by show decide (lo ≤ v ∧ v ≤ hi) = _; rw [decide_eq_decide]; exact ⟨fun a => a.2, fun a => ⟨z1, a⟩⟩] at h
          exact h
        · rw [show isNumD (.i v) lo hi = false from decide_eq_false fun a => of_decide_eq_false z1 a.1] at h
          exact h
      | _ => cases z
    · have : isNumD x lo hi = false := by
        cases x with
        | i v => cases z
        | _ => rfl
      rw [this] at h
      exact h
  · exact h.elim
def S_is_pair : List D → (D → Prop) → Prop := fun ds Q => match ds with
  | [.t [.i _, .i _]] => Q (.b true)
  | _ => False
theorem len_is_pair : ∀ ds P, S_is_pair ds P → ds.length = P_is_pair.length := fun ds P h => by
  unfold S_is_pair at h
  split at h <;> first | rfl | exact h.elim
theorem d_is_pair (Df : DefIn K mg "is_pair" s_is_pair P_is_pair) (T : Txt mg) (D_is_int : DOk P w K mg base "is_int" s_is_int 1 P_is_int S_is_int) : DOk P w K mg base "is_pair" s_is_pair 2 P_is_pair S_is_pair := by
  have SC := sc_is_pair
  refine dok (k := 1) Df sc_is_pair (len_is_pair) (body := fun f cdv A outer s H E hr hg => ⟨_, _, (pss_one (ps_ret (pe_and (pe_callB (kx_isi K) (by rfl) T.z_isinstance (by decide +kernel) (pa_cons (pv 0) (pa_cons (pe_gty T.z_tuple PyProof.Rows.Boot.«tuple») pa_nil))) (pe_and (pe_cmpR op_eq (pe_callB (kx_len K) (by rfl) T.z_len (by decide +kernel) (pa_cons (pv 0) pa_nil)) pe_int (nomark _)) (pe_and (pe_callD D_is_int.d (hr.mono (by decide)) hg (pa_cons (pe_ix (kx_ixT K) (pv 0) pe_int (fun _ _ => rfl)) pa_nil)) (pe_one (pe_callD D_is_int.d (hr.mono (by decide)) hg (pa_cons (pe_ix (kx_ixT K) (pv 0) pe_int (fun _ _ => rfl)) pa_nil)))))))), (s_ret (e_andV (e_isi (fun _ _ => tab_tuple) e_var) (e_andV (e_op o_eqS (e_cb c_len (a_cons e_var a_nil)) e_int) (e_andV (e_call (a_cons (e_op o_ixT e_var e_int) a_nil)) (e_call (a_cons (e_op o_ixT e_var e_int) a_nil)))))), ?_⟩)
  clear hr hg
  intro ds Q h
  unfold S_is_pair at h
  split at h
  · exact ⟨fun _ => ⟨fun _ => ⟨_, rfl, fun _ => ⟨_, rfl, h⟩, fun z => nomatch z⟩, fun z => nomatch z⟩, fun z => nomatch z⟩
  · exact h.elim
def S_is_place : List D → (D → Prop) → Prop := fun ds Q => match ds with
  | [.t [.i x, .i y]] => Place (x, y) ∧ Q (.b true)
  | _ => False
theorem len_is_place : ∀ ds P, S_is_place ds P → ds.length = P_is_place.length := fun ds P h => by
  unfold S_is_place at h
  split at h <;> first | rfl | exact h.elim
theorem d_is_place (Df : DefIn K mg "is_place" s_is_place P_is_place) (T : Txt mg) (D_is_pair : DOk P w K mg base "is_pair" s_is_pair 2 P_is_pair S_is_pair) : DOk P w K mg base "is_place" s_is_place 3 P_is_place S_is_place := by
  have SC := sc_is_place
  refine dok (k := 2) Df sc_is_place (len_is_place) (body := fun f cdv A outer s H E hr hg => ⟨_, _, (pss_one (ps_ret (pe_and (pe_callD D_is_pair.d (hr.mono (by decide)) hg (pa_cons (pv 0) pa_nil)) (pe_and (pe_cmpR op_le (pe_callB call_abs (by rfl) T.z_abs (by decide +kernel) (pa_cons (pe_ix (kx_ixT K) (pv 0) pe_int (fun _ _ => rfl)) pa_nil)) (pe_gint T.m_MOST_PLACE) (nomark _)) (pe_one (pe_cmpR op_le (pe_callB call_abs (by rfl) T.z_abs (by decide +kernel) (pa_cons (pe_ix (kx_ixT K) (pv 0) pe_int (fun _ _ => rfl)) pa_nil)) (pe_gint T.m_MOST_PLACE) (nomark _))))))), (s_ret (e_andV (e_call (a_cons e_var a_nil)) (e_andV (e_op o_le (e_cb c_abs (a_cons (e_op o_ixT e_var e_int) a_nil)) e_int) (e_op o_le (e_cb c_abs (a_cons (e_op o_ixT e_var e_int) a_nil)) e_int)))), ?_⟩)
  clear hr hg
  intro ds Q h
  unfold S_is_place at h
  split at h
  · rename_i x y
    obtain ⟨⟨h1, h2, h3, h4⟩, h⟩ := h
    dsimp only at h1 h2 h3 h4
    have a1 : (if x < 0 then -x else x) ≤ 1000 := by split <;> omega
    have a2 : (if y < 0 then -y else y) ≤ 1000 := by split <;> omega
    refine ⟨fun _ => ⟨_, rfl, ?_⟩, fun z => nomatch z⟩
    refine ⟨fun _ => ⟨_, rfl, ?_⟩, fun z => ?_⟩
    · show Q (.b (decide ((if y < 0 then -y else y) ≤ 1000)))
      rw [decide_eq_true a2]
      exact h
    · exact absurd a1 (of_decide_eq_false z)
  · exact h.elim
def il (p : Int × Int) : List Int := [p.1, p.2]
theorem il_inj {p q : Int × Int} (h : il p = il q) : p = q := by
  unfold il at h
  simp only [List.cons.injEq, and_true] at h
  exact Prod.ext h.1 h.2
def S_first_wrong : List D → (D → Prop) → Prop := fun ds Q => match ds with
  | [.t xs, .i most] => ∃ ss : List (Int × Int), xs = ss.map pt ∧ CellsOk ss ∧ (ss.length : Int) ≤ most ∧ Q .n
  | _ => False
theorem len_first_wrong : ∀ ds P, S_first_wrong ds P → ds.length = P_first_wrong.length := fun ds P h => by
  unfold S_first_wrong at h
  split at h <;> first | rfl | exact h.elim
theorem d_first_wrong (Df : DefIn K mg "first_wrong" s_first_wrong P_first_wrong) (T : Txt mg) (D_is_place : DOk P w K mg base "is_place" s_is_place 3 P_is_place S_is_place) : DOk P w K mg base "first_wrong" s_first_wrong 4 P_first_wrong S_first_wrong := by
  have SC := sc_first_wrong
  refine dok (k := 3) Df sc_first_wrong (len_first_wrong) (body := fun f cdv A outer s H E hr hg => ⟨_, _, (pss_cons (ps_set (i := 2) SC.nd rfl (Or.inl rfl) (pe_callTy0 (kx_newS P w) (by rfl) T.z_set (by decide +kernel))) (pss_cons (ps_for PassesOwn.never rfl (kx_enumT K (by rfl) T.z_enumerate (pa_cons (pv 0) pa_nil)) (kx_pgTup (n := 2) K rfl (pgs_cons (pg_name (i := 3) SC.nd rfl (Or.inl rfl)) (pgs_cons (pg_name (i := 4) SC.nd rfl (Or.inl rfl)) pgs_nil)) (by rfl)) (pss_cons (ps_if (PW.pt (pw_or (pt_cmpR op_ge (pv 3) (pv 1) (nomark _)) (pw_or (pt_not (pt_val (pe_callD D_is_place.d (hr.mono (by decide)) hg (pa_cons (pv 4) pa_nil)))) (pw_or1 (pt_cmpR (kx_inS K P w hr.units) (pv 4) (pv 2) (by with_unfolding_all rfl)))))) (pss_one (ps_ret (pv 3))) pss_nil) (pss_one (ps_expr (kx_addS K P w hr.units (pv 2) (pa_cons (pv 4) pa_nil)))))) (pss_one (ps_ret pe_non)))), (s_seq s_newS (s_seq (s_for (i_enumT (a_cons e_var a_nil)) (g_tup (gs_cons g_name (gs_cons g_name gs_nil))) (s_seq (s_if (t_or (t_test (e_op o_ge e_var e_var)) (t_or (t_not (t_B (e_call (a_cons e_var a_nil)))) (t_test (e_inS e_var)))) (s_ret e_var) s_next) (s_addS e_var))) (s_ret e_non))), ?_⟩)
  clear hr hg
  intro ds Q h
  unfold S_first_wrong at h
  split at h
  · rename_i most
    obtain ⟨ss, rfl, ⟨nd, pl, l24⟩, lm, h⟩ := h
    refine ⟨fun k Γ => ∃ ks a3 a4, Γ = [.d (.t (ss.map pt)), .d (.i most), .os (SetTO P w) ks, a3, a4] ∧ ks.length ≤ k ∧ ∀ q, q ∈ ks → q ∈ (ss.take k).map il, ?_⟩
    refine ⟨⟨[], _, _, rfl, Nat.le_refl _, fun q hq => by cases hq⟩, ?_, fun Γ' _ => h⟩
    rintro k x Γ' hx ⟨ks, a3, a4, rfl, lk, hk⟩
    have kl : k < ss.length := by
      have := (List.getElem?_eq_some_iff.mp hx).1
      rw [enumD_len, List.length_map] at this
      exact this
    have e : (ss.map pt)[k]? = some (pt ss[k]) := by
      rw [List.getElem?_map, List.getElem?_eq_getElem kl]
      rfl
    rw [enumD_get e] at hx
    obtain rfl := (Option.some.inj hx).symm
    have np : il ss[k] ∉ ks := fun z => by
      obtain ⟨p, hp, ep⟩ := List.mem_map.mp (hk _ z)
      have := il_inj ep
      subst this
      obtain ⟨i, hi, ei⟩ := List.getElem_of_mem hp
      rw [List.length_take] at hi
      rw [List.getElem_take] at ei
      have := (List.getElem_inj (h₀ := by omega) (h₁ := kl) nd).mp ei
      omega
    have pk : Place (ss[k].1, ss[k].2) := pl _ (List.getElem_mem kl)
    refine ⟨rfl, fun z => ?_, fun _ => ⟨pk, ⟨(fun z => nomatch z), fun _ => ⟨rfl, il ss[k], rfl, ⟨fun z => absurd (of_decide_eq_true z) np, fun _ => ?_⟩⟩⟩⟩⟩
    · have := of_decide_eq_true z
      omega
    refine ⟨rfl, by omega, il ss[k], rfl, fun z => absurd z np, fun _ => ?_⟩
    dsimp only [put]
    refine ⟨_, _, _, rfl, by simp only [List.length_cons]; omega, fun q hq => ?_⟩
    rw [List.take_succ_eq_append_getElem kl, List.map_append]
    rcases List.mem_cons.mp hq with rfl | hq
    · exact List.mem_append_right _ (by simp)
    · exact List.mem_append_left _ (hk q hq)
  · exact h.elim
def S_is_nonempty : List D → (D → Prop) → Prop := fun ds Q => match ds with
  | [.t (_ :: _)] => Q (.b true)
  | _ => False
theorem len_is_nonempty : ∀ ds P, S_is_nonempty ds P → ds.length = P_is_nonempty.length := fun ds P h => by
  unfold S_is_nonempty at h
  split at h <;> first | rfl | exact h.elim
theorem d_is_nonempty (Df : DefIn K mg "is_nonempty" s_is_nonempty P_is_nonempty) (T : Txt mg) : DOk P w K mg base "is_nonempty" s_is_nonempty 1 P_is_nonempty S_is_nonempty := by
  have SC := sc_is_nonempty
  refine dok (k := 0) Df sc_is_nonempty (len_is_nonempty) (body := fun f cdv A outer s H E hr hg => ⟨_, _, (pss_one (ps_ret (pe_and (pe_callB (kx_isi K) (by rfl) T.z_isinstance (by decide +kernel) (pa_cons (pv 0) (pa_cons (pe_gty T.z_tuple PyProof.Rows.Boot.«tuple») pa_nil))) (pe_one (pe_cmpR op_gt (pe_callB (kx_len K) (by rfl) T.z_len (by decide +kernel) (pa_cons (pv 0) pa_nil)) pe_int (nomark _)))))), (s_ret (e_andV (e_isi (fun _ _ => tab_tuple) e_var) (e_op o_gt (e_cb c_len (a_cons e_var a_nil)) e_int))), ?_⟩)
  clear hr hg
  intro ds Q h
  unfold S_is_nonempty at h
  split at h
  · rename_i x xs
    refine ⟨fun _ => ?_, fun z => nomatch z⟩
    show Q (.b (decide (0 < ((x :: xs).length : Int))))
    rw [decide_eq_true (by simp only [List.length_cons]; omega)]
    exact h
  · exact h.elim
def S_check_cells : List D → (D → Prop) → Prop := fun ds Q => match ds with
  | [.t xs] => ∃ ss : List (Int × Int), xs = ss.map pt ∧ ss ≠ [] ∧ CellsOk ss ∧ Q .n
  | _ => False
theorem len_check_cells : ∀ ds P, S_check_cells ds P → ds.length = P_check_cells.length := fun ds P h => by
  unfold S_check_cells at h
  split at h <;> first | rfl | exact h.elim
theorem d_check_cells (Df : DefIn K mg "check_cells" s_check_cells P_check_cells) (T : Txt mg) (D_is_nonempty : DOk P w K mg base "is_nonempty" s_is_nonempty 1 P_is_nonempty S_is_nonempty) (D_first_wrong : DOk P w K mg base "first_wrong" s_first_wrong 4 P_first_wrong S_first_wrong) : DOk P w K mg base "check_cells" s_check_cells 5 P_check_cells S_check_cells := by
  have SC := sc_check_cells
  refine dok (k := 4) Df sc_check_cells (len_check_cells) (body := fun f cdv A outer s H E hr hg => ⟨_, _, (pss_cons (ps_if (pt_not (pt_val (pe_callD D_is_nonempty.d (hr.mono (by decide)) hg (pa_cons (pv 0) pa_nil)))) (pss_one ps_never) pss_nil) (pss_cons (ps_set (i := 1) SC.nd rfl (Or.inl rfl) (pe_callD D_first_wrong.d (hr.mono (by decide)) hg (pa_cons (pv 0) (pa_cons (pe_gint T.m_MOST_CELLS) pa_nil)))) (pss_one (ps_if (pt_cmpR op_notN (pv 1) pe_non (nomark _)) (pss_one ps_never) pss_nil)))), (s_seq (s_if (t_not (t_B (e_call (a_cons e_var a_nil)))) s_never s_next) (s_seq (s_asg (e_call (a_cons e_var (a_cons e_int a_nil))) g_name) (s_if (t_test (e_op o_notN e_var e_non)) s_never s_next))), ?_⟩)
  clear hr hg
  intro ds Q h
  unfold S_check_cells at h
  split at h
  · obtain ⟨ss, rfl, ne, ok, h⟩ := h
    cases ss with
    | nil => exact absurd rfl ne
    | cons p ss => exact ⟨(fun z => nomatch z), fun _ => ⟨p :: ss, rfl, ok, by have := ok.2.2; show ((p :: ss).length : Int) ≤ 24; omega, ⟨(fun z => nomatch z), fun _ => h⟩⟩⟩
  · exact h.elim
def S_check_number : List D → (D → Prop) → Prop := fun ds Q => match ds with
  | [.i v, .i lo, .i hi] => (lo ≤ v ∧ v ≤ hi) ∧ Q .n
  | _ => False
theorem len_check_number : ∀ ds P, S_check_number ds P → ds.length = P_check_number.length := fun ds P h => by
  unfold S_check_number at h
  split at h <;> first | rfl | exact h.elim
theorem d_check_number (Df : DefIn K mg "check_number" s_check_number P_check_number) (T : Txt mg) (D_is_within : DOk P w K mg base "is_within" s_is_within 2 P_is_within S_is_within) : DOk P w K mg base "check_number" s_check_number 3 P_check_number S_check_number := by
  have SC := sc_check_number
  refine dok (k := 2) Df sc_check_number (len_check_number) (body := fun f cdv A outer s H E hr hg => ⟨_, _, (pss_one (ps_if (pt_not (pt_val (pe_callD D_is_within.d (hr.mono (by decide)) hg (pa_cons (pv 0) (pa_cons (pv 1) (pa_cons (pv 2) pa_nil)))))) (pss_one ps_never) pss_nil)), (s_if (t_not (t_B (e_call (a_cons e_var (a_cons e_var (a_cons e_var a_nil)))))) s_never s_next), ?_⟩)
  clear hr hg
  intro ds Q h
  unfold S_check_number at h
  split at h
  · rename_i v lo hi
    refine ⟨rfl, ?_⟩
    rw [show isNumD (.i v) lo hi = true from decide_eq_true h.1]
    exact ⟨(fun z => nomatch z), fun _ => h.2⟩
  · exact h.elim
theorem getpt {L : List Pr} {k : Nat} {x : D} (h : (L.map pt)[k]? = some x) : k < L.length ∧ x = pt (L.getD k (0, 0)) := by
  rw [List.getElem?_map] at h
  cases q : L[k]? with
  | none => rw [q] at h; cases h
  | some p =>
    rw [q] at h
    cases h
    refine ⟨(List.getElem?_eq_some_iff.mp q).1, ?_⟩
    rw [List.getD_eq_getElem?_getD, q]
    rfl
theorem getD_mem {L : List Pr} {k : Nat} (h : k < L.length) : L.getD k (0, 0) ∈ L := by
  rw [List.getD_eq_getElem?_getD, List.getElem?_eq_getElem h]
  exact List.getElem_mem h
theorem range_getD {L : List Pr} : (List.range L.length).map (fun k => L.getD k (0, 0)) = L := by
  refine List.ext_getElem (by simp) fun k h1 h2 => ?_
  rw [List.getElem_map, List.getElem_range, List.getD_eq_getElem?_getD, List.getElem?_eq_getElem h2]
  rfl
theorem selmap {L : List Pr} {f : Pr → D} {n : Nat} {ys : List D} (hs : Sel (fun _ => true) (fun k d => d = f (L.getD k (0, 0))) n ys) (hn : n = L.length) : ys = L.map f := by
  subst hn
  have e := hs.map
  have z := congrArg (List.map f) (range_getD (L := L))
  rw [List.map_map] at z
  rw [e]
  exact z
theorem selfil {L : List Pr} {c : Pr → Bool} {f : Pr → D} {n : Nat} {ys : List D} (hs : Sel (fun k => c (L.getD k (0, 0))) (fun k d => d = f (L.getD k (0, 0))) n ys) (hn : n = L.length) : ys = (L.filter c).map f := by
  subst hn
  have e := hs.filter
  have z := congrArg (fun M => (M.filter c).map f) (range_getD (L := L))
  rw [List.filter_map, List.map_map] at z
  rw [e]
  exact z
def S_from_zero : List D → (D → Prop) → Prop := fun ds Q => match ds with
  | [d] => ∃ L : List Pr, (d = .t (L.map pt) ∨ d = .l (L.map pt)) ∧ 0 < L.length ∧ L.length ≤ 1000 ∧ ∀ (l t : Int) (L' : List Pr), (∃ p ∈ L, p.1 = l) → (∀ p ∈ L, l ≤ p.1) → (∃ p ∈ L, p.2 = t) → (∀ p ∈ L, t ≤ p.2) → L'.Perm (L.map fun p => (p.1 + -l, p.2 + -t)) → L'.Pairwise lexle → Q (.t (L'.map pt))
  | _ => False
theorem len_from_zero : ∀ ds P, S_from_zero ds P → ds.length = P_from_zero.length := fun ds P h => by
  unfold S_from_zero at h
  split at h <;> first | rfl | exact h.elim
theorem d_from_zero (Df : DefIn K mg "from_zero" s_from_zero P_from_zero) (T : Txt mg) : DOk P w K mg base "from_zero" s_from_zero 1 P_from_zero S_from_zero := by
  have SC := sc_from_zero
  refine dok (k := 0) Df sc_from_zero (len_from_zero) (body := fun f cdv A outer s H E hr hg => ⟨_, _, (pss_cons (ps_set (i := 1) SC.nd rfl (Or.inr rfl) (pe_callB (DO.kx_minL K rfl) (by rfl) T.z_min (by decide +kernel) (pa_cons (pe_lc (own := [("x", 2), ("y", 3)]) (g := (gTup K 2 (gCons (gName 2) (gCons (gName 3) gNil)))) (tt := tYes) (by rfl) SC.nd (TStr.pi_any K (pv 0)) (blkOk_by (own := [("x", 2), ("y", 3)]) (N := N_from_zero) (sc := defScope s_from_zero) (by decide +kernel)) (fun _ _ _ _ _ => (kx_pgTup (n := 2) K rfl (pgs_cons (pg_name (i := 2) SC.nd rfl (Or.inl rfl)) (pgs_cons (pg_name (i := 3) SC.nd rfl (Or.inl rfl)) pgs_nil)) (by rfl))) (fun _ _ _ _ _ => pts_nil) (fun _ _ _ _ _ => (pv 2))) pa_nil))) (pss_cons (ps_set (i := 4) SC.nd rfl (Or.inr rfl) (pe_callB (DO.kx_minL K rfl) (by rfl) T.z_min (by decide +kernel) (pa_cons (pe_lc (own := [("x", 2), ("y", 3)]) (g := (gTup K 2 (gCons (gName 2) (gCons (gName 3) gNil)))) (tt := tYes) (by rfl) SC.nd (TStr.pi_any K (pv 0)) (blkOk_by (own := [("x", 2), ("y", 3)]) (N := N_from_zero) (sc := defScope s_from_zero) (by decide +kernel)) (fun _ _ _ _ _ => (kx_pgTup (n := 2) K rfl (pgs_cons (pg_name (i := 2) SC.nd rfl (Or.inl rfl)) (pgs_cons (pg_name (i := 3) SC.nd rfl (Or.inl rfl)) pgs_nil)) (by rfl))) (fun _ _ _ _ _ => pts_nil) (fun _ _ _ _ _ => (pv 3))) pa_nil))) (pss_one (ps_ret (pe_callTy (kx_tupleOf K) (by rfl) T.z_tuple (by decide +kernel) (pa_cons (pe_callB (DO.kx_sortQ K) (by rfl) T.z_sorted (by decide +kernel) (pa_cons (pe_lc (own := [("x", 2), ("y", 3)]) (g := (gTup K 2 (gCons (gName 2) (gCons (gName 3) gNil)))) (tt := tYes) (by rfl) SC.nd (TStr.pi_any K (pv 0)) (blkOk_by (own := [("x", 2), ("y", 3)]) (N := N_from_zero) (sc := defScope s_from_zero) (by decide +kernel)) (fun _ _ _ _ _ => (kx_pgTup (n := 2) K rfl (pgs_cons (pg_name (i := 2) SC.nd rfl (Or.inl rfl)) (pgs_cons (pg_name (i := 3) SC.nd rfl (Or.inl rfl)) pgs_nil)) (by rfl))) (fun _ _ _ _ _ => pts_nil) (fun _ _ _ _ _ => (pe_tup (pa_cons (pe_op op_sub (pv 2) (pv 1)) (pa_cons (pe_op op_sub (pv 3) (pv 4)) pa_nil))))) pa_nil)) pa_nil)))))), (s_seq (s_asg (e_cb DO.c_minL (a_cons (e_f (f_lc (i_any e_var) (g_tup (gs_cons g_name (gs_cons g_name gs_nil))) t_yes e_var)) a_nil)) g_name) (s_seq (s_asg (e_cb DO.c_minL (a_cons (e_f (f_lc (i_any e_var) (g_tup (gs_cons g_name (gs_cons g_name gs_nil))) t_yes e_var)) a_nil)) g_name) (s_ret (e_cb c_tupleOf (a_cons (e_cb DO.c_sortQ (a_cons (e_f (f_lc (i_any e_var) (g_tup (gs_cons g_name (gs_cons g_name gs_nil))) t_yes (e_tup (a_cons (e_op o_sub e_var e_var) (a_cons (e_op o_sub e_var e_var) a_nil))))) a_nil)) a_nil))))), ?_⟩)
  clear hr hg
  intro ds Q h
  unfold S_from_zero at h
  split at h
  · obtain ⟨L, hd, l0, l1, h⟩ := h
    rcases hd with rfl | rfl
    · rw [show startG N_from_zero.length [.t (L.map pt)] = [.d (.t (L.map pt)), .u, .u, .u, .u] from rfl]
      have sz : (L.map pt).length ≤ 100000 := by rw [List.length_map]; omega
      refine ⟨sz, fun _ => true, fun k d => d = .i (L.getD k (0, 0)).1, fun k x hx => ?_, fun ys hs => ?_⟩
      · obtain ⟨hk, rfl⟩ := getpt hx
        exact ⟨rfl, rfl, fun _ => rfl⟩
      have e1 := selmap (f := fun p => .i p.1) hs (by rw [List.length_map])
      subst e1
      refine ⟨L.map (·.1), by rw [List.map_map]; rfl, by rw [List.length_map]; exact l0, fun l hl hm => ?_⟩
      refine ⟨sz, fun _ => true, fun k d => d = .i (L.getD k (0, 0)).2, fun k x hx => ?_, fun ys hs => ?_⟩
      · obtain ⟨hk, rfl⟩ := getpt hx
        exact ⟨rfl, rfl, fun _ => rfl⟩
      have e1 := selmap (f := fun p => .i p.2) hs (by rw [List.length_map])
      subst e1
      refine ⟨L.map (·.2), by rw [List.map_map]; rfl, by rw [List.length_map]; exact l0, fun t ht hm2 => ?_⟩
      refine ⟨sz, fun _ => true, fun k d => d = pt ((L.getD k (0, 0)).1 - l, (L.getD k (0, 0)).2 - t), fun k x hx => ?_, fun ys hs => ?_⟩
      · obtain ⟨hk, rfl⟩ := getpt hx
        exact ⟨rfl, rfl, fun _ => ⟨by show 2 ≤ 100000; decide, rfl⟩⟩
      have e1 := selmap (f := fun p => pt (p.1 - l, p.2 - t)) hs (by rw [List.length_map])
      subst e1
      refine ⟨L.map fun p => (p.1 - l, p.2 - t), by rw [List.map_map]; rfl, fun L' pm pw => ?_⟩
      obtain ⟨p, hp, ep⟩ := List.mem_map.mp hl
      obtain ⟨q, hq, eq⟩ := List.mem_map.mp ht
      exact h l t L' ⟨p, hp, ep⟩ (fun p hp => hm _ (List.mem_map_of_mem hp)) ⟨q, hq, eq⟩ (fun p hp => hm2 _ (List.mem_map_of_mem hp)) pm pw
    · rw [show startG N_from_zero.length [.l (L.map pt)] = [.d (.l (L.map pt)), .u, .u, .u, .u] from rfl]
      have sz : (L.map pt).length ≤ 100000 := by rw [List.length_map]; omega
      refine ⟨sz, fun _ => true, fun k d => d = .i (L.getD k (0, 0)).1, fun k x hx => ?_, fun ys hs => ?_⟩
      · obtain ⟨hk, rfl⟩ := getpt hx
        exact ⟨rfl, rfl, fun _ => rfl⟩
      have e1 := selmap (f := fun p => .i p.1) hs (by rw [List.length_map])
      subst e1
      refine ⟨L.map (·.1), by rw [List.map_map]; rfl, by rw [List.length_map]; exact l0, fun l hl hm => ?_⟩
      refine ⟨sz, fun _ => true, fun k d => d = .i (L.getD k (0, 0)).2, fun k x hx => ?_, fun ys hs => ?_⟩
      · obtain ⟨hk, rfl⟩ := getpt hx
        exact ⟨rfl, rfl, fun _ => rfl⟩
      have e1 := selmap (f := fun p => .i p.2) hs (by rw [List.length_map])
      subst e1
      refine ⟨L.map (·.2), by rw [List.map_map]; rfl, by rw [List.length_map]; exact l0, fun t ht hm2 => ?_⟩
      refine ⟨sz, fun _ => true, fun k d => d = pt ((L.getD k (0, 0)).1 - l, (L.getD k (0, 0)).2 - t), fun k x hx => ?_, fun ys hs => ?_⟩
      · obtain ⟨hk, rfl⟩ := getpt hx
        exact ⟨rfl, rfl, fun _ => ⟨by show 2 ≤ 100000; decide, rfl⟩⟩
      have e1 := selmap (f := fun p => pt (p.1 - l, p.2 - t)) hs (by rw [List.length_map])
      subst e1
      refine ⟨L.map fun p => (p.1 - l, p.2 - t), by rw [List.map_map]; rfl, fun L' pm pw => ?_⟩
      obtain ⟨p, hp, ep⟩ := List.mem_map.mp hl
      obtain ⟨q, hq, eq⟩ := List.mem_map.mp ht
      exact h l t L' ⟨p, hp, ep⟩ (fun p hp => hm _ (List.mem_map_of_mem hp)) ⟨q, hq, eq⟩ (fun p hp => hm2 _ (List.mem_map_of_mem hp)) pm pw
  · exact h.elim
/-- a shape, told -/
def shp (CS : Addr) (L : List Pr) : D := .o CS ["_cells"] [.t (L.map pt)]
def S_check_shape (CS : Addr) : List D → (D → Prop) → Prop := fun ds Q => match ds with
  | [a] => (∃ L, a = shp CS L) ∧ Q .n
  | _ => False
theorem len_check_shape {CS : Addr} : ∀ ds P, S_check_shape CS ds P → ds.length = P_check_shape.length := fun ds P h => by
  unfold S_check_shape at h
  split at h <;> first | rfl | exact h.elim
theorem d_check_shape (Df : DefIn K mg "check_shape" s_check_shape P_check_shape) (T : Txt mg) (CL_Shape : DO.Cl K CS) (mg_Shape : mg "Shape" = some (.ref CS)) : DOk P w K mg base "check_shape" s_check_shape 1 P_check_shape (S_check_shape CS) := by
  have SC := sc_check_shape
  refine dok (k := 0) Df sc_check_shape (len_check_shape) (body := fun f cdv A outer s H E hr hg => ⟨_, _, (pss_one (ps_if (pt_not (pt_val (pe_callB (kx_isi K) (by rfl) T.z_isinstance (by decide +kernel) (pa_cons (pv 0) (pa_cons (pe_glob (v := .ref CS) (by rfl) mg_Shape rfl) pa_nil))))) (pss_one ps_never) pss_nil)), (s_if (t_not (t_B (DO.e_isC CL_Shape e_var))) s_never s_next), ?_⟩)
  clear hr hg
  intro ds Q h
  unfold S_check_shape at h
  split at h
  · obtain ⟨⟨L, rfl⟩, h⟩ := h
    exact ⟨rfl, (fun z => nomatch z), fun _ => h⟩
  · exact h.elim
/-- the numbers that the copy at place p holds -/
def heldI (L : List Pr) (w h : Int) (p : Nat) : List Nat := L.map fun q => ((((p : Int) / h + q.1) % w) * h + ((p : Int) % h + q.2) % h).toNat
theorem held_num {w h : Int} (w0 : 0 < w) (h0 : 0 < h) (a b : Int) : 0 ≤ a % w * h + b % h ∧ a % w * h + b % h < w * h := by
  have a0 := Int.emod_nonneg a (show w ≠ 0 by omega)
  have a1 := Int.emod_lt_of_pos a w0
  have b0 := Int.emod_nonneg b (show h ≠ 0 by omega)
  have b1 := Int.emod_lt_of_pos b h0
  have := Int.mul_nonneg a0 (Int.le_of_lt h0)
  have := Int.mul_le_mul_of_nonneg_right (show a % w ≤ w - 1 by omega) (Int.le_of_lt h0)
  rw [Int.sub_mul, Int.one_mul] at this
  omega
theorem heldI_lt {L : List Pr} {w h : Int} (w0 : 0 < w) (h0 : 0 < h) (p q : Nat) (hq : q ∈ heldI L w h p) : q < (w * h).toNat := by
  obtain ⟨c, _, rfl⟩ := List.mem_map.mp hq
  have := held_num w0 h0 ((p : Int) / h + c.1) ((p : Int) % h + c.2)
  omega
theorem heldI_len {L : List Pr} {w h : Int} (p : Nat) : (heldI L w h p).length = L.length := by
  unfold heldI
  rw [List.length_map]
/-- floors of at most 36 cells -/
def Fl (w h : Int) : Prop := 0 < w ∧ 0 < h ∧ w * h ≤ 36
theorem Fl.le {w h : Int} (f : Fl w h) : w ≤ 36 ∧ h ≤ 36 ∧ 0 < w * h := by
  obtain ⟨a, b, c⟩ := f
  have p := Int.mul_pos a b
  have h1 := Int.mul_le_mul_of_nonneg_left (show 1 ≤ h by omega) (Int.le_of_lt a)
  have h2 := Int.mul_le_mul_of_nonneg_right (show 1 ≤ w by omega) (Int.le_of_lt b)
  omega
def nD (l : List Nat) : D := .l (l.map fun (k : Nat) => .i (k : Int))
def S_held_by (CS : Addr) : List D → (D → Prop) → Prop := fun ds Q => match ds with
  | [d, .i w, .i h, .i p] => ∃ (L : List Pr) (k : Nat), d = shp CS L ∧ L.length ≤ 1000 ∧ Fl w h ∧ p = (k : Int) ∧ Q (nD (heldI L w h k))
  | _ => False
theorem len_held_by {CS : Addr} : ∀ ds P, S_held_by CS ds P → ds.length = P_held_by.length := fun ds P h => by
  unfold S_held_by at h
  split at h <;> first | rfl | exact h.elim
theorem d_held_by (Df : DefIn K mg "held_by" s_held_by P_held_by) (T : Txt mg) (PR_cells : DO.PropD P w K mg base CS "cells" "_cells" 1) : DOk P w K mg base "held_by" s_held_by 3 P_held_by (S_held_by CS) := by
  have SC := sc_held_by
  refine dok (k := 2) Df sc_held_by (len_held_by) (body := fun f cdv A outer s H E hr hg => ⟨_, _, (pss_cons (ps_asg (pe_callB call_divmod (by rfl) T.z_divmod (by decide +kernel) (pa_cons (pv 3) (pa_cons (pv 2) pa_nil))) (kx_pgTup (n := 2) K rfl (pgs_cons (pg_name (i := 4) SC.nd rfl (Or.inr rfl)) (pgs_cons (pg_name (i := 5) SC.nd rfl (Or.inr rfl)) pgs_nil)) (by rfl))) (pss_one (ps_ret (pe_lc (own := [("x", 6), ("y", 7)]) (g := (gTup K 2 (gCons (gName 6) (gCons (gName 7) gNil)))) (tt := tYes) (by rfl) SC.nd (kx_piTup K (DO.pe_propD PR_cells (hr.mono (by decide)) (pv 0) (by rfl))) (blkOk_by (own := [("x", 6), ("y", 7)]) (N := N_held_by) (sc := defScope s_held_by) (by decide +kernel)) (fun _ _ _ _ _ => (kx_pgTup (n := 2) K rfl (pgs_cons (pg_name (i := 6) SC.nd rfl (Or.inl rfl)) (pgs_cons (pg_name (i := 7) SC.nd rfl (Or.inl rfl)) pgs_nil)) (by rfl))) (fun _ _ _ _ _ => pts_nil) (fun _ _ _ _ _ => (pe_op op_add (pe_op op_mul (pe_op op_mod (pe_op op_add (pv 4) (pv 6)) (pv 1)) (pv 2)) (pe_op op_mod (pe_op op_add (pv 5) (pv 7)) (pv 2)))))))), (s_seq (s_asg (e_cb c_divmod (a_cons e_var (a_cons e_var a_nil))) (g_tup (gs_cons g_name (gs_cons g_name gs_nil)))) (s_ret (e_f (f_lc (i_tup (DO.e_prop1 e_var)) (g_tup (gs_cons g_name (gs_cons g_name gs_nil))) t_yes (e_op o_add (e_op o_mul (e_op o_mod (e_op o_add e_var e_var) e_var) e_var) (e_op o_mod (e_op o_add e_var e_var) e_var)))))), ?_⟩)
  clear hr hg
  intro ds Q h
  unfold S_held_by at h
  split at h
  · rename_i d w h' p
    obtain ⟨L, k, rfl, l1, f, rfl, h⟩ := h
    rw [show startG N_held_by.length [shp CS L, .i w, .i h', .i (k : Int)] = [.d (shp CS L), .d (.i w), .d (.i h'), .d (.i (k : Int)), .u, .u, .u, .u] from rfl]
    obtain ⟨w36, h36, _⟩ := f.le
    obtain ⟨w0, h0, _⟩ := f
    refine ⟨⟨h0, by omega⟩, rfl, ?_⟩
    dsimp only [wgName, put]
    have sm : ∀ a : Int, CMul (a % w) h' := fun a => .inr ⟨by omega, by omega⟩
    refine ⟨_, rfl, by rw [List.length_map]; omega, fun _ => true, fun j d => d = .i ((((k : Int) / h' + (L.getD j (0, 0)).1) % w) * h' + ((k : Int) % h' + (L.getD j (0, 0)).2) % h'), fun j x hx => ?_, fun ys hs => ?_⟩
    · obtain ⟨hj, rfl⟩ := getpt hx
      exact ⟨rfl, rfl, fun _ => ⟨w0, sm _, h0, rfl⟩⟩
    have e1 := selmap (f := fun q => .i ((((k : Int) / h' + q.1) % w) * h' + ((k : Int) % h' + q.2) % h')) hs (by rw [List.length_map])
    subst e1
    unfold nD heldI at h
    rw [List.map_map] at h
    have e : (L.map fun q => D.i ((((k : Int) / h' + q.1) % w) * h' + ((k : Int) % h' + q.2) % h')) = L.map ((fun (k : Nat) => D.i (k : Int)) ∘ fun q => ((((k : Int) / h' + q.1) % w) * h' + ((k : Int) % h' + q.2) % h').toNat) := List.map_congr_left fun q _ => by
      show D.i _ = D.i ((_ : Nat) : Int)
      rw [Int.toNat_of_nonneg (held_num w0 h0 _ _).1]
    rw [e]
    exact h
  · exact h.elim
/-- a copy: its place, its bits -/
def ent (n : Nat) (held : Nat → List Nat) (p : Nat) : D := .t [.i (p : Int), .i ((bp n fun q => (held p).contains q : Nat) : Int)]
def cpD (n : Nat) (held : Nat → List Nat) : D := .l ((List.range n).map fun q => .l ((over n held q).map (ent n held)))
/-- those of the first k places -/
def ovk (held : Nat → List Nat) (k q : Nat) : List Nat := (List.range k).filter fun p => decide (held p).Nodup && (held p).contains q
theorem ovk_succ (held : Nat → List Nat) (k q : Nat) : ovk held (k + 1) q = ovk held k q ++ if (decide (held k).Nodup && (held k).contains q) = true then [k] else [] := by
  unfold ovk
  rw [List.range_succ, List.filter_append]
  congr 1
  by_cases c : (decide (held k).Nodup && (held k).contains q) = true
  · rw [if_pos c, List.filter_cons_of_pos (p := fun p => decide (held p).Nodup && (held p).contains q) c]
    rfl
  · rw [if_neg c, List.filter_cons_of_neg (p := fun p => decide (held p).Nodup && (held p).contains q) c]
    rfl
theorem twice {α : Type} [DecidableEq α] : ∀ {M : List α}, ¬ M.Nodup → ∃ x ∈ M, x ∈ M.erase x
  | [], h => absurd List.nodup_nil h
  | a :: M, h => by
    by_cases c : a ∈ M
    · exact ⟨a, List.mem_cons_self .., by rw [List.erase_cons_head]; exact c⟩
    · have : ¬ M.Nodup := fun z => h (List.nodup_cons.mpr ⟨c, z⟩)
      obtain ⟨x, h1, h2⟩ := twice this
      have ne : ¬ (a == x) = true := fun e => by
        rw [beq_iff_eq] at e
        subst e
        exact c h1
      exact ⟨x, List.mem_cons_of_mem _ h1, by rw [List.erase_cons_tail ne]; exact List.mem_cons_of_mem _ h2⟩
theorem once_iff {α : Type} [DecidableEq α] {M U : List α} (nd : U.Nodup) (mem : ∀ x, x ∈ U ↔ x ∈ M) : U.length = M.length ↔ M.Nodup := by
  constructor
  · intro l
    refine Decidable.byContradiction fun no => ?_
    obtain ⟨x, h1, h2⟩ := twice no
    have := List.Nodup.length_le_of_subset nd (l₂ := M.erase x) fun y hy => by
      have := (mem y).mp hy
      by_cases e : y = x
      · subst e
        exact h2
      · exact (List.mem_erase_of_ne e).mpr this
    rw [List.length_erase_of_mem h1] at this
    have := List.length_pos_of_mem h1
    omega
  · intro nm
    exact ((List.perm_ext_iff_of_nodup nd nm).mpr mem).length_eq
theorem nd_cast {l : List Nat} : (l.map fun (k : Nat) => (k : Int)).Nodup ↔ l.Nodup := by
  rw [List.nodup_iff_pairwise_ne, List.pairwise_map, List.nodup_iff_pairwise_ne]
  exact ⟨fun h => h.imp fun {a b} n e => n (by rw [e]), fun h => h.imp fun {a b} n e => n (Int.ofNat.inj e)⟩
theorem sum_cast : ∀ l : List Nat, (l.map fun (q : Nat) => ((1 : Int) * 2 ^ ((q : Int)).toNat)).sum = (((l.map fun q => 2 ^ q).sum : Nat) : Int)
  | [] => rfl
  | a :: l => by
    rw [List.map_cons, List.sum_cons, sum_cast l, List.map_cons, List.sum_cons, Int.toNat_natCast]
    push_cast
    omega
theorem selG {α : Type} {L : List α} {d0 : α} {c : α → Bool} {f : α → D} {n : Nat} {ys : List D} (hs : Sel (fun k => c (L.getD k d0)) (fun k d => d = f (L.getD k d0)) n ys) (hn : n = L.length) : ys = (L.filter c).map f := by
  subst hn
  have e := hs.filter
  have g : (List.range L.length).map (fun k => L.getD k d0) = L := by
    refine List.ext_getElem (by simp) fun k h1 h2 => ?_
    rw [List.getElem_map, List.getElem_range, List.getD_eq_getElem?_getD, List.getElem?_eq_getElem h2]
    rfl
  have z := congrArg (fun M => (M.filter c).map f) g
  rw [List.filter_map, List.map_map] at z
  rw [e]
  exact z
theorem getG {α : Type} {L : List α} {d0 : α} {f : α → D} {k : Nat} {x : D} (h : (L.map f)[k]? = some x) : k < L.length ∧ x = f (L.getD k d0) ∧ L.getD k d0 ∈ L := by
  rw [List.getElem?_map] at h
  cases q : L[k]? with
  | none => rw [q] at h; cases h
  | some p =>
    rw [q] at h
    cases h
    obtain ⟨hk, e⟩ := List.getElem?_eq_some_iff.mp q
    refine ⟨hk, by rw [List.getD_eq_getElem?_getD, q]; rfl, ?_⟩
    rw [List.getD_eq_getElem?_getD, q]
    exact List.mem_of_getElem? q
/-- as selG, nothing left out -/
theorem selA {α : Type} {L : List α} {d0 : α} {f : α → D} {n : Nat} {ys : List D} (hs : Sel (fun _ => true) (fun k d => d = f (L.getD k d0)) n ys) (hn : n = L.length) : ys = L.map f := by
  have := selG (c := fun _ => true) hs hn
  rw [List.filter_eq_self.mpr fun _ _ => rfl] at this
  exact this
/-- the copies at q, those of the first k places, and of the next one as far as its first j numbers -/
def mid (n : Nat) (held : Nat → List Nat) (k j q : Nat) : List D := (ovk held k q).map (ent n held) ++ if q ∈ (held k).take j then [ent n held k] else []
theorem mid_zero (n : Nat) (held : Nat → List Nat) (k q : Nat) : mid n held k 0 q = (ovk held k q).map (ent n held) := by
  unfold mid
  rw [List.take_zero, if_neg (by simp), List.append_nil]
theorem mid_end (n : Nat) (held : Nat → List Nat) (k q : Nat) (nd : (held k).Nodup) : mid n held k (held k).length q = (ovk held (k + 1) q).map (ent n held) := by
  unfold mid
  rw [List.take_length, ovk_succ, List.map_append, decide_eq_true nd, Bool.true_and]
  congr 1
  by_cases c : q ∈ held k
  · rw [if_pos c, if_pos (by simpa using c)]
    rfl
  · rw [if_neg c, if_neg (by simpa using c)]
    rfl
theorem mid_step (n : Nat) (held : Nat → List Nat) (k j : Nat) (nd : (held k).Nodup) (hj : j < (held k).length) (ht : (held k)[j] < n) :
    ((List.range n).map (mid n held k j)).set (held k)[j] (mid n held k j (held k)[j] ++ [ent n held k]) = (List.range n).map (mid n held k (j + 1)) := by
  refine List.ext_getElem (by simp) fun q h1 h2 => ?_
  rw [List.length_map, List.length_range] at h2
  rw [List.getElem_set]
  have tk : (held k).take (j + 1) = (held k).take j ++ [(held k)[j]] := List.take_succ_eq_append_getElem hj
  by_cases e : (held k)[j] = q
  · rw [if_pos e, List.getElem_map, List.getElem_range]
    unfold mid
    have no : (held k)[j] ∉ (held k).take j := fun z => by
      have n2 := nd
      rw [← List.take_append_drop (j + 1) (held k), tk] at n2
      have := (List.nodup_append.mp (List.nodup_append.mp n2).1).2.2 _ z _ (List.mem_singleton.mpr rfl)
      exact this rfl
    rw [if_neg no, List.append_nil, tk, if_pos (by rw [← e]; exact List.mem_append_right _ (List.mem_singleton.mpr rfl)), e]
  · rw [if_neg e, List.getElem_map, List.getElem_map, List.getElem_range]
    unfold mid
    rw [tk]
    congr 1
    by_cases c : q ∈ (held k).take j
    · rw [if_pos c, if_pos (List.mem_append_left _ c)]
    · rw [if_neg c, if_neg fun z => ?_]
      rcases List.mem_append.mp z with z | z
      · exact c z
      · exact e (List.mem_singleton.mp z).symm
theorem mid_len (n : Nat) (held : Nat → List Nat) (k j q : Nat) : (mid n held k j q).length ≤ k + 1 := by
  unfold mid ovk
  rw [List.length_append, List.length_map]
  have := List.length_filter_le (fun p => decide (held p).Nodup && (held p).contains q) (List.range k)
  rw [List.length_range] at this
  split
  · show _ + 1 ≤ _
    omega
  · show _ + 0 ≤ _
    omega
def S_copies_over (CS : Addr) : List D → (D → Prop) → Prop := fun ds Q => match ds with
  | [d, .i w, .i h] => ∃ L : List Pr, d = shp CS L ∧ L.length ≤ 1000 ∧ Fl w h ∧ Q (cpD (w * h).toNat (heldI L w h))
  | _ => False
theorem len_copies_over {CS : Addr} : ∀ ds P, S_copies_over CS ds P → ds.length = P_copies_over.length := fun ds P h => by
  unfold S_copies_over at h
  split at h <;> first | rfl | exact h.elim
theorem d_copies_over (Df : DefIn K mg "copies_over" s_copies_over P_copies_over) (T : Txt mg) (D_held_by : DOk P w K mg base "held_by" s_held_by 3 P_held_by (S_held_by CS)) : DOk P w K mg base "copies_over" s_copies_over 4 P_copies_over (S_copies_over CS) := by
  have SC := sc_copies_over
  refine dok (k := 3) Df sc_copies_over (len_copies_over) (body := fun f cdv A outer s H E hr hg => ⟨_, _, (pss_cons (ps_setLc (i := 3) (own := [("_", 4)]) (g := (gName 4)) (tt := tYes) (by rfl) SC.nd rfl rfl (sw_true rfl rfl rfl (by decide +kernel)) (pi_range1 (by rfl) T.z_range (pa_cons (pe_op op_mul (pv 1) (pv 2)) pa_nil)) (blkOk_by (own := [("_", 4)]) (N := N_copies_over) (sc := defScope s_copies_over) (by decide +kernel)) (fun _ _ _ _ _ => (pg_name (i := 4) SC.nd rfl (Or.inl rfl))) (fun _ _ _ _ _ => pts_nil) (fun _ _ _ _ _ => (pe_lst pa_nil))) (pss_cons (ps_for PassesOwn.never rfl (pi_range1 (by rfl) T.z_range (pa_cons (pe_op op_mul (pv 1) (pv 2)) pa_nil)) (pg_name (i := 5) SC.nd rfl (Or.inl rfl)) (pss_cons (ps_set (i := 6) SC.nd rfl (Or.inl rfl) (pe_callD D_held_by.d (hr.mono (by decide)) hg (pa_cons (pv 0) (pa_cons (pv 1) (pa_cons (pv 2) (pa_cons (pv 5) pa_nil)))))) (pss_one (ps_if (pt_cmpR op_eq (SetI.pe_lenSetD (by rfl) T.z_len (by rfl) T.z_set (pv 6)) (pe_callB (kx_len K) (by rfl) T.z_len (by decide +kernel) (pa_cons (pv 6) pa_nil)) (nomark _)) (pss_cons (ps_set (i := 7) SC.nd rfl (Or.inl rfl) (pe_callB (kx_sumI K rfl) (by rfl) T.z_sum (by decide +kernel) (pa_cons (pe_lc (own := [("number", 8)]) (g := (gName 8)) (tt := tYes) (by rfl) SC.nd (kx_piList K (pv 6)) (blkOk_by (own := [("number", 8)]) (N := N_copies_over) (sc := defScope s_copies_over) (by decide +kernel)) (fun _ _ _ _ _ => (pg_name (i := 8) SC.nd rfl (Or.inl rfl))) (fun _ _ _ _ _ => pts_nil) (fun _ _ _ _ _ => (pe_op op_shl pe_int (pv 8)))) pa_nil))) (pss_one (ps_for PassesOwn.never rfl (kx_piList K (pv 6)) (pg_name (i := 8) SC.nd rfl (Or.inl rfl)) (pss_one (ps_expr (pe_bm PySem.F.plainAttrs_list PySem.F.slot_list_append PySem.F.type_list_append mt_append (pe_ix (kx_ixL K) (pv 3) (pv 8) (fun _ _ => rfl)) (pa_cons (pe_tup (pa_cons (pv 5) (pa_cons (pv 7) pa_nil))) pa_nil))))))) pss_nil)))) (pss_one (ps_ret (pv 3))))), (s_copies (i_rng1 (a_cons (e_op o_mul e_var e_var) a_nil)) g_name (i_rng1 (a_cons (e_op o_mul e_var e_var) a_nil)) (e_call (a_cons e_var (a_cons e_var (a_cons e_var (a_cons e_var a_nil))))) (t_test (e_op o_eqS (e_lsetI e_var) (e_cb c_len (a_cons e_var a_nil)))) (e_cb c_sumI (a_cons (e_f (f_lc (i_list e_var) g_name t_yes (e_op o_shl e_int e_var))) a_nil)) (i_list e_var) (e_tup (a_cons e_var (a_cons e_var a_nil))) (fun _ _ => trivial)), ?_⟩)
  clear hr hg
  intro ds Q h
  unfold S_copies_over at h
  split at h
  · rename_i d w h'
    obtain ⟨L, rfl, l1, f, h⟩ := h
    rw [show startG N_copies_over.length [shp CS L, .i w, .i h'] = [.d (shp CS L), .d (.i w), .d (.i h'), .u, .u, .u, .u, .u, .u] from rfl]
    have ⟨w36, h36, p0⟩ := f.le
    obtain ⟨w0, h0, wh⟩ := id f
    obtain ⟨n, hn⟩ : ∃ n, (w * h').toNat = n := ⟨_, rfl⟩
    have ni : (n : Int) = w * h' := by omega
    rw [hn] at h
    have hl := heldI_lt (L := L) w0 h0
    have hlen := heldI_len (L := L) (w := w) (h := h')
    rw [hn] at hl
    have cm : CMul w h' := .inl ⟨by omega, by omega⟩
    obtain ⟨held, eh⟩ : ∃ f, heldI L w h' = f := ⟨_, rfl⟩
    rw [eh] at h hl hlen
    refine ⟨⟨rfl, rfl, by show 3 < 9; decide⟩, cm, ⟨by omega, by omega⟩, by rw [rngD_len]; omega, fun k xss Γ => xss = (List.range n).map (fun q => (ovk held k q).map (ent n held)) ∧ ∃ a5 a6 a7 a8, Γ = [.d (shp CS L), .d (.i w), .d (.i h'), .u, .u, a5, a6, a7, a8], cm, ⟨by omega, by omega⟩, ⟨?_, _, _, _, _, rfl⟩, ?_, ?_⟩
    · rw [rngD_len, hn]
      refine List.ext_getElem (by simp) fun q h1 h2 => ?_
      rw [List.getElem_replicate, List.getElem_map]
      rfl
    · rintro k d xss Γ' hk ⟨rfl, a5, a6, a7, a8, rfl⟩
      obtain ⟨hk, rfl⟩ := rngD_get' hk
      rw [hn] at hk
      refine ⟨L, k, rfl, l1, f, Int.zero_add _, ?_⟩
      rw [eh]
      show wTest _ [.d (shp CS L), .d (.i w), .d (.i h'), .u, .u, .d (.i (0 + (k : Int))), .d (nD (held k)), a7, a8] _
      refine ⟨(held k).map fun (q : Nat) => (q : Int), by unfold nD; rw [List.map_map]; rfl, by rw [List.length_map, hlen]; omega, fun U nd mem => ?_⟩
      have nodup := (once_iff nd mem).trans nd_cast
      rw [List.length_map] at nodup
      show (decide (((U.length : Nat) : Int) = ((((held k).map fun (q : Nat) => D.i (q : Int)).length : Nat) : Int)) = true → _) ∧ (decide (((U.length : Nat) : Int) = ((((held k).map fun (q : Nat) => D.i (q : Int)).length : Nat) : Int)) = false → _)
      rw [List.length_map]
      refine ⟨fun z => ?_, fun z => ?_⟩
      · have z := of_decide_eq_true z
        have hnd := nodup.mp (by omega)
        have lk : (held k).length ≤ 36 := by
          have := List.Nodup.length_le_of_subset hnd (l₂ := List.range n) fun q hq => List.mem_range.mpr (hl k q hq)
          rw [List.length_range] at this
          omega
        refine ⟨by rw [List.length_map]; omega, fun _ => true, fun j d => d = .i (1 * 2 ^ (((held k).getD j 0 : Nat) : Int).toNat), fun j x hx => ?_, fun ys hs => ?_⟩
        · obtain ⟨hj, rfl, m⟩ := getG (d0 := 0) hx
          have := hl k _ m
          exact ⟨rfl, fun _ => ⟨⟨by omega, by omega, by decide⟩, rfl⟩⟩
        have e := selA (L := held k) (f := fun q => .i (1 * 2 ^ ((q : Nat) : Int).toNat)) hs (by rw [List.length_map])
        subst e
        refine ⟨(held k).map fun (q : Nat) => ((1 : Int) * 2 ^ ((q : Int)).toNat), by rw [List.map_map]; rfl, ?_⟩
        rw [sum_cast, bp_list hnd (hl k)]
        show ∃ J, _
        refine ⟨fun j xss Γ => xss = (List.range n).map (mid n held k j) ∧ ∃ a8, Γ = [.d (shp CS L), .d (.i w), .d (.i h'), .u, .u, .d (.i (0 + (k : Int))), .d (nD (held k)), .d (.i ((bp n fun q => (held k).contains q : Nat) : Int)), a8], ⟨?_, _, rfl⟩, ?_, ?_⟩
        · exact List.map_congr_left fun q _ => (mid_zero n held k q).symm
        · rintro j y xss' Γ4 hy ⟨rfl, b8, rfl⟩
          obtain ⟨hj, rfl, m⟩ := getG (d0 := 0) hy
          have eg : (held k).getD j 0 = (held k)[j] := by rw [List.getD_eq_getElem?_getD, List.getElem?_eq_getElem hj]; rfl
          rw [eg] at m ⊢
          have lt := hl k _ m
          refine ⟨(held k)[j], rfl, mid n held k j (held k)[j], by rw [List.getElem?_map, List.getElem?_range lt]; rfl, by have := mid_len n held k j (held k)[j]; omega, by show 8 < 9; decide, ?_⟩
          refine ⟨by show 2 ≤ 100000; decide, ?_, _, rfl⟩
          rw [Int.zero_add]
          exact mid_step n held k j hnd hj lt
        · rintro xss' Γ4 ⟨rfl, b8, rfl⟩
          refine ⟨?_, _, _, _, _, rfl⟩
          rw [List.length_map]
          exact List.map_congr_left fun q _ => mid_end n held k q hnd
      · have z := of_decide_eq_false z
        have hnd : ¬ (held k).Nodup := fun c => z (by have := nodup.mpr c; omega)
        refine ⟨?_, _, _, _, _, rfl⟩
        refine List.map_congr_left fun q _ => ?_
        rw [ovk_succ, decide_eq_false hnd, Bool.false_and, if_neg Bool.false_ne_true, List.append_nil]
    · rintro xss Γ' ⟨rfl, a5, a6, a7, a8, rfl⟩
      rw [rngD_len, hn]
      show Q (.l (((List.range n).map fun q => (ovk held n q).map (ent n held)).map D.l))
      rw [List.map_map]
      exact h
  · exact h.elim
def S_is_ints : List D → (D → Prop) → Prop := fun ds Q => match ds with
  | [x, .i n] => (NV x ∨ ∃ ns : List Int, x = .t (ns.map D.i) ∧ ns.length ≤ 1000) ∧ Q (.b (isIntsD x n))
  | _ => False
theorem len_is_ints : ∀ ds P, S_is_ints ds P → ds.length = P_is_ints.length := fun ds P h => by
  unfold S_is_ints at h
  split at h <;> first | rfl | exact h.elim
theorem d_is_ints (Df : DefIn K mg "is_ints" s_is_ints P_is_ints) (T : Txt mg) (D_is_int : DOk P w K mg base "is_int" s_is_int 1 P_is_int S_is_int) : DOk P w K mg base "is_ints" s_is_ints 2 P_is_ints S_is_ints := by
  have SC := sc_is_ints
  refine dok (k := 1) Df sc_is_ints (len_is_ints) (body := fun f cdv A outer s H E hr hg => ⟨_, _, (pss_one (ps_ret (pe_and (pe_callB (kx_isi K) (by rfl) T.z_isinstance (by decide +kernel) (pa_cons (pv 0) (pa_cons (pe_gty T.z_tuple PyProof.Rows.Boot.«tuple») pa_nil))) (pe_and (pe_cmpR op_eq (pe_callB (kx_len K) (by rfl) T.z_len (by decide +kernel) (pa_cons (pv 0) pa_nil)) (pv 1) (nomark _)) (pe_one (pe_callB (kx_all K rfl) (by rfl) T.z_all (by decide +kernel) (pa_cons (pe_lc (own := [("part", 2)]) (g := (gName 2)) (tt := tYes) (by rfl) SC.nd (kx_piTup K (pv 0)) (blkOk_by (own := [("part", 2)]) (N := N_is_ints) (sc := defScope s_is_ints) (by decide +kernel)) (fun _ _ _ _ _ => (pg_name (i := 2) SC.nd rfl (Or.inl rfl))) (fun _ _ _ _ _ => pts_nil) (fun _ _ _ _ _ => (pe_callD D_is_int.d (hr.mono (by decide)) hg (pa_cons (pv 2) pa_nil)))) pa_nil))))))), (s_ret (e_andV (e_isi (fun _ _ => tab_tuple) e_var) (e_andV (e_op o_eqS (e_cb c_len (a_cons e_var a_nil)) e_var) (e_cb c_all (a_cons (e_f (f_lc (i_tup e_var) g_name t_yes (e_call (a_cons e_var a_nil)))) a_nil))))), ?_⟩)
  clear hr hg
  intro ds Q h
  unfold S_is_ints at h
  split at h
  · rename_i x n
    obtain ⟨nv, h⟩ := h
    have cl : (∃ xs, x = .t xs ∧ xs.length ≤ 1000 ∧ ∀ y ∈ xs, plainD y = true) ∨ (plainD x = true ∧ ∀ xs, x ≠ .t xs) := by
      rcases nv with nv | ⟨ns, e, l⟩
      · cases nv with
        | @t xs l nv => exact .inl ⟨xs, rfl, l, fun x hx => rd_plain (nv x hx)⟩
        | _ => exact .inr ⟨rfl, fun xs e => by cases e⟩
      · exact .inl ⟨_, e, by rw [List.length_map]; exact l, fun x hx => by
          obtain ⟨n, _, rfl⟩ := List.mem_map.mp hx
          rfl⟩
    rcases cl with ⟨xs, rfl, l, nv⟩ | ⟨pl, nt⟩
    · refine ⟨fun _ => ?_, fun z => nomatch z⟩
      show (decide ((xs.length : Int) = n) = true → _) ∧ _
      unfold isIntsD at h
      refine ⟨fun hn => ?_, fun hn => ?_⟩
      · have h : Q (.b (decide ((xs.length : Int) = n) && xs.all isIntD)) := h
        rw [hn, Bool.true_and] at h
        refine ⟨by show xs.length ≤ 100000; omega, fun _ => true, fun k d => d = .b (isIntD (xs.getD k .n)), fun k x hx => ?_, fun ys hs => ?_⟩
        · have e : xs.getD k .n = x := by rw [List.getD_eq_getElem?_getD, hx]; rfl
          refine ⟨rfl, fun _ => is_int_of (nv x (List.mem_of_getElem? hx)) ?_⟩
          show D.b (isIntD x) = D.b (isIntD (xs.getD k .n))
          rw [e]
        · have e := hs.map
          have e2 : ys = (xs.map isIntD).map D.b := by
            rw [e, List.map_map]
            refine List.ext_getElem (by simp) fun k h1 h2 => ?_
            rw [List.length_map] at h2
            rw [List.getElem_map, List.getElem_map, List.getElem_range, List.getD_eq_getElem?_getD, List.getElem?_eq_getElem h2]
            rfl
          refine ⟨xs.map isIntD, e2, ?_⟩
          rw [List.all_map]
          exact h
      · have h : Q (.b (decide ((xs.length : Int) = n) && xs.all isIntD)) := h
        rw [hn, Bool.false_and] at h
        exact h
    · cases x with
      | t xs => exact (nt xs rfl).elim
      | o _ _ _ => cases pl
      | j => cases pl
      | p _ => cases pl
      | c _ => cases pl
      | T _ => cases pl
      | _ => exact ⟨(fun z => nomatch z), fun _ => h⟩
  · exact h.elim
def S_is_lattice : List D → (D → Prop) → Prop := fun ds Q => match ds with
  | [.t [.i w, .i s, .i h]] => Q (.b (decide (0 ≤ s ∧ s < w ∧ 1 ≤ h)))
  | _ => False
theorem len_is_lattice : ∀ ds P, S_is_lattice ds P → ds.length = P_is_lattice.length := fun ds P h => by
  unfold S_is_lattice at h
  split at h <;> first | rfl | exact h.elim
theorem d_is_lattice (Df : DefIn K mg "is_lattice" s_is_lattice P_is_lattice) (T : Txt mg) (D_is_ints : DOk P w K mg base "is_ints" s_is_ints 2 P_is_ints S_is_ints) : DOk P w K mg base "is_lattice" s_is_lattice 3 P_is_lattice S_is_lattice := by
  have SC := sc_is_lattice
  refine dok (k := 2) Df sc_is_lattice (len_is_lattice) (body := fun f cdv A outer s H E hr hg => ⟨_, _, (pss_one (ps_ret (pe_and (pe_callD D_is_ints.d (hr.mono (by decide)) hg (pa_cons (pv 0) (pa_cons pe_int pa_nil))) (pe_and (pe_chain op_le op_lt pe_int (pe_ix (kx_ixT K) (pv 0) pe_int (fun _ _ => rfl)) (pe_ix (kx_ixT K) (pv 0) pe_int (fun _ _ => rfl))) (pe_one (pe_cmpR op_ge (pe_ix (kx_ixT K) (pv 0) pe_int (fun _ _ => rfl)) pe_int (nomark _))))))), (s_ret (e_andV (e_call (a_cons e_var (a_cons e_int a_nil))) (e_andV (e_chain o_le o_lt e_int (e_op o_ixT e_var e_int) (e_op o_ixT e_var e_int)) (e_op o_ge (e_op o_ixT e_var e_int) e_int)))), ?_⟩)
  clear hr hg
  intro ds Q h
  unfold S_is_lattice at h
  split at h
  · rename_i w s h'
    refine ⟨.inr ⟨[w, s, h'], rfl, by show 3 ≤ 1000; decide⟩, ?_⟩
    refine ⟨fun _ => ⟨_, rfl, ⟨fun z => ?_, fun z => ?_⟩⟩, fun z => nomatch z⟩
    · have z := of_decide_eq_true z
      refine ⟨_, rfl, ⟨fun z2 => ⟨_, rfl, ?_⟩, fun z2 => ?_⟩⟩
      · have z2 := of_decide_eq_true z2
        rw [show decide (0 ≤ s ∧ s < w ∧ 1 ≤ h') = decide (1 ≤ h') from by rw [decide_eq_decide]; exact ⟨fun a => a.2.2, fun a => ⟨z, z2, a⟩⟩] at h
        exact h
      · have z2 := of_decide_eq_false z2
        rw [decide_eq_false fun a => z2 a.2.1] at h
        exact h
    · have z := of_decide_eq_false z
      rw [decide_eq_false fun a => z a.1] at h
      exact ⟨(fun z => nomatch z), fun _ => h⟩
  · exact h.elim
def S_rest_of : List D → (D → Prop) → Prop := fun ds Q => match ds with
  | [.t [.i w, .i s, .i h], .t [.i x, .i y]] => IsLat w s h ∧ Q (pt (rest w s h (x, y)))
  | _ => False
theorem len_rest_of : ∀ ds P, S_rest_of ds P → ds.length = P_rest_of.length := fun ds P h => by
  unfold S_rest_of at h
  split at h <;> first | rfl | exact h.elim
theorem d_rest_of (Df : DefIn K mg "rest_of" s_rest_of P_rest_of) (T : Txt mg) : DOk P w K mg base "rest_of" s_rest_of 1 P_rest_of S_rest_of := by
  have SC := sc_rest_of
  refine dok (k := 0) Df sc_rest_of (len_rest_of) (body := fun f cdv A outer s H E hr hg => ⟨_, _, (pss_cons (ps_asg (pv 0) (kx_pgTup (n := 3) K rfl (pgs_cons (pg_name (i := 2) SC.nd rfl (Or.inl rfl)) (pgs_cons (pg_name (i := 3) SC.nd rfl (Or.inl rfl)) (pgs_cons (pg_name (i := 4) SC.nd rfl (Or.inl rfl)) pgs_nil))) (by rfl))) (pss_cons (ps_asg (pv 1) (kx_pgTup (n := 2) K rfl (pgs_cons (pg_name (i := 5) SC.nd rfl (Or.inl rfl)) (pgs_cons (pg_name (i := 6) SC.nd rfl (Or.inl rfl)) pgs_nil)) (by rfl))) (pss_one (ps_ret (pe_tup (pa_cons (pe_op op_mod (pe_op op_sub (pv 5) (pe_op op_mul (pe_op op_fdiv (pv 6) (pv 4)) (pv 3))) (pv 2)) (pa_cons (pe_op op_mod (pv 6) (pv 4)) pa_nil))))))), (s_seq (s_asg e_var (g_tup (gs_cons g_name (gs_cons g_name (gs_cons g_name gs_nil))))) (s_seq (s_asg e_var (g_tup (gs_cons g_name (gs_cons g_name gs_nil)))) (s_ret (e_tup (a_cons (e_op o_mod (e_op o_sub e_var (e_op o_mul (e_op o_fdiv e_var e_var) e_var)) e_var) (a_cons (e_op o_mod e_var e_var) a_nil)))))), ?_⟩)
  clear hr hg
  intro ds Q h
  unfold S_rest_of at h
  split at h
  · rename_i w s h' x y
    obtain ⟨⟨h1, h2, h3, h4, h5, h6⟩, h⟩ := h
    exact ⟨rfl, rfl, ⟨h5, by omega⟩, .inr ⟨by omega, by omega⟩, h1, h5, by show 2 ≤ 100000; decide, h⟩
  · exact h.elim
/-- a lattice, its numbers small enough to be multiplied -/
def IsLatM (w s h : Int) : Prop := (0 < w ∧ 0 ≤ s ∧ s < w ∧ 0 < h) ∧ CMul w h
def S_holds_each_once : List D → (D → Prop) → Prop := fun ds Q => match ds with
  | [.t [.i w, .i s, .i h], .l xs] => ∃ L : List Pr, xs = L.map pt ∧ IsLatM w s h ∧ L.length ≤ 60 ∧ Q (.b (decide ((L.length : Int) = w * h ∧ (L.map (rest w s h)).Nodup)))
  | _ => False
theorem len_holds_each_once : ∀ ds P, S_holds_each_once ds P → ds.length = P_holds_each_once.length := fun ds P h => by
  unfold S_holds_each_once at h
  split at h <;> first | rfl | exact h.elim
theorem d_holds_each_once (Df : DefIn K mg "holds_each_once" s_holds_each_once P_holds_each_once) (T : Txt mg) (D_rest_of : DOk P w K mg base "rest_of" s_rest_of 1 P_rest_of S_rest_of) : DOk P w K mg base "holds_each_once" s_holds_each_once 2 P_holds_each_once S_holds_each_once := by
  have SC := sc_holds_each_once
  refine dok (k := 1) Df sc_holds_each_once (len_holds_each_once) (body := fun f cdv A outer s H E hr hg => ⟨_, _, (pss_cons (ps_asg (pv 0) (kx_pgTup (n := 3) K rfl (pgs_cons (pg_name (i := 2) SC.nd rfl (Or.inl rfl)) (pgs_cons (pg_name (i := 3) SC.nd rfl (Or.inl rfl)) (pgs_cons (pg_name (i := 4) SC.nd rfl (Or.inl rfl)) pgs_nil))) (by rfl))) (pss_one (ps_ret (pe_chain op_eq op_eq (pe_callB (kx_len K) (by rfl) T.z_len (by decide +kernel) (pa_cons (pv 1) pa_nil)) (pe_op op_mul (pv 2) (pv 4)) (pe_callB (kx_lenS P w) (by rfl) T.z_len (by decide +kernel) (pa_cons (kx_sct K P w (own := [("cell", 5)]) (g := (gName 5)) (tt := tYes) (by rfl) hr.units SC.nd (kx_piList K (pv 1)) (blkOk_by (own := [("cell", 5)]) (N := N_holds_each_once) (sc := defScope s_holds_each_once) (by decide +kernel)) (fun _ _ _ _ _ => (pg_name (i := 5) SC.nd rfl (Or.inl rfl))) (fun _ _ _ _ _ => pts_nil) (fun _ _ _ _ _ => (pe_callD D_rest_of.d (hr.mono (by decide)) hg (pa_cons (pv 0) (pa_cons (pv 5) pa_nil))))) pa_nil)))))), (s_seq (s_asg e_var (g_tup (gs_cons g_name (gs_cons g_name (gs_cons g_name gs_nil))))) (s_ret (e_chain o_eqS o_eqS (e_cb c_len (a_cons e_var a_nil)) (e_op o_mul e_var e_var) (e_lenSc (P := P) (w := w) (i_list e_var) g_name t_yes (e_call (a_cons e_var (a_cons e_var a_nil))))))), ?_⟩)
  clear hr hg
  intro ds Q h
  unfold S_holds_each_once at h
  split at h
  · rename_i w s h' xs
    obtain ⟨L, rfl, ⟨⟨w0, s0, s1, h0⟩, cm⟩, l60, h⟩ := h
    refine ⟨rfl, ?_⟩
    dsimp only [wgName, put]
    refine ⟨cm, ?_⟩
    show (decide (((L.map pt).length : Int) = w * h') = true → _) ∧ (decide (((L.map pt).length : Int) = w * h') = false → _)
    rw [List.length_map]
    refine ⟨fun z => ?_, fun z => ?_⟩
    · have z := of_decide_eq_true z
      have w60 : w ≤ 60 := by
        have := Int.mul_le_mul_of_nonneg_left (show 1 ≤ h' by omega) (Int.le_of_lt w0)
        omega
      have h60 : h' ≤ 60 := by
        have := Int.mul_le_mul_of_nonneg_right (show 1 ≤ w by omega) (Int.le_of_lt h0)
        omega
      refine ⟨by rw [List.length_map]; exact l60, fun _ => true, fun k ns => ns = [(rest w s h' (L.getD k (0, 0))).1, (rest w s h' (L.getD k (0, 0))).2], fun k x hx => ?_, fun ys hs => ?_⟩
      · obtain ⟨hk, rfl⟩ := getpt hx
        exact ⟨rfl, fun _ => ⟨⟨w0, by omega, s0, s1, h0, by omega⟩, _, rfl, rfl⟩⟩
      · rw [List.length_map] at hs
        obtain ⟨_, _, c⟩ := selS_all (f := fun k => [(rest w s h' (L.getD k (0, 0))).1, (rest w s h' (L.getD k (0, 0))).2]) hs
        show Q (.b (decide (w * h' = ((ys.length : Nat) : Int))))
        have e : (w * h' = ((ys.length : Nat) : Int)) ↔ ((L.length : Int) = w * h' ∧ (L.map (rest w s h')).Nodup) := by
          rw [← ShM.nodup_ix, ← z]
          constructor
          · intro e
            refine ⟨rfl, fun i j hi hj e3 => c.mp (by omega) i j hi hj ?_⟩
            rw [e3]
          · rintro ⟨_, inj⟩
            rw [c.mpr fun i j hi hj e => inj i j hi hj ?_]
            injection e with e1 e2
            injection e2 with e2 _
            exact Prod.ext e1 e2
        rw [decide_eq_decide.mpr e]
        exact h
    · have z := of_decide_eq_false z
      rw [decide_eq_false fun a => z a.1] at h
      exact h
  · exact h.elim
def S_both_cells (CS : Addr) : List D → (D → Prop) → Prop := fun ds Q => match ds with
  | [a, .t [.i _, .i _, .i _, .i c, .i d]] => ∃ L : List Pr, a = shp CS L ∧ L.length ≤ 1000 ∧ Q (.l ((dbl c d L).map pt))
  | _ => False
theorem len_both_cells {CS : Addr} : ∀ ds P, S_both_cells CS ds P → ds.length = P_both_cells.length := fun ds P h => by
  unfold S_both_cells at h
  split at h <;> first | rfl | exact h.elim
theorem d_both_cells (Df : DefIn K mg "both_cells" s_both_cells P_both_cells) (T : Txt mg) (PR_cells : DO.PropD P w K mg base CS "cells" "_cells" 1) : DOk P w K mg base "both_cells" s_both_cells 3 P_both_cells (S_both_cells CS) := by
  have SC := sc_both_cells
  refine dok (k := 2) Df sc_both_cells (len_both_cells) (body := fun f cdv A outer s H E hr hg => ⟨_, _, (pss_cons (ps_asg (pe_slice (DO.kx_slA K) (pv 1) (po_some pe_int) po_none) (kx_pgTup (n := 2) K rfl (pgs_cons (pg_name (i := 2) SC.nd rfl (Or.inr rfl)) (pgs_cons (pg_name (i := 3) SC.nd rfl (Or.inr rfl)) pgs_nil)) (by rfl))) (pss_one (ps_ret (pe_op op_cat (pe_callTy (DO.kx_listOf K) (by rfl) T.z_list (by decide +kernel) (pa_cons (DO.pe_propD PR_cells (hr.mono (by decide)) (pv 0) (by rfl)) pa_nil)) (pe_lc (own := [("x", 4), ("y", 5)]) (g := (gTup K 2 (gCons (gName 4) (gCons (gName 5) gNil)))) (tt := tYes) (by rfl) SC.nd (kx_piTup K (DO.pe_propD PR_cells (hr.mono (by decide)) (pv 0) (by rfl))) (blkOk_by (own := [("x", 4), ("y", 5)]) (N := N_both_cells) (sc := defScope s_both_cells) (by decide +kernel)) (fun _ _ _ _ _ => (kx_pgTup (n := 2) K rfl (pgs_cons (pg_name (i := 4) SC.nd rfl (Or.inl rfl)) (pgs_cons (pg_name (i := 5) SC.nd rfl (Or.inl rfl)) pgs_nil)) (by rfl))) (fun _ _ _ _ _ => pts_nil) (fun _ _ _ _ _ => (pe_tup (pa_cons (pe_op op_sub (pv 2) (pv 4)) (pa_cons (pe_op op_sub (pv 3) (pv 5)) pa_nil))))))))), (s_seq (s_asg (DO.e_slA e_var (p_some e_int) p_none) (g_tup (gs_cons g_name (gs_cons g_name gs_nil)))) (s_ret (e_f (f_cat (e_f (DO.f_listOf (a_cons (DO.e_prop1 e_var) a_nil))) (e_f (f_lc (i_tup (DO.e_prop1 e_var)) (g_tup (gs_cons g_name (gs_cons g_name gs_nil))) t_yes (e_tup (a_cons (e_op o_sub e_var e_var) (a_cons (e_op o_sub e_var e_var) a_nil))))))))), ?_⟩)
  clear hr hg
  intro ds Q h
  unfold S_both_cells at h
  split at h
  · rename_i a _ _ _ c d
    obtain ⟨L, rfl, l1, h⟩ := h
    refine ⟨rfl, ?_⟩
    dsimp only [wgName, put]
    refine ⟨_, rfl, _, rfl, by rw [List.length_map]; omega, fun _ => true, fun k x => x = pt (c - (L.getD k (0, 0)).1, d - (L.getD k (0, 0)).2), fun k x hx => ?_, fun ys hs => ?_⟩
    · obtain ⟨hk, rfl⟩ := getpt hx
      exact ⟨rfl, rfl, fun _ => ⟨by show 2 ≤ 100000; decide, rfl⟩⟩
    have e1 := selmap (f := fun p => pt (c - p.1, d - p.2)) hs (by rw [List.length_map])
    subst e1
    have e2 : L.map pt ++ L.map (fun p => pt (c - p.1, d - p.2)) = (dbl c d L).map pt := by
      unfold dbl
      rw [List.map_append, List.map_map]
      rfl
    refine ⟨by rw [List.length_map, List.length_map]; omega, ?_⟩
    show Q (.l (L.map pt ++ L.map (fun p => pt (c - p.1, d - p.2))))
    rw [e2]
    exact h
  · exact h.elim
def S_is_floor (CS : Addr) : List D → (D → Prop) → Prop := fun ds Q => match ds with
  | [a, .t [.i w, .i s, .i h, .i c, .i d]] => ∃ L : List Pr, a = shp CS L ∧ L.length ≤ 30 ∧ IsLatM w s h ∧ Q (.b (decide (((dbl c d L).length : Int) = w * h ∧ ((dbl c d L).map (rest w s h)).Nodup)))
  | _ => False
theorem len_is_floor {CS : Addr} : ∀ ds P, S_is_floor CS ds P → ds.length = P_is_floor.length := fun ds P h => by
  unfold S_is_floor at h
  split at h <;> first | rfl | exact h.elim
theorem d_is_floor (Df : DefIn K mg "is_floor" s_is_floor P_is_floor) (T : Txt mg) (D_holds_each_once : DOk P w K mg base "holds_each_once" s_holds_each_once 2 P_holds_each_once S_holds_each_once) (D_both_cells : DOk P w K mg base "both_cells" s_both_cells 3 P_both_cells (S_both_cells CS)) : DOk P w K mg base "is_floor" s_is_floor 4 P_is_floor (S_is_floor CS) := by
  have SC := sc_is_floor
  refine dok (k := 3) Df sc_is_floor (len_is_floor) (body := fun f cdv A outer s H E hr hg => ⟨_, _, (pss_one (ps_ret (pe_callD D_holds_each_once.d (hr.mono (by decide)) hg (pa_cons (pe_slice (DO.kx_slA K) (pv 1) po_none (po_some pe_int)) (pa_cons (pe_callD D_both_cells.d (hr.mono (by decide)) hg (pa_cons (pv 0) (pa_cons (pv 1) pa_nil))) pa_nil))))), (s_ret (e_call (a_cons (DO.e_slA e_var p_none (p_some e_int)) (a_cons (e_call (a_cons e_var (a_cons e_var a_nil))) a_nil)))), ?_⟩)
  clear hr hg
  intro ds Q h
  unfold S_is_floor at h
  split at h
  · rename_i a w s h' c d
    obtain ⟨L, rfl, l1, I, h⟩ := h
    refine ⟨L, rfl, by omega, ?_⟩
    show S_holds_each_once [.t [.i w, .i s, .i h'], .l ((dbl c d L).map pt)] _
    exact ⟨dbl c d L, rfl, I, by rw [dbl_len]; omega, h⟩
  · exact h.elim
def S_has_form : List D → (D → Prop) → Prop := fun ds Q => match ds with
  | [x] => NV x ∧ ∀ b : Bool, (b = true ↔ ∃ w s h c d : Int, x = .t [.i w, .i s, .i h, .i c, .i d] ∧ 0 ≤ s ∧ s < w ∧ 1 ≤ h ∧ 0 ≤ c ∧ c < w ∧ 0 ≤ d ∧ d < h) → Q (.b b)
  | _ => False
theorem len_has_form : ∀ ds P, S_has_form ds P → ds.length = P_has_form.length := fun ds P h => by
  unfold S_has_form at h
  split at h <;> first | rfl | exact h.elim
theorem d_has_form (Df : DefIn K mg "has_form" s_has_form P_has_form) (T : Txt mg) (D_is_lattice : DOk P w K mg base "is_lattice" s_is_lattice 3 P_is_lattice S_is_lattice) (D_is_ints : DOk P w K mg base "is_ints" s_is_ints 2 P_is_ints S_is_ints) : DOk P w K mg base "has_form" s_has_form 4 P_has_form S_has_form := by
  have SC := sc_has_form
  refine dok (k := 3) Df sc_has_form (len_has_form) (body := fun f cdv A outer s H E hr hg => ⟨_, _, (pss_one (ps_ret (pe_and (pe_callD D_is_ints.d (hr.mono (by decide)) hg (pa_cons (pv 0) (pa_cons pe_int pa_nil))) (pe_and (pe_callD D_is_lattice.d (hr.mono (by decide)) hg (pa_cons (pe_slice (DO.kx_slA K) (pv 0) po_none (po_some pe_int)) pa_nil)) (pe_and (pe_chain op_le op_lt pe_int (pe_ix (kx_ixT K) (pv 0) pe_int (fun _ _ => rfl)) (pe_ix (kx_ixT K) (pv 0) pe_int (fun _ _ => rfl))) (pe_one (pe_chain op_le op_lt pe_int (pe_ix (kx_ixT K) (pv 0) pe_int (fun _ _ => rfl)) (pe_ix (kx_ixT K) (pv 0) pe_int (fun _ _ => rfl))))))))), (s_ret (e_andV (e_call (a_cons e_var (a_cons e_int a_nil))) (e_andV (e_call (a_cons (DO.e_slA e_var p_none (p_some e_int)) a_nil)) (e_andV (e_chain o_le o_lt e_int (e_op o_ixT e_var e_int) (e_op o_ixT e_var e_int)) (e_chain o_le o_lt e_int (e_op o_ixT e_var e_int) (e_op o_ixT e_var e_int)))))), ?_⟩)
  clear hr hg
  intro ds Q h
  unfold S_has_form at h
  split at h
  · rename_i x
    obtain ⟨nv, h⟩ := h
    refine ⟨.inl nv, ⟨fun z => ?_, fun z => ?_⟩⟩
    · obtain ⟨w, s, h', c, d, rfl⟩ := ints5 z
      have hx : ∀ b : Bool, (b = true ↔ (0 ≤ s ∧ s < w ∧ 1 ≤ h' ∧ 0 ≤ c ∧ c < w ∧ 0 ≤ d ∧ d < h')) → Q (.b b) := fun b hb => h b (hb.trans ⟨fun a => ⟨w, s, h', c, d, rfl, a⟩, fun ⟨w', s', h2, c', d', e, a⟩ => by
        simp only [D.t.injEq, List.cons.injEq, D.i.injEq, and_true] at e
        obtain ⟨rfl, rfl, rfl, rfl, rfl⟩ := e
        exact a⟩)
      have no : ¬ (0 ≤ s ∧ s < w ∧ 1 ≤ h' ∧ 0 ≤ c ∧ c < w ∧ 0 ≤ d ∧ d < h') → Q (.b false) := fun n => hx false ⟨(fun z => nomatch z), fun a => absurd a n⟩
      show (decide (0 ≤ s ∧ s < w ∧ 1 ≤ h') = true → _) ∧ (decide (0 ≤ s ∧ s < w ∧ 1 ≤ h') = false → _)
      refine ⟨fun z1 => ?_, fun z1 => no fun a => of_decide_eq_false z1 ⟨a.1, a.2.1, a.2.2.1⟩⟩
      have z1 := of_decide_eq_true z1
      refine ⟨_, rfl, ⟨fun z2 => ⟨_, rfl, ⟨fun z3 => ?_, fun z3 => no fun a => of_decide_eq_false z3 a.2.2.2.2.1⟩⟩, fun z2 => ⟨(fun z => nomatch z), fun _ => no fun a => of_decide_eq_false z2 a.2.2.2.1⟩⟩⟩
      have z2 := of_decide_eq_true z2
      have z3 := of_decide_eq_true z3
      refine ⟨_, rfl, ⟨fun z4 => ⟨_, rfl, ?_⟩, fun z4 => no fun a => of_decide_eq_false z4 a.2.2.2.2.2.1⟩⟩
      have z4 := of_decide_eq_true z4
      exact hx _ ⟨fun z5 => ⟨z1.1, z1.2.1, z1.2.2, z2, z3, z4, of_decide_eq_true z5⟩, fun a => decide_eq_true a.2.2.2.2.2.2⟩
    · refine h false ⟨(fun z => nomatch z), ?_⟩
      rintro ⟨w, s, h', c, d, rfl, _⟩
      cases z
  · exact h.elim
def S_is_turned_floor (CS : Addr) : List D → (D → Prop) → Prop := fun ds Q => match ds with
  | [a, x] => ∃ L : List Pr, a = shp CS L ∧ L.length ≤ 30 ∧ NV x ∧ (∀ w s h c d : Int, x = .t [.i w, .i s, .i h, .i c, .i d] → CMul w h) ∧ Q (.b (floorD L x))
  | _ => False
theorem len_is_turned_floor {CS : Addr} : ∀ ds P, S_is_turned_floor CS ds P → ds.length = P_is_turned_floor.length := fun ds P h => by
  unfold S_is_turned_floor at h
  split at h <;> first | rfl | exact h.elim
theorem d_is_turned_floor (Df : DefIn K mg "is_turned_floor" s_is_turned_floor P_is_turned_floor) (T : Txt mg) (D_check_shape : DOk P w K mg base "check_shape" s_check_shape 1 P_check_shape (S_check_shape CS)) (D_is_floor : DOk P w K mg base "is_floor" s_is_floor 4 P_is_floor (S_is_floor CS)) (D_has_form : DOk P w K mg base "has_form" s_has_form 4 P_has_form S_has_form) : DOk P w K mg base "is_turned_floor" s_is_turned_floor 5 P_is_turned_floor (S_is_turned_floor CS) := by
  have SC := sc_is_turned_floor
  refine dok (k := 4) Df sc_is_turned_floor (len_is_turned_floor) (body := fun f cdv A outer s H E hr hg => ⟨_, _, (pss_cons (ps_expr (pe_callD D_check_shape.d (hr.mono (by decide)) hg (pa_cons (pv 0) pa_nil))) (pss_one (ps_ret (pe_and (pe_callD D_has_form.d (hr.mono (by decide)) hg (pa_cons (pv 1) pa_nil)) (pe_one (pe_callD D_is_floor.d (hr.mono (by decide)) hg (pa_cons (pv 0) (pa_cons (pv 1) pa_nil)))))))), (s_seq (s_drop (e_call (a_cons e_var a_nil))) (s_ret (e_andV (e_call (a_cons e_var a_nil)) (e_call (a_cons e_var (a_cons e_var a_nil)))))), ?_⟩)
  clear hr hg
  intro ds Q h
  unfold S_is_turned_floor at h
  split at h
  · rename_i a x
    obtain ⟨L, rfl, l1, nv, cm, h⟩ := h
    refine ⟨⟨L, rfl⟩, nv, fun b hb => ⟨fun e => ?_, fun e => ?_⟩⟩
    · obtain ⟨w, s, h', c, d, rfl, a⟩ := hb.mp e
      refine ⟨L, rfl, l1, ⟨⟨by omega, by omega, by omega, by omega⟩, cm w s h' c d rfl⟩, ?_⟩
      rw [show floorD L (.t [.i w, .i s, .i h', .i c, .i d]) = decide (((dbl c d L).length : Int) = w * h' ∧ ((dbl c d L).map (rest w s h')).Nodup) from by
        show decide (okF L w s h' c d) = _
        rw [decide_eq_decide]
        exact ⟨fun z => z.2, fun z => ⟨a, z⟩⟩] at h
      exact h
    · rw [show floorD L x = false from by
        rw [Bool.eq_false_iff]
        intro z
        unfold floorD at z
        split at z
        · have z := of_decide_eq_true z
          have := hb.mpr ⟨_, _, _, _, _, rfl, z.1⟩
          rw [e] at this
          cases this
        · cases z] at h
      exact h
  · exact h.elim
end
end K74
namespace K74
open PySem PySem.Spec PyProof.Rows L2 Evl Lay ErrX DL TE DO ShM PageM
abbrev s_marked_cells : Stmt := top 29
abbrev N_marked_cells : List Str := ["text", "rows", "y", "line", "x", "sign"]
abbrev P_marked_cells : List Str := ["text"]
theorem sc_marked_cells : FnScope N_marked_cells P_marked_cells (defScope s_marked_cells) := ⟨rfl, rfl, rfl, by decide +kernel, rfl, by decide +kernel, by decide +kernel⟩
abbrev s_shape_from : Stmt := top 33
abbrev N_shape_from : List Str := ["cells", "shape"]
abbrev P_shape_from : List Str := ["cells"]
theorem sc_shape_from : FnScope N_shape_from P_shape_from (defScope s_shape_from) := ⟨rfl, rfl, rfl, by decide +kernel, rfl, by decide +kernel, by decide +kernel⟩
abbrev s_shape_with : Stmt := top 34
abbrev N_shape_with : List Str := ["text", "shape"]
abbrev P_shape_with : List Str := ["text"]
theorem sc_shape_with : FnScope N_shape_with P_shape_with (defScope s_shape_with) := ⟨rfl, rfl, rfl, by decide +kernel, rfl, by decide +kernel, by decide +kernel⟩
abbrev s_is_same : Stmt := top 75
abbrev N_is_same : List Str := ["value", "wanted", "own", "part"]
abbrev P_is_same : List Str := ["value", "wanted"]
theorem sc_is_same : FnScope N_is_same P_is_same (defScope s_is_same) := ⟨rfl, rfl, rfl, by decide +kernel, rfl, by decide +kernel, by decide +kernel⟩
abbrev s_turned_floors : Stmt := top 60
abbrev N_turned_floors : List Str := ["shape", "found", "wide", "slip", "high", "c", "d", "floor"]
abbrev P_turned_floors : List Str := ["shape"]
theorem sc_turned_floors : FnScope N_turned_floors P_turned_floors (defScope s_turned_floors) := ⟨rfl, rfl, rfl, by decide +kernel, rfl, by decide +kernel, by decide +kernel⟩
abbrev s_accepts_turned : Stmt := top 85
abbrev N_accepts_turned : List Str := ["shape", "told", "certificate"]
abbrev P_accepts_turned : List Str := ["shape", "told", "certificate"]
theorem sc_accepts_turned : FnScope N_accepts_turned P_accepts_turned (defScope s_accepts_turned) := ⟨rfl, rfl, rfl, by decide +kernel, rfl, by decide +kernel, by decide +kernel⟩
abbrev s_accepts_rolled : Stmt := top 86
abbrev N_accepts_rolled : List Str := ["shape", "told", "certificate", "wide", "high", "many", "found"]
abbrev P_accepts_rolled : List Str := ["shape", "told", "certificate"]
theorem sc_accepts_rolled : FnScope N_accepts_rolled P_accepts_rolled (defScope s_accepts_rolled) := ⟨rfl, rfl, rfl, by decide +kernel, rfl, by decide +kernel, by decide +kernel⟩
abbrev s_accepts : Stmt := top 90
abbrev N_accepts : List Str := ["claim", "certificate", "word", "told", "shape", "check"]
abbrev P_accepts : List Str := ["claim", "certificate"]
theorem sc_accepts : FnScope N_accepts P_accepts (defScope s_accepts) := ⟨rfl, rfl, rfl, by decide +kernel, rfl, by decide +kernel, by decide +kernel⟩
abbrev s_certify_turned : Stmt := top 92
abbrev N_certify_turned : List Str := ["shape", "found"]
abbrev P_certify_turned : List Str := ["shape"]
theorem sc_certify_turned : FnScope N_certify_turned P_certify_turned (defScope s_certify_turned) := ⟨rfl, rfl, rfl, by decide +kernel, rfl, by decide +kernel, by decide +kernel⟩
abbrev s_certify_rolled : Stmt := top 93
abbrev N_certify_rolled : List Str := ["shape", "wide", "high", "found"]
abbrev P_certify_rolled : List Str := ["shape", "wide", "high"]
theorem sc_certify_rolled : FnScope N_certify_rolled P_certify_rolled (defScope s_certify_rolled) := ⟨rfl, rfl, rfl, by decide +kernel, rfl, by decide +kernel, by decide +kernel⟩
abbrev s_made : Stmt := top 104
abbrev N_made : List Str := ["_law_spots_here"]
abbrev P_made : List Str := ["_law_spots_here"]
theorem sc_made : FnScope N_made P_made (defScope s_made) := ⟨rfl, rfl, rfl, by decide +kernel, rfl, by decide +kernel, by decide +kernel⟩
abbrev s_m_wide : Stmt := clsFn (top 32) 3
abbrev N_m_wide : List Str := ["self", "x", "y"]
abbrev P_m_wide : List Str := ["self"]
theorem sc_m_wide : FnScope N_m_wide P_m_wide (defScope s_m_wide) := ⟨rfl, rfl, rfl, by decide +kernel, rfl, by decide +kernel, by decide +kernel⟩
abbrev s_m_high : Stmt := clsFn (top 32) 4
abbrev N_m_high : List Str := ["self", "y", "x"]
abbrev P_m_high : List Str := ["self"]
theorem sc_m_high : FnScope N_m_high P_m_high (defScope s_m_high) := ⟨rfl, rfl, rfl, by decide +kernel, rfl, by decide +kernel, by decide +kernel⟩
abbrev s_m_str : Stmt := clsFn (top 32) 10
abbrev N_m_str : List Str := ["self", "empty", "rows", "_", "x", "y"]
abbrev P_m_str : List Str := ["self"]
theorem sc_m_str : FnScope N_m_str P_m_str (defScope s_m_str) := ⟨rfl, rfl, rfl, by decide +kernel, rfl, by decide +kernel, by decide +kernel⟩
theorem kb_accepts_10 {K : PySem.W.Frag} : KwB K "accepts" s_accepts ["certificate", "claim"] P_accepts g21 := fun f fd F s ws hl => by
  obtain ⟨oc, od, kV, doc, pm, an, cdv, ct, osl, rfl, lk, code⟩ := F.ex
  match ws, hl with
  | [u0, u1], _ => exact .of_eq rfl
theorem kb_certify_rolled_210 {K : PySem.W.Frag} : KwB K "certify_rolled" s_certify_rolled ["high", "wide", "shape"] P_certify_rolled g210 := fun f fd F s ws hl => by
  obtain ⟨oc, od, kV, doc, pm, an, cdv, ct, osl, rfl, lk, code⟩ := F.ex
  match ws, hl with
  | [u0, u1, u2], _ => exact .of_eq rfl
theorem kb_certify_turned_0 {K : PySem.W.Frag} : KwB K "certify_turned" s_certify_turned ["shape"] P_certify_turned g1 := fun f fd F s ws hl => by
  obtain ⟨oc, od, kV, doc, pm, an, cdv, ct, osl, rfl, lk, code⟩ := F.ex
  match ws, hl with
  | [u0], _ => exact .of_eq rfl
abbrev s_init : Stmt := clsFn (top 32) 0
abbrev N_init : List Str := ["self", "cells"]
theorem sc_init : FnScope N_init ["self", "cells"] (defScope s_init) := ⟨rfl, rfl, rfl, by decide +kernel, rfl, by decide +kernel, by decide +kernel⟩
/-- brought to the least column and line -/
def zeroed (L : List Pr) (L' : List Pr) : Prop := ∃ a b : Int, L'.Perm (L.map fun p => (p.1 + a, p.2 + b)) ∧ L'.Pairwise lexle ∧ (∀ p ∈ L', 0 ≤ p.1 ∧ 0 ≤ p.2) ∧ (∃ p ∈ L', p.1 = 0) ∧ ∃ p ∈ L', p.2 = 0
/-- what Shape(..) tells -/
def S_ini : List D → (List D → Prop) → Prop := fun ds Q => match ds with
  | [.t xs] => ∃ L : List Pr, xs = L.map pt ∧ L ≠ [] ∧ CellsOk L ∧ ∀ L', zeroed L L' → Q [.t (L'.map pt)]
  | _ => False
section
variable {P : Program} {w : World} {K : PySem.W.Frag} {mg : Str → Option Value} {base : Heap} {CS : Addr}
theorem d_init {f : Addr} {fd : FuncData} (hm : mg "Shape" = some (.ref CS)) (M : Mk K CS f) (F : Fun K "__init__" "Shape.__init__" s_init f fd) (bd : Binds K fd ["self", "cells"] []) (c : Cls K CS) (n : NoAttr K CS "_cells") (T : Txt mg) (D_check_cells : DOk P w K mg base "check_cells" s_check_cells 5 P_check_cells S_check_cells) (D_from_zero : DOk P w K mg base "from_zero" s_from_zero 1 P_from_zero S_from_zero) :
    DO.MkOk P w K mg base "Shape" CS 6 ["self", "cells"] (spMk K CS ["_cells"] S_ini) := by
  have SC := sc_init
  refine mkok (k := 5) hm M F bd sc_init (fun vs H Q E h => ?_) (fun cdv A outer s H vs Q E hr hg h => ?_)
  · obtain ⟨x, dx, ws, F0, ds, Pd, rfl, _, _, ra, s, _⟩ := h
    unfold S_ini at s
    split at s
    · have := ra.len
      simp at this
      simp [this]
    · exact s.elim
  · obtain ⟨x, dx, ws, F0, ds, Pd, rfl, hx, e, ra, z, fin⟩ := h
    refine ⟨_, pss_cons (ps_expr (pe_callD D_check_cells.d (hr.mono (by decide)) hg (pa_cons (pv 1) pa_nil))) (pss_one (ps_fld (pv 0) (pe_callD D_from_zero.d (hr.mono (by decide)) hg (pa_cons (pv 1) pa_nil)) rfl)), ?_⟩
    unfold S_ini at z
    split at z
    · obtain ⟨L, rfl, ne, ok, z⟩ := z
      have l0 : 0 < L.length := List.length_pos_iff.mpr ne
      refine init2 (N := N_init) (Pd := fun y => ∃ L', zeroed L L' ∧ y = .t (L'.map pt)) c n (e_call (S := S_check_cells) (a_cons (e_var (k := 1)) a_nil)) (e_call (S := S_from_zero) (a_cons (e_var (k := 1)) a_nil)) hx e ra (by show 2 ≤ 2; decide) ?_ (fun F' H' v y hy e1 rv => ?_)
      · refine ⟨L, rfl, ne, ok, L, .inl rfl, l0, by have := ok.2.2; omega, fun l t L' h1 h2 h3 h4 pm pw => ⟨L', ⟨-l, -t, pm, pw, fun p hp => ?_, ?_, ?_⟩, rfl⟩⟩
        · obtain ⟨q, hq, rfl⟩ := List.mem_map.mp (pm.mem_iff.mp hp)
          have := h2 q hq
          have := h4 q hq
          exact ⟨by show 0 ≤ q.1 + -l; omega, by show 0 ≤ q.2 + -t; omega⟩
        · obtain ⟨p, hp, e⟩ := h1
          exact ⟨_, pm.mem_iff.mpr (List.mem_map_of_mem hp), by show p.1 + -l = 0; omega⟩
        · obtain ⟨p, hp, e⟩ := h3
          exact ⟨_, pm.mem_iff.mpr (List.mem_map_of_mem hp), by show p.2 + -t = 0; omega⟩
      · obtain ⟨L', hz, rfl⟩ := hy
        exact fin F' H' [v] [.t (L'.map pt)] (z L' hz) e1 (.cons rv .nil) rfl
    · exact z.elim
def S_m_wide (CS : Addr) : List D → (D → Prop) → Prop := fun ds Q => match ds with
  | [d] => ∃ (L : List Pr) (w : Int), d = shp CS L ∧ L.length ≤ 1000 ∧ (∃ p ∈ L, p.1 + 1 = w) ∧ (∀ p ∈ L, p.1 < w) ∧ Q (.i w)
  | _ => False
theorem len_m_wide {CS : Addr} : ∀ ds P, S_m_wide CS ds P → ds.length = P_m_wide.length := fun ds P h => by
  unfold S_m_wide at h
  split at h <;> first | rfl | exact h.elim
theorem d_m_wide {g : Addr} {fd : FuncData} (F : Fun K "wide" "Shape.wide" s_m_wide g fd) (bd : Binds K fd ["self"] []) (T : Txt mg) (cC : Cls K CS) (nC : NoAttr K CS "_cells") : DO.ClsFn P w K mg base 1 g ["self"] (S_m_wide CS) := by
  have SC := sc_m_wide
  refine DO.mok (k := 0) F bd sc_m_wide (len_m_wide) (body := fun cdv A outer s H E hr hg => ⟨_, _, (pss_one (ps_ret (pe_op op_add (pe_callB (DO.kx_maxL K rfl) (by rfl) T.z_max (by decide +kernel) (pa_cons (pe_lc (own := [("x", 1), ("y", 2)]) (g := (gTup K 2 (gCons (gName 1) (gCons (gName 2) gNil)))) (tt := tYes) (by rfl) SC.nd (kx_piTup K (DO.pe_fldK K (pv 0))) (blkOk_by (own := [("x", 1), ("y", 2)]) (N := N_m_wide) (sc := defScope s_m_wide) (by decide +kernel)) (fun _ _ _ _ _ => (kx_pgTup (n := 2) K rfl (pgs_cons (pg_name (i := 1) SC.nd rfl (Or.inl rfl)) (pgs_cons (pg_name (i := 2) SC.nd rfl (Or.inl rfl)) pgs_nil)) (by rfl))) (fun _ _ _ _ _ => pts_nil) (fun _ _ _ _ _ => (pv 1))) pa_nil)) pe_int))), (s_ret (e_op o_add (e_cb DO.c_maxL (a_cons (e_f (f_lc (i_tup (DO.e_fld1 cC nC e_var)) (g_tup (gs_cons g_name (gs_cons g_name gs_nil))) t_yes e_var)) a_nil)) e_int)), ?_⟩)
  clear hr hg
  intro ds Q h
  unfold S_m_wide at h
  split at h
  · obtain ⟨L, w, rfl, l1, ex, al, h⟩ := h
    rw [show startG N_m_wide.length [shp CS L] = [.d (shp CS L), .u, .u] from rfl]
    have sz : (L.map pt).length ≤ 100000 := by rw [List.length_map]; omega
    have l0 : 0 < L.length := by
      obtain ⟨p, hp, _⟩ := ex
      exact List.length_pos_of_mem hp
    refine ⟨_, rfl, sz, fun _ => true, fun k d => d = .i (L.getD k (0, 0)).1, fun k x hx => ?_, fun ys hs => ?_⟩
    · obtain ⟨hk, rfl⟩ := getpt hx
      exact ⟨rfl, rfl, fun _ => rfl⟩
    have e1 := selmap (f := fun p => .i p.1) hs (by rw [List.length_map])
    subst e1
    refine ⟨L.map (·.1), by rw [List.map_map]; rfl, by rw [List.length_map]; exact l0, fun m hm hmax => ?_⟩
    obtain ⟨p, hp, ep⟩ := ex
    obtain ⟨q, hq, eq⟩ := List.mem_map.mp hm
    have h1 := hmax _ (List.mem_map_of_mem (f := (·.1)) hp)
    have h2 := al q hq
    have e2 : m + 1 = w := by
      omega
    show Q (.i (m + 1))
    rw [e2]
    exact h
  · exact h.elim
def S_m_high (CS : Addr) : List D → (D → Prop) → Prop := fun ds Q => match ds with
  | [d] => ∃ (L : List Pr) (h : Int), d = shp CS L ∧ L.length ≤ 1000 ∧ (∃ p ∈ L, p.2 + 1 = h) ∧ (∀ p ∈ L, p.2 < h) ∧ Q (.i h)
  | _ => False
theorem len_m_high {CS : Addr} : ∀ ds P, S_m_high CS ds P → ds.length = P_m_high.length := fun ds P h => by
  unfold S_m_high at h
  split at h <;> first | rfl | exact h.elim
theorem d_m_high {g : Addr} {fd : FuncData} (F : Fun K "high" "Shape.high" s_m_high g fd) (bd : Binds K fd ["self"] []) (T : Txt mg) (cC : Cls K CS) (nC : NoAttr K CS "_cells") : DO.ClsFn P w K mg base 1 g ["self"] (S_m_high CS) := by
  have SC := sc_m_high
  refine DO.mok (k := 0) F bd sc_m_high (len_m_high) (body := fun cdv A outer s H E hr hg => ⟨_, _, (pss_one (ps_ret (pe_op op_add (pe_callB (DO.kx_maxL K rfl) (by rfl) T.z_max (by decide +kernel) (pa_cons (pe_lc (own := [("x", 2), ("y", 1)]) (g := (gTup K 2 (gCons (gName 2) (gCons (gName 1) gNil)))) (tt := tYes) (by rfl) SC.nd (kx_piTup K (DO.pe_fldK K (pv 0))) (blkOk_by (own := [("x", 2), ("y", 1)]) (N := N_m_high) (sc := defScope s_m_high) (by decide +kernel)) (fun _ _ _ _ _ => (kx_pgTup (n := 2) K rfl (pgs_cons (pg_name (i := 2) SC.nd rfl (Or.inl rfl)) (pgs_cons (pg_name (i := 1) SC.nd rfl (Or.inl rfl)) pgs_nil)) (by rfl))) (fun _ _ _ _ _ => pts_nil) (fun _ _ _ _ _ => (pv 1))) pa_nil)) pe_int))), (s_ret (e_op o_add (e_cb DO.c_maxL (a_cons (e_f (f_lc (i_tup (DO.e_fld1 cC nC e_var)) (g_tup (gs_cons g_name (gs_cons g_name gs_nil))) t_yes e_var)) a_nil)) e_int)), ?_⟩)
  clear hr hg
  intro ds Q h
  unfold S_m_high at h
  split at h
  · obtain ⟨L, w, rfl, l1, ex, al, h⟩ := h
    rw [show startG N_m_high.length [shp CS L] = [.d (shp CS L), .u, .u] from rfl]
    have sz : (L.map pt).length ≤ 100000 := by rw [List.length_map]; omega
    have l0 : 0 < L.length := by
      obtain ⟨p, hp, _⟩ := ex
      exact List.length_pos_of_mem hp
    refine ⟨_, rfl, sz, fun _ => true, fun k d => d = .i (L.getD k (0, 0)).2, fun k x hx => ?_, fun ys hs => ?_⟩
    · obtain ⟨hk, rfl⟩ := getpt hx
      exact ⟨rfl, rfl, fun _ => rfl⟩
    have e1 := selmap (f := fun p => .i p.2) hs (by rw [List.length_map])
    subst e1
    refine ⟨L.map (·.2), by rw [List.map_map]; rfl, by rw [List.length_map]; exact l0, fun m hm hmax => ?_⟩
    obtain ⟨p, hp, ep⟩ := ex
    obtain ⟨q, hq, eq⟩ := List.mem_map.mp hm
    have h1 := hmax _ (List.mem_map_of_mem (f := (·.2)) hp)
    have h2 := al q hq
    have e2 : m + 1 = w := by
      omega
    show Q (.i (m + 1))
    rw [e2]
    exact h
  · exact h.elim
def S_m_str (CS : Addr) : List D → (D → Prop) → Prop := fun ds Q => match ds with
  | [d] => ∃ (L : List Pr) (w h : Nat), d = shp CS L ∧ Grid L w h ∧ L.length ≤ 1000 ∧ Q (.s (pageOf L w h))
  | _ => False
theorem len_m_str {CS : Addr} : ∀ ds P, S_m_str CS ds P → ds.length = P_m_str.length := fun ds P h => by
  unfold S_m_str at h
  split at h <;> first | rfl | exact h.elim
theorem d_m_str {g : Addr} {fd : FuncData} (F : Fun K "__str__" "Shape.__str__" s_m_str g fd) (bd : Binds K fd ["self"] []) (T : Txt mg) (cC : Cls K CS) (nC : NoAttr K CS "_cells") (PG_high : DO.PropG P w K mg base CS "high" 1 (S_m_high CS)) (PG_wide : DO.PropG P w K mg base CS "wide" 1 (S_m_wide CS)) : DO.ClsFn P w K mg base 3 g ["self"] (S_m_str CS) := by
  have SC := sc_m_str
  refine DO.mok (k := 2) F bd sc_m_str (len_m_str) (body := fun cdv A outer s H E hr hg => ⟨_, _, (pss_cons (ps_set (i := 1) SC.nd rfl (Or.inr rfl) (pe_op DO.op_mul_str pe_str (DO.pe_propG PG_wide (hr.mono (by decide)) hg (pv 0) (by rfl)))) (pss_cons (ps_setLc (i := 2) (own := [("_", 3)]) (g := (gName 3)) (tt := tYes) (by rfl) SC.nd rfl rfl (sw_true rfl rfl rfl (by decide +kernel)) (pi_range1 (by rfl) T.z_range (pa_cons (DO.pe_propG PG_high (hr.mono (by decide)) hg (pv 0) (by rfl)) pa_nil)) (blkOk_by (own := [("_", 3)]) (N := N_m_str) (sc := defScope s_m_str) (by decide +kernel)) (fun _ _ _ _ _ => (pg_name (i := 3) SC.nd rfl (Or.inl rfl))) (fun _ _ _ _ _ => pts_nil) (fun _ _ _ _ _ => (pv 1))) (pss_cons (ps_for PassesOwn.never rfl (kx_piTup K (DO.pe_fldK K (pv 0))) (kx_pgTup (n := 2) K rfl (pgs_cons (pg_name (i := 4) SC.nd rfl (Or.inl rfl)) (pgs_cons (pg_name (i := 5) SC.nd rfl (Or.inl rfl)) pgs_nil)) (by rfl)) (pss_one (ps_asg (pe_op op_add_str (pe_op op_add_str (pe_slice sl_str (pe_ix (kx_ixL K) (pv 2) (pv 5) (fun _ _ => rfl)) po_none (po_some (pv 4))) pe_str) (pe_slice sl_str (pe_ix (kx_ixL K) (pv 2) (pv 5) (fun _ _ => rfl)) (po_some (pe_op op_add (pv 4) pe_int)) po_none)) (pg_sub (pv 2) (pv 5) set_list)))) (pss_one (ps_ret (DO.kx_join K pe_str (pv 2))))))), (s_seq (s_asg (e_op DO.o_mulS e_str (DO.e_propG e_var)) g_name) (s_seq (s_asgO (f_lc (i_rng1 (a_cons (DO.e_propG e_var) a_nil)) g_name t_yes e_var)) (s_seq (s_for (i_tup (DO.e_fld1 cC nC e_var)) (g_tup (gs_cons g_name (gs_cons g_name gs_nil))) (s_setO e_var (e_op DO.o_addS (e_op DO.o_addS (DO.e_slS (e_ixO (k := 2) e_var) p_none (p_some e_var)) e_str) (DO.e_slS (e_ixO (k := 2) e_var) (p_some (e_op o_add e_var e_int)) p_none)))) (s_frz (k := 2) (s_ret (DO.e_join e_str e_var)))))), ?_⟩)
  clear hr hg
  intro ds Q h
  unfold S_m_str at h
  split at h
  · obtain ⟨L, w, h', rfl, g, l1, h⟩ := h
    rw [show startG N_m_str.length [shp CS L] = [.d (shp CS L), .u, .u, .u, .u, .u] from rfl]
    have dot : (Str.ofString "." : Str) = ⟨#[46]⟩ := by decide +kernel
    have hash : (Str.ofString "#" : Str) = ⟨#[35]⟩ := by decide +kernel
    have nl : (Str.ofString "\n" : Str) = ⟨#[10]⟩ := by decide +kernel
    rw [dot, hash, nl]
    have w0 : 1 ≤ w := by
      obtain ⟨p, hp, e⟩ := g.right
      have := g.ins p hp
      omega
    have ww := g.w100
    have hh := g.h100
    refine ⟨⟨_, _, rfl⟩, L, w, rfl, l1, g.right, fun p hp => (g.ins p hp).2.1, 46, w, rfl, rfl, w0, by omega, ?_⟩
    dsimp only [wgName, put]
    refine ⟨⟨_, _, rfl⟩, L, h', rfl, l1, g.low, fun p hp => (g.ins p hp).2.2.2, ⟨by omega, by omega⟩, by rw [rngD_len]; omega, fun _ => true, fun k d => d = .s ⟨(List.replicate w 46).toArray⟩, fun k x hx => ⟨rfl, fun _ => rfl⟩, fun ys hs => ?_⟩
    have ey : ys = (rowsS [] w h').map D.s := by
      rw [hs.map, rngD_len, rows_nil, List.map_replicate]
      refine List.eq_replicate_iff.mpr ⟨by simp, fun b hb => ?_⟩
      obtain ⟨_, _, rfl⟩ := List.mem_map.mp hb
      rfl
    subst ey
    dsimp only [wgName, put]
    refine ⟨_, rfl, fun k Γ => ∃ a4 a5, Γ = [.d (shp CS L), .d (.s ⟨(List.replicate w 46).toArray⟩), .ol ((rowsS (L.take k) w h').map D.s), .u, a4, a5], ⟨_, _, rfl⟩, ?_, ?_⟩
    · rintro k x Γ' hx ⟨a4, a5, rfl⟩
      obtain ⟨hk, rfl⟩ := getpt hx
      have mem : L.getD k (0, 0) ∈ L := getD_mem hk
      obtain ⟨i1, i2, i3, i4⟩ := g.ins _ mem
      obtain ⟨x, ex⟩ := Int.eq_ofNat_of_zero_le i1
      obtain ⟨y, ey⟩ := Int.eq_ofNat_of_zero_le i3
      have hp : L.getD k (0, 0) = ((x : Int), (y : Int)) := Prod.ext ex ey
      have hxw : x < w := by omega
      have hyh : y < h' := by omega
      have tk : L.take (k + 1) = L.take k ++ [((x : Int), (y : Int))] := by
        rw [← hp, List.take_succ_eq_append_getElem hk, List.getD_eq_getElem?_getD, List.getElem?_eq_getElem hk]
        rfl
      rw [hp]
      have gy : ((rowsS (L.take k) w h').map D.s)[y]? = some (.s (rowS (L.take k) w y)) := by
        rw [List.getElem?_map]
        unfold rowsS
        rw [List.getElem?_map, List.getElem?_range hyh]
        rfl
      have at' := L2.atI_nat gy
      have rl : (rowS (L.take k) w y).length = w := rowS_len
      have c1 : cutS (rowS (L.take k) w y) none (some ((x : Nat) : Int)) = ⟨((rowL (L.take k) w y).take x).toArray⟩ := by
        unfold cutS
        rw [HT.sIx_none, HT.sIx_nat, rl, Nat.min_eq_left (by omega), List.drop_zero, Nat.sub_zero]
        rfl
      have c2 : cutS (rowS (L.take k) w y) (some ((x : Int) + 1)) none = ⟨((rowL (L.take k) w y).drop (x + 1)).toArray⟩ := by
        unfold cutS
        rw [show ((x : Int) + 1) = ((x + 1 : Nat) : Int) by omega, HT.sIx_none, HT.sIx_nat, rl, Nat.min_eq_left (by omega), List.take_of_length_le (by rw [List.length_drop]; show (rowL (L.take k) w y).length - (x + 1) ≤ _; rw [rowL_len]; omega)]
        rfl
      have l1' : (cutS (rowS (L.take k) w y) none (some ((x : Nat) : Int))).length ≤ w := by
        have := cutS_length (rowS (L.take k) w y) none (some ((x : Nat) : Int))
        omega
      have l2' : (cutS (rowS (L.take k) w y) (some ((x : Int) + 1)) none).length ≤ w := by
        have := cutS_length (rowS (L.take k) w y) (some ((x : Int) + 1)) none
        omega
      have whole : (cutS (rowS (L.take k) w y) none (some ((x : Nat) : Int)) ++ (⟨#[35]⟩ : Str)) ++ cutS (rowS (L.take k) w y) (some ((x : Int) + 1)) none = rowS (L.take k ++ [((x : Int), (y : Int))]) w y := by
        rw [c1, c2]
        apply StrM.str_ext
        rw [RepM.str_app, RepM.str_app]
        show (((rowL (L.take k) w y).take x) ++ [35]) ++ ((rowL (L.take k) w y).drop (x + 1)) = rowL (L.take k ++ [((x : Int), (y : Int))]) w y
        rw [← row_set hxw, List.append_assoc]
        rfl
      dsimp only [wgName, put]
      refine ⟨rfl, ?_⟩
      dsimp only [wgName, put]
      refine ⟨_, at', by rw [rl]; omega, _, _, rfl, rfl, by show _ + 1 ≤ 1000000; omega, _, at', by rw [rl]; omega, _, _, rfl, rfl, ?_, ?_⟩
      · have : (cutS (rowS (L.take k) w y) none (some ((x : Nat) : Int)) ++ (⟨#[35]⟩ : Str)).length = (cutS (rowS (L.take k) w y) none (some ((x : Nat) : Int))).length + 1 := strLen_append _ _
        omega
      · refine ⟨y, ixN_nat (by rw [List.length_map, rows_len]; exact hyh), .d (.i x), .d (.i y), ?_⟩
        rw [whole, tk, ← rows_set hxw hyh, List.map_set]
        rfl
    · rintro Γ' ⟨a4, a5, rfl⟩
      rw [List.length_map, List.take_length]
      refine ⟨_, rfl, ?_, h⟩
      rw [rows_sum, rows_len]
      have := Nat.mul_le_mul hh ww
      show h' * w + h' * 1 ≤ _
      omega
  · exact h.elim
def S_shape_from (CS : Addr) : List D → (D → Prop) → Prop := fun ds Q => match ds with
  | [.l xs] => ∃ L : List Pr, xs = L.map pt ∧ 0 < L.length ∧ L.length ≤ 1000 ∧ ∀ L', zeroed L L' → Q (shp CS L')
  | _ => False
theorem len_shape_from {CS : Addr} : ∀ ds P, S_shape_from CS ds P → ds.length = P_shape_from.length := fun ds P h => by
  unfold S_shape_from at h
  split at h <;> first | rfl | exact h.elim
theorem d_shape_from (Df : DefIn K mg "shape_from" s_shape_from P_shape_from) (T : Txt mg) (cC : Cls K CS) (nC : NoAttr K CS "_cells") (MK_Shape : DO.MkOk P w K mg base "Shape" CS 6 ["self", "cells"] (DO.spMk K CS ["_cells"] S_ini)) (D_from_zero : DOk P w K mg base "from_zero" s_from_zero 1 P_from_zero S_from_zero) : DOk P w K mg base "shape_from" s_shape_from 8 P_shape_from (S_shape_from CS) := by
  have SC := sc_shape_from
  refine dok (k := 7) Df sc_shape_from (len_shape_from) (body := fun f cdv A outer s H E hr hg => ⟨_, _, (pss_cons (ps_set (i := 1) SC.nd rfl (Or.inl rfl) (DO.pe_mkG MK_Shape (hr.mono (by decide)) hg (pa_cons (pe_tup (pa_cons (pe_tup (pa_cons pe_int (pa_cons pe_int pa_nil))) pa_nil)) pa_nil))) (pss_cons (DO.ps_fldK K (pv 1) (pe_callD D_from_zero.d (hr.mono (by decide)) hg (pa_cons (pv 0) pa_nil))) (pss_one (ps_ret (pv 1))))), (DO.s_from cC nC (a_cons (e_tup (a_cons (e_tup (a_cons e_int (a_cons e_int a_nil))) a_nil)) a_nil) (e_call (a_cons e_var a_nil))), ?_⟩)
  clear hr hg
  intro ds Q h
  unfold S_shape_from at h
  split at h
  · obtain ⟨L, rfl, l0, l1, h⟩ := h
    refine ⟨by show 2 ≤ 100000; decide, by show 1 ≤ 100000; decide, [(0, 0)], rfl, by simp, ⟨by simp, fun p hp => by rw [List.mem_singleton.mp hp]; unfold Place; decide, by decide⟩, fun L0 _ => ⟨by show 1 < 2; decide, L, .inr rfl, l0, l1, fun l t L' h1 h2 h3 h4 pm pw => h L' ⟨-l, -t, pm, pw, fun p hp => ?_, ?_, ?_⟩⟩⟩
    · obtain ⟨q, hq, rfl⟩ := List.mem_map.mp (pm.mem_iff.mp hp)
      have := h2 q hq
      have := h4 q hq
      exact ⟨by show 0 ≤ q.1 + -l; omega, by show 0 ≤ q.2 + -t; omega⟩
    · obtain ⟨p, hp, e⟩ := h1
      exact ⟨_, pm.mem_iff.mpr (List.mem_map_of_mem hp), by show p.1 + -l = 0; omega⟩
    · obtain ⟨p, hp, e⟩ := h3
      exact ⟨_, pm.mem_iff.mpr (List.mem_map_of_mem hp), by show p.2 + -t = 0; omega⟩
  · exact h.elim
def S_marked_cells : List D → (D → Prop) → Prop := fun ds Q => match ds with
  | [.s z] => ∃ (L : List Pr) (w h : Nat), z = pageOf L w h ∧ Grid L w h ∧ Q (.l ((marks L w h).map pt))
  | _ => False
theorem len_marked_cells : ∀ ds P, S_marked_cells ds P → ds.length = P_marked_cells.length := fun ds P h => by
  unfold S_marked_cells at h
  split at h <;> first | rfl | exact h.elim
theorem d_marked_cells (Df : DefIn K mg "marked_cells" s_marked_cells P_marked_cells) (T : Txt mg) : DOk P w K mg base "marked_cells" s_marked_cells 1 P_marked_cells S_marked_cells := by
  have SC := sc_marked_cells
  refine dok (k := 0) Df sc_marked_cells (len_marked_cells) (body := fun f cdv A outer s H E hr hg => ⟨_, _, (pss_cons (ps_setLc (i := 1) (own := [("y", 2), ("line", 3)]) (g := (gTup K 2 (gCons (gName 2) (gCons (gName 3) gNil)))) (by rfl) SC.nd rfl rfl (sw_true rfl rfl rfl (by decide +kernel)) (kx_enum K (by rfl) T.z_enumerate (pa_cons (DO.kx_split (pv 0) pe_str) pa_nil)) (blkOk_by (own := [("y", 2), ("line", 3)]) (N := N_marked_cells) (sc := defScope s_marked_cells) (by decide +kernel)) (fun _ _ _ _ _ => (kx_pgTup (n := 2) K rfl (pgs_cons (pg_name (i := 2) SC.nd rfl (Or.inl rfl)) (pgs_cons (pg_name (i := 3) SC.nd rfl (Or.inl rfl)) pgs_nil)) (by rfl))) (fun _ _ _ _ _ => (pts_one (pt_cmpR DO.kx_inSign pe_str (pv 3) (by with_unfolding_all rfl)))) (fun _ _ _ _ _ => (pe_tup (pa_cons (pv 2) (pa_cons (pv 3) pa_nil))))) (pss_one (ps_ret (pe_lc2 (own := [("y", 2), ("line", 3), ("x", 4), ("sign", 5)]) (vs1 := [4, 5]) (g := (gTup K 2 (gCons (gName 2) (gCons (gName 3) gNil)))) (tt := tYes) (g1 := (gTup K 2 (gCons (gName 4) (gCons (gName 5) gNil)))) (by rfl) SC.nd (kx_piList K (pv 1)) (blkOk_by (own := [("y", 2), ("line", 3), ("x", 4), ("sign", 5)]) (N := N_marked_cells) (sc := defScope s_marked_cells) (by decide +kernel)) (by decide) (fun _ _ _ _ _ => (kx_pgTup (n := 2) K rfl (pgs_cons (pg_name (i := 2) SC.nd rfl (Or.inl rfl)) (pgs_cons (pg_name (i := 3) SC.nd rfl (Or.inl rfl)) pgs_nil)) (by rfl))) (fun _ _ _ _ _ => pts_nil) (fun _ _ _ _ _ => (TStr.pi_enumS (by rfl) T.z_enumerate (pa_cons (pv 3) pa_nil))) (fun _ _ _ _ _ => (kx_pgTup (n := 2) K rfl (pgs_cons (pg_name (i := 4) SC.nd rfl (Or.inl rfl)) (pgs_cons (pg_name (i := 5) SC.nd rfl (Or.inl rfl)) pgs_nil)) (by rfl))) (fun _ _ _ _ _ => (pts_one (pt_cmpR op_eq (pv 5) pe_str (nomark _)))) (fun _ _ _ _ _ => (pe_tup (pa_cons (pv 4) (pa_cons (pv 2) pa_nil)))))))), (s_seq (s_asg (e_f (f_lc (i_enum (a_cons (DO.e_split e_var e_str) a_nil)) (g_tup (gs_cons g_name (gs_cons g_name gs_nil))) (t_test (e_op DO.o_inSign e_str e_var)) (e_tup (a_cons e_var (a_cons e_var a_nil))))) g_name) (s_ret (e_f (f_lc2T (i_list e_var) (g_tup (gs_cons g_name (gs_cons g_name gs_nil))) t_yes (i_enumS (a_cons e_var a_nil)) (g_tup (gs_cons g_name (gs_cons g_name gs_nil))) (t_test (e_op o_eqS e_var e_str)) (e_tup (a_cons e_var (a_cons e_var a_nil))))))), ?_⟩)
  clear hr hg
  intro ds Q h
  unfold S_marked_cells at h
  split at h
  · obtain ⟨L, w, h', rfl, g, h⟩ := h
    rw [show startG N_marked_cells.length [.s (pageOf L w h')] = [.d (.s (pageOf L w h')), .u, .u, .u, .u, .u] from rfl]
    have hash : (Str.ofString "#" : Str) = ⟨#[35]⟩ := by decide +kernel
    have nl : (Str.ofString "\n" : Str) = ⟨#[10]⟩ := by decide +kernel
    rw [hash, nl]
    have ww := g.w100
    have hh := g.h100
    have enl : (enumD 0 ((rowsS L w h').map D.s)).length = h' := by rw [enumD_len, List.length_map, rows_len]
    refine ⟨by decide, by have := page_len g; omega, ?_⟩
    rw [split_page g.h0]
    refine ⟨by rw [enl]; omega, fun y => decide (35 ∈ rowL L w (y : Int)), fun y d => d = .t [.i (y : Int), .s (rowS L w (y : Int))], fun k x hx => ?_, fun ys hs => ?_⟩
    · have hk : k < h' := by
        have := (List.getElem?_eq_some_iff.mp hx).1
        omega
      have gk : ((rowsS L w h').map D.s)[k]? = some (.s (rowS L w k)) := by
        rw [List.getElem?_map]
        unfold rowsS
        rw [List.getElem?_map, List.getElem?_range hk]
        rfl
      have e := enumD_get (k := 0) gk
      rw [hx, Nat.zero_add] at e
      cases e
      refine ⟨rfl, ?_⟩
      dsimp only [wgName, put]
      exact ⟨35, _, rfl, rfl, rfl, fun _ => ⟨by show 2 ≤ 100000; decide, rfl⟩⟩
    · have e := hs.filter
      rw [enl] at e
      subst e
      dsimp only [wgName, put]
      have yl : ((List.range h').filter fun (y : Nat) => decide (35 ∈ rowL L w (y : Int))).length ≤ h' := by
        have := List.length_filter_le (fun (y : Nat) => decide (35 ∈ rowL L w (y : Int))) (List.range h')
        rw [List.length_range] at this
        exact this
      have whole : D.l ((marks L w h').map pt) = D.l ((((List.range h').filter fun (y : Nat) => decide (35 ∈ rowL L w (y : Int))).map fun y => (lineM L w y).map pt).flatten) := by
        unfold marks
        rw [List.map_flatMap, List.flatMap_def]
      rw [whole] at h
      generalize (List.range h').filter (fun (y : Nat) => decide (35 ∈ rowL L w (y : Int))) = Ys at yl h
      refine ⟨by rw [List.length_map]; omega, fun _ => true, fun k zs => zs = (lineM L w (Ys.getD k 0)).map pt, fun k x hx => ?_, fun zss hl hz => ?_⟩
      · rw [List.getElem?_map] at hx
        cases q : Ys[k]? with
        | none => rw [q] at hx; cases hx
        | some y =>
          rw [q] at hx
          cases hx
          have gd : Ys.getD k 0 = y := by rw [List.getD_eq_getElem?_getD, q]; rfl
          have sl : (enumD 0 (DL.signs (rowS L w (y : Int)))).length = w := by
            rw [enumD_len]
            unfold DL.signs
            rw [List.length_map]
            exact rowL_len
          refine ⟨rfl, rfl, fun _ => ⟨rfl, ?_⟩⟩
          refine ⟨by rw [sl]; omega, fun j => decide (((j : Int), (y : Int)) ∈ L), fun j d => d = pt ((j : Int), (y : Int)), fun j z hz => ?_, fun zs hs => ?_⟩
          · have hj : j < w := by
              have := (List.getElem?_eq_some_iff.mp hz).1
              omega
            have gj : (DL.signs (rowS L w (y : Int)))[j]? = some (.s ⟨#[if ((j : Int), (y : Int)) ∈ L then 35 else 46]⟩) := by
              unfold DL.signs
              rw [List.getElem?_map]
              show Option.map _ (rowL L w (y : Int))[j]? = _
              rw [rowL_get hj]
              rfl
            have e := enumD_get (k := 0) gj
            rw [hz, Nat.zero_add] at e
            cases e
            refine ⟨rfl, ?_⟩
            dsimp only [wgName, put]
            show decide ((⟨#[if ((j : Int), (y : Int)) ∈ L then 35 else 46]⟩ : Str) = ⟨#[35]⟩) = decide (((j : Int), (y : Int)) ∈ L) ∧ (_ → _)
            by_cases m : ((j : Int), (y : Int)) ∈ L
            · rw [if_pos m, decide_eq_true m]
              exact ⟨rfl, fun _ => ⟨by show 2 ≤ 100000; decide, rfl⟩⟩
            · rw [if_neg m, decide_eq_false m]
              exact ⟨rfl, fun z => nomatch z⟩
          · have e := hs.filter
            rw [sl] at e
            show zs = List.map pt (lineM L w (Ys.getD k 0))
            rw [gd, e]
            unfold lineM
            rw [List.map_map]
            rfl
      · have e : zss = Ys.map fun y => (lineM L w y).map pt := by
          rw [List.length_map] at hl
          refine List.ext_getElem? fun k => ?_
          rw [List.getElem?_map]
          cases q : zss[k]? with
          | none =>
            have := List.getElem?_eq_none_iff.mp q
            rw [List.getElem?_eq_none (by omega)]
            rfl
          | some zs =>
            have hk := (List.getElem?_eq_some_iff.mp q).1
            have z := hz k zs q
            rw [if_pos rfl] at z
            rw [z, List.getD_eq_getElem?_getD, List.getElem?_eq_getElem (by omega)]
            rfl
        rw [e]
        exact h
  · exact h.elim
/-- cells as a shape tells them -/
structure Norm (L : List Pr) : Prop where
  pw : L.Pairwise lexle
  zx : ∃ p ∈ L, p.1 = 0
  zy : ∃ p ∈ L, p.2 = 0
theorem norm_eq {M L L' : List Pr} {w h : Nat} (g : Grid L w h) (n : Norm L) (pm : M.Perm L) (z : zeroed M L') : L' = L := by
  obtain ⟨a, b, pm2, pw, nn, ⟨q, hq, q0⟩, ⟨r, hr, r0⟩⟩ := z
  have pm3 : L'.Perm (L.map fun p => (p.1 + a, p.2 + b)) := pm2.trans (pm.map _)
  obtain ⟨u, hu, u0⟩ := n.zx
  obtain ⟨v, hv, v0⟩ := n.zy
  have h1 := nn _ (pm3.mem_iff.mpr (List.mem_map_of_mem (f := fun p : Pr => (p.1 + a, p.2 + b)) hu))
  have h2 := nn _ (pm3.mem_iff.mpr (List.mem_map_of_mem (f := fun p : Pr => (p.1 + a, p.2 + b)) hv))
  obtain ⟨q', hq', eq⟩ := List.mem_map.mp (pm3.mem_iff.mp hq)
  obtain ⟨r', hr', er⟩ := List.mem_map.mp (pm3.mem_iff.mp hr)
  have g1 := (g.ins q' hq').1
  have g2 := (g.ins r' hr').2.2.1
  have e1 : q'.1 + a = q.1 := by rw [← eq]
  have e2 : r'.2 + b = r.2 := by rw [← er]
  have f1 : 0 ≤ u.1 + a := h1.1
  have f2 : 0 ≤ v.2 + b := h2.2
  have ha : a = 0 := by omega
  have hb : b = 0 := by omega
  subst ha hb
  have e3 : (L.map fun p : Pr => (p.1 + 0, p.2 + 0)) = L := by
    rw [show (fun p : Pr => (p.1 + 0, p.2 + 0)) = id from by funext p; simp]
    simp
  rw [e3] at pm3
  exact pm3.eq_of_pairwise (fun _ _ _ _ => lexle_anti) pw n.pw
def S_shape_with (CS : Addr) : List D → (D → Prop) → Prop := fun ds Q => match ds with
  | [.s z] => ∃ (L : List Pr) (w h : Nat), z = pageOf L w h ∧ Grid L w h ∧ Norm L ∧ L.length ≤ 24 ∧ Q (shp CS L)
  | _ => False
theorem len_shape_with {CS : Addr} : ∀ ds P, S_shape_with CS ds P → ds.length = P_shape_with.length := fun ds P h => by
  unfold S_shape_with at h
  split at h <;> first | rfl | exact h.elim
theorem d_shape_with (Df : DefIn K mg "shape_with" s_shape_with P_shape_with) (T : Txt mg) (SG_str : DO.SpG P w K mg base CS "__str__" 3 (S_m_str CS)) (D_shape_from : DOk P w K mg base "shape_from" s_shape_from 8 P_shape_from (S_shape_from CS)) (D_marked_cells : DOk P w K mg base "marked_cells" s_marked_cells 1 P_marked_cells S_marked_cells) : DOk P w K mg base "shape_with" s_shape_with 9 P_shape_with (S_shape_with CS) := by
  have SC := sc_shape_with
  refine dok (k := 8) Df sc_shape_with (len_shape_with) (body := fun f cdv A outer s H E hr hg => ⟨_, _, (pss_cons (ps_if (PW.pt (pw_or (pt_not (pt_val (pe_callB (kx_isi K) (by rfl) T.z_isinstance (by decide +kernel) (pa_cons (pv 0) (pa_cons (pe_gty T.z_str PyProof.Rows.Boot.«str») pa_nil))))) (pw_or1 (pt_not (pt_chain op_le op_le pe_int (DO.kx_count (pv 0) pe_str) (pe_gint T.m_MOST_CELLS)))))) (pss_one (ps_ret pe_non)) pss_nil) (pss_cons (ps_set (i := 1) SC.nd rfl (Or.inl rfl) (pe_callD D_shape_from.d (hr.mono (by decide)) hg (pa_cons (pe_callD D_marked_cells.d (hr.mono (by decide)) hg (pa_cons (pv 0) pa_nil)) pa_nil))) (pss_cons (ps_if (pt_cmpR op_ne (pe_callTy (DO.cr_strG SG_str (hr.mono (by decide)) hg) (by rfl) T.z_str (by decide +kernel) (pa_cons (pv 1) pa_nil)) (pv 0) (nomark _)) (pss_one (ps_ret pe_non)) pss_nil) (pss_one (ps_ret (pv 1)))))), (s_seq (s_if (t_or (t_not (t_B (e_isi (fun _ _ => tab_str) e_var))) (t_not (t_test (e_chain o_le o_le e_int (DO.e_count e_var e_str) e_int)))) (s_ret e_non) s_next) (s_seq (s_asg (e_call (a_cons (e_call (a_cons e_var a_nil)) a_nil)) g_name) (s_seq (s_if (t_test (e_op o_neS (DO.e_strO e_var) e_var)) (s_ret e_non) s_next) (s_ret e_var)))), ?_⟩)
  clear hr hg
  intro ds Q h
  unfold S_shape_with at h
  split at h
  · obtain ⟨L, w, h', rfl, g, n, l1, h⟩ := h
    have hash : (Str.ofString "#" : Str) = ⟨#[35]⟩ := by decide +kernel
    rw [hash, show startG N_shape_with.length [.s (pageOf L w h')] = [.d (.s (pageOf L w h')), .u] from rfl]
    have l0 : 0 < L.length := List.length_pos_iff.mpr g.ne
    have cp := count_page g
    have c1 : (1 : Int) ≤ Txt.count (pageOf L w h') ⟨#[35]⟩ := by rw [cp]; omega
    have c2 : Txt.count (pageOf L w h') ⟨#[35]⟩ ≤ (24 : Int) := by rw [cp]; omega
    refine ⟨(fun z => nomatch z), fun _ => ⟨fun z1 => ?_, fun z1 => absurd c1 (of_decide_eq_false z1)⟩⟩
    have last : wSeq (wAsg (wCall (S_shape_from CS) (wCons (wCall S_marked_cells (wCons (wVar 0) wNil)) wNil)) (wgName 1)) (wSeq (wIf (wTest (wOp wNeS (wStrO CS (S_m_str CS) (wVar 1)) (wVar 0))) (wRet (wC D.n)) wNext) (wRet (wVar 1))) { nx := fun x => Q D.n, rt := Q } [.d (.s (pageOf L w h')), .u] := by
      refine ⟨L, w, h', rfl, g, marks L w h', rfl, by rw [(marks_perm g).length_eq]; exact l0, by rw [(marks_perm g).length_eq]; omega, fun L' hz => ?_⟩
      obtain rfl := norm_eq g n (marks_perm g) hz
      dsimp only [wgName, put]
      refine ⟨⟨_, _, rfl⟩, L', w, h', rfl, g, by omega, ⟨_, rfl⟩, ?_⟩
      refine neS_same ⟨(fun z => nomatch z), fun _ => h⟩
    refine ⟨fun z => ?_, fun _ => last⟩
    rw [show decide (Txt.count (pageOf L w h') ⟨#[35]⟩ ≤ (24 : Int)) = true from decide_eq_true c2] at z
    cases z
  · exact h.elim
end
end K74
namespace K74
open PySem PySem.Spec PyProof.Rows L2 Evl Lay ErrX DL TE DO ShM PageM CovM BitP
section
variable {P : Program} {w : World} {K : PySem.W.Frag} {mg : Str → Option Value} {base : Heap} {CS : Addr}
def S_all_free : List D → (D → Prop) → Prop := fun ds Q => match ds with
  | [.i w, .i h] => Fl w h ∧ Q (.i ((bp (w * h).toNat fun _ => true : Nat) : Int))
  | _ => False
theorem len_all_free : ∀ ds P, S_all_free ds P → ds.length = P_all_free.length := fun ds P h => by
  unfold S_all_free at h
  split at h <;> first | rfl | exact h.elim
theorem d_all_free (Df : DefIn K mg "all_free" s_all_free P_all_free) (T : Txt mg) : DOk P w K mg base "all_free" s_all_free 1 P_all_free S_all_free := by
  have SC := sc_all_free
  refine dok (k := 0) Df sc_all_free (len_all_free) (body := fun f cdv A outer s H E hr hg => ⟨_, _, (pss_one (ps_ret (pe_op op_sub (pe_op op_shl pe_int (pe_op op_mul (pv 0) (pv 1))) pe_int))), (s_ret (e_op o_sub (e_op o_shl e_int (e_op o_mul e_var e_var)) e_int)), ?_⟩)
  clear hr hg
  intro ds Q h
  unfold S_all_free at h
  split at h
  · rename_i w h'
    obtain ⟨f, h⟩ := h
    have ⟨w36, h36, p0⟩ := f.le
    obtain ⟨w0, h0, wh⟩ := id f
    refine ⟨.inl ⟨by omega, by omega⟩, ⟨by omega, by omega, by decide⟩, ?_⟩
    show Q (.i (1 * 2 ^ (w * h').toNat - 1))
    rw [bp_all] at h
    have p := Nat.two_pow_pos (w * h').toNat
    have e : (((2 ^ (w * h').toNat : Nat)) : Int) = 2 ^ (w * h').toNat := by push_cast; rfl
    rw [Int.one_mul, ← e, show (((2 ^ (w * h').toNat : Nat)) : Int) - 1 = ((2 ^ (w * h').toNat - 1 : Nat) : Int) by omega]
    exact h
  · exact h.elim
def S_first_of : List D → (D → Prop) → Prop := fun ds Q => match ds with
  | [.i x] => ∃ (n : Nat) (f : Nat → Bool), x = ((bp n f : Nat) : Int) ∧ ¬ noneB n f = true ∧ Q (.i ((fst n f : Nat) : Int))
  | _ => False
theorem len_first_of : ∀ ds P, S_first_of ds P → ds.length = P_first_of.length := fun ds P h => by
  unfold S_first_of at h
  split at h <;> first | rfl | exact h.elim
theorem d_first_of (Df : DefIn K mg "first_of" s_first_of P_first_of) (T : Txt mg) : DOk P w K mg base "first_of" s_first_of 1 P_first_of S_first_of := by
  have SC := sc_first_of
  refine dok (k := 0) Df sc_first_of (len_first_of) (body := fun f cdv A outer s H E hr hg => ⟨_, _, (pss_one (ps_ret (pe_op op_sub (pe_bits (pe_op op_and (pv 0) (pe_un un_neg (pv 0)))) pe_int))), (s_ret (e_op o_sub (e_bits (e_op o_and e_var (e_un u_neg e_var))) e_int)), ?_⟩)
  clear hr hg
  intro ds Q h
  unfold S_first_of at h
  split at h
  · obtain ⟨n, f, rfl, z, h⟩ := h
    obtain ⟨f1, f2, f3⟩ := fst_ok z
    refine ⟨_, rfl, ?_⟩
    show Q (.i (((Builtin.Int.intBits (Builtin.bitAnd ((bp n f : Nat) : Int) (-((bp n f : Nat) : Int))) : Nat) : Int) - 1))
    rw [low f1 f2 f3, bits_pow]
    rw [show (((fst n f + 1 : Nat) : Int) - 1) = ((fst n f : Nat) : Int) by omega]
    exact h
  · exact h.elim
/-- ascending -/
def srt (l : List Nat) : List Nat := l.mergeSort fun a b => decide (a ≤ b)
theorem srt_perm (l : List Nat) : (srt l).Perm l := List.mergeSort_perm l _
theorem srt_asc (l : List Nat) : (srt l).Pairwise (· ≤ ·) := by
  have := List.pairwise_mergeSort (le := fun a b : Nat => decide (a ≤ b)) (fun a b c h1 h2 => by simp at *; omega) (fun a b => by simp; omega) l
  exact this.imp fun {a b} h => by simpa using h
theorem srt_of {l : List Nat} {ns : List Int} (pm : ns.Perm (l.map fun (q : Nat) => (q : Int))) (pw : ns.Pairwise (· ≤ ·)) : ns = (srt l).map fun (q : Nat) => (q : Int) := by
  refine (pm.trans ((srt_perm l).map _).symm).eq_of_pairwise (fun x y _ _ h1 h2 => Int.le_antisymm h1 h2) pw ?_
  rw [List.pairwise_map]
  exact (srt_asc l).imp fun {a b} h => by omega
structure FillOk (n : Nat) (held : Nat → List Nat) (b c : Nat) : Prop where
  n36 : n ≤ 36
  hl : ∀ p q, q ∈ held p → q < n
  ov : ∀ q, (over n held q).length ≤ b
  b1 : 1 ≤ b
  len : ∀ p, (held p).length = c
  c1 : 1 ≤ c
def S_fillN : Nat → Nat → List D → (List D → Prop) → Prop
  | 0, _, _, _ => False
  | i + 1, m, ds, Pd => ∃ (n b c k : Nat) (held : Nat → List Nat) (f : Nat → Bool) (ps : List Nat), k ≤ i ∧ ds = [cpD n held, .i ((bp n f : Nat) : Int), nD ps] ∧ FillOk n held b c ∧ cnt n f < c * (k + 1) ∧ b ^ k ≤ m ∧ ps.length + k ≤ 100 ∧ Pd ((fillS n held k f ps).map fun P => nD (srt P))
theorem lend_bot {P : Program} {w : World} {K : PySem.W.Frag} {mg : Str → Option Value} {base : Heap} {x : Str} {st : Stmt} {k : Nat} {ps : List Str} (D : DefIn K mg x st ps) : DefOk P w K mg base x k ps (spLend K (S_fillN 0)) := by
  obtain ⟨f, fd, F, hm, hb⟩ := D.ex
  exact ⟨f, fd, ⟨fun _ _ _ _ h => by obtain ⟨_, _, _, _, _, _, _, _, _, _, _, _, _, _, _, h, _⟩ := h; exact h.elim, fun _ _ _ _ _ _ _ _ _ _ _ _ _ _ h => by obtain ⟨_, _, _, _, _, _, _, _, _, _, _, _, _, _, _, h, _⟩ := h; exact h.elim⟩, hm, F.kp, hb⟩
theorem fillS_none {n : Nat} {held : Nat → List Nat} {f : Nat → Bool} (z : noneB n f = true) : ∀ k (ps : List Nat), fillS n held k f ps = [ps]
  | 0, ps => by unfold fillS; rw [if_pos z]
  | k + 1, ps => by unfold fillS; rw [if_pos z]
theorem fillS_step {n c : Nat} {held : Nat → List Nat} {f : Nat → Bool} (hl : ∀ p q, q ∈ held p → q < n) (hc : ∀ p, (held p).length = c) (nz : ¬ noneB n f = true) {k : Nat} (cl : cnt n f < c * (k + 1)) (ps : List Nat) :
    fillS n held k f ps = (over n held (fst n f)).flatMap fun p => if (held p).all f then fillS n held (k - 1) (less f (held p)) (ps ++ [p]) else [] := by
  cases k with
  | succ k =>
    conv => lhs; unfold fillS
    rw [if_neg nz]
    rfl
  | zero =>
    unfold fillS
    rw [if_neg nz]
    symm
    rw [List.flatMap_eq_nil_iff]
    intro p hp
    rw [if_neg]
    intro a
    have := cnt_less (over_mem.mp hp).2.1 (hl p) a
    rw [hc] at this
    omega
theorem d_fill (i : Nat) (Df : DefIn K mg "fill" s_fill P_fill) (T : Txt mg) (D_first_of : DOk P w K mg base "first_of" s_first_of 1 P_first_of S_first_of) (D_fill : DefOk P w K mg base "fill" (1 + i) P_fill (spLend K (S_fillN i))) : DefOk P w K mg base "fill" (1 + i + 1) P_fill (spLend K (S_fillN (i + 1))) := by
  have SC := sc_fill
  refine defok (k := 1 + i) Df sc_fill (fun vs H Q E h => ?_) (fun f cdv A outer s H vs Q E hr hg h => ?_)
  · obtain ⟨F, vs0, ds, Dl, ws, zs, m, Pd, rfl, e, ra, fd, hd, raz, sz, ⟨n, b, c, k, held, f, ps, _, rfl, _⟩, fin⟩ := h
    rw [List.length_append, ra.len]
    rfl
  · obtain ⟨F, vs0, ds, Dl, ws, zs, m, Pd, rfl, e, ra, fd, hd, raz, sz, hS, fin⟩ := h
    have key : ∃ v0 v1 v2 d0 d1 d2, vs0 = [v0, v1, v2] ∧ ds = [d0, d1, d2] := by
      obtain ⟨n, b, c, k, held, f, ps, _, rfl, _⟩ := hS
      match vs0, ra with
      | [v0, v1, v2], _ => exact ⟨v0, v1, v2, _, _, _, rfl, rfl⟩
    obtain ⟨v0, v1, v2, d0, d1, d2, rfl, rfl⟩ := key
    have r := (rep_start (N := N_fill) e ra (by show 3 ≤ 6; decide)).drop (k := 3) (o := some (V.ref Dl))
    refine ⟨_, (pss_cons (ps_if (pt_cmpR op_eq (pv 1) pe_int (nomark _)) (pss_cons (ps_expr (pe_bm PySem.F.plainAttrs_list PySem.F.slot_list_append PySem.F.type_list_append mt_append (pv 3) (pa_cons (pe_callB (SrtD.kx_sortI K) (by rfl) T.z_sorted (by decide +kernel) (pa_cons (pv 2) pa_nil)) pa_nil))) (pss_one ps_retN)) pss_nil) (pss_one (ps_for PassesOwn.never rfl (kx_piList K (pe_ix (kx_ixL K) (pv 0) (pe_callD D_first_of.d (hr.mono (by first | decide | omega)) hg (pa_cons (pv 1) pa_nil)) (fun _ _ => rfl))) (kx_pgTup (n := 2) K rfl (pgs_cons (pg_name (i := 4) SC.nd rfl (Or.inl rfl)) (pgs_cons (pg_name (i := 5) SC.nd rfl (Or.inl rfl)) pgs_nil)) (by rfl)) (pss_one (ps_if (pt_cmpR op_eq (pe_op op_and (pv 1) (pv 5)) (pv 5) (nomark _)) (pss_one (ps_expr (pe_callD D_fill (hr.mono (by first | decide | omega)) hg (pa_cons (pv 0) (pa_cons (pe_op op_sub (pv 1) (pv 5)) (pa_cons (pe_lst (StX.pa_star (pv 2) (pa_cons (pv 4) pa_nil))) (pa_cons (pv 3) pa_nil))))))) pss_nil))))), (lend_run (t_test (e_op o_eqS e_var e_int)) (e_cb SrtD.c_sortI (a_cons e_var a_nil)) (i_list (e_op o_ixL e_var (e_call (a_cons e_var a_nil)))) (g_tup (gs_cons g_name (gs_cons g_name gs_nil))) (t_test (e_op o_eqS (e_op o_and e_var e_var) e_var)) e_var (e_op o_sub e_var e_var) (e_f (f_lst (a_star e_var (a_cons e_var a_nil)))) (by decide) r rfl fd hd raz sz ?_ fin)⟩
    clear hr hg
    obtain ⟨n, b, c, k0, held, f, ps, ki, eq, ok, cl, bl, pl, hP⟩ := hS
    simp only [List.cons.injEq, and_true] at eq
    obtain ⟨rfl, rfl, rfl⟩ := eq
    have bp1 : 1 ≤ b ^ k0 := Nat.one_le_pow _ _ (by have := ok.b1; omega)
    refine ⟨⟨rfl, rfl⟩, ?_⟩
    show (decide (((bp n f : Nat) : Int) = 0) = true → _) ∧ (decide (((bp n f : Nat) : Int) = 0) = false → _)
    refine ⟨fun z => ?_, fun z => ?_⟩
    · have z := of_decide_eq_true z
      have nz := none_iff.mpr (bp_zero.mp (show bp n f = 0 by omega))
      refine ⟨by omega, ps.map fun (q : Nat) => (q : Int), by unfold nD; rw [List.map_map]; rfl, fun ns' pm pw => ?_⟩
      rw [srt_of pm pw, List.map_map]
      rw [fillS_none nz] at hP
      exact hP
    · have z := of_decide_eq_false z
      have nz : ¬ noneB n f = true := fun c => z (by rw [bp_zero.mpr (none_iff.mp c)]; rfl)
      have cp := cnt_pos nz
      rw [fillS_step ok.hl ok.len nz cl] at hP
      have pos : ∀ p, (held p).Nodup → (held p).all f = true → ∃ j, k0 = j + 1 := fun p nd al => by
        have := cnt_less nd (ok.hl p) al
        rw [ok.len] at this
        cases k0 with
        | zero => omega
        | succ j => exact ⟨j, rfl⟩
      obtain ⟨f1, f2, f3⟩ := fst_ok nz
      refine ⟨n, f, rfl, nz, ?_⟩
      refine ⟨.l ((over n held (fst n f)).map (ent n held)), L2.atI_nat (by rw [List.getElem?_map, List.getElem?_range f1]; rfl), ?_⟩
      obtain ⟨O, eO⟩ : ∃ O, over n held (fst n f) = O := ⟨_, rfl⟩
      have ol : O.length ≤ b := by rw [← eO]; exact ok.ov _
      have om : ∀ p ∈ O, (held p).Nodup := fun p hp => (over_mem.mp (eO ▸ hp)).2.1
      rw [eO]
      refine ⟨fun Γ => ∃ a4 a5, Γ = [.d (cpD n held), .d (.i ((bp n f : Nat) : Int)), .d (nD ps), .u, a4, a5], fun k => (held (O.getD k 0)).all f, fun k ys => ys = (fillS n held (k0 - 1) (less f (held (O.getD k 0))) (ps ++ [O.getD k 0])).map fun P => nD (srt P), if k0 = 0 then 0 else b ^ (k0 - 1), ⟨_, _, rfl⟩, ?_, ?_, ?_⟩
      · rw [List.length_map]
        cases k0 with
        | zero => rw [if_pos rfl]; omega
        | succ j =>
          rw [if_neg (by omega), Nat.add_sub_cancel]
          have := Nat.mul_le_mul_right (b ^ j) ol
          rw [Nat.pow_succ, Nat.mul_comm (b ^ j)] at bl
          omega
      · rintro k x Γ' hx ⟨a4, a5, rfl⟩
        obtain ⟨hk, rfl, hm⟩ := getG (d0 := 0) hx
        obtain ⟨p, ep⟩ : ∃ p, O.getD k 0 = p := ⟨_, rfl⟩
        rw [ep] at hm ⊢
        have key : decide (Builtin.bitAnd ((bp n f : Nat) : Int) ((bp n fun q => (held p).contains q : Nat) : Int) = ((bp n fun q => (held p).contains q : Nat) : Int)) = (held p).all f := by
          rw [PySem.W.os_band, Bool.eq_iff_iff, decide_eq_true_iff, List.all_eq_true]
          refine Iff.trans ⟨fun h => Int.ofNat.inj h, fun h => by rw [h]⟩ (bp_within.trans ⟨fun h q hq => h q (ok.hl p q hq) (by simpa using hq), fun h q _ hq => h q (by simpa using hq)⟩)
        refine ⟨rfl, ⟨⟨_, _, rfl⟩, rfl⟩, ?_, fun hb => ?_⟩
        · show _ = (held (O.getD k 0)).all f
          rw [ep]
          exact key
        · have hb : (held p).all f = true := key.symm.trans hb
          have ct := cnt_less (om p hm) (ok.hl p) hb
          rw [ok.len p] at ct
          obtain ⟨j, rfl⟩ := pos p (om p hm) hb
          obtain ⟨i, rfl⟩ : ∃ i', i = i' + 1 := by
            cases i with
            | zero => omega
            | succ i => exact ⟨i, rfl⟩
          rw [if_neg (by omega), Nat.add_sub_cancel]
          have sub := bp_sub (n := n) (f := f) (g := fun q => (held p).contains q) fun q _ hq => List.all_eq_true.mp hb q (by simpa using hq)
          refine ⟨ps.map fun (q : Nat) => .i (q : Int), .inl rfl, by rw [List.length_append, List.length_map]; show ps.length + 1 ≤ 100000; omega, n, b, c, j, held, less f (held p), ps ++ [p], by omega, ?_, ok, ?_, Nat.le_refl _, by rw [List.length_append]; show ps.length + 1 + j ≤ 100; omega, by show (_ : List D) = _; rw [ep]⟩
          · have e1 : ((bp n f : Nat) : Int) - ((bp n fun q => (held p).contains q : Nat) : Int) = ((bp n (less f (held p)) : Nat) : Int) := by
              show _ = ((bp n fun q => f q && !(held p).contains q : Nat) : Int)
              omega
            dsimp only
            rw [e1]
            unfold nD
            rw [List.map_append]
            rfl
          · rw [Nat.mul_succ] at cl
            omega
      · intro zss zl zp
        rw [List.length_map] at zl
        have e : zss = O.map fun p => if (held p).all f then (fillS n held (k0 - 1) (less f (held p)) (ps ++ [p])).map fun P => nD (srt P) else [] := by
          refine List.ext_getElem (by rw [List.length_map]; exact zl) fun k h1 h2 => ?_
          have := zp k _ (List.getElem?_eq_getElem h1)
          rw [List.length_map] at h2
          have eg : O.getD k 0 = O[k] := by rw [List.getD_eq_getElem?_getD, List.getElem?_eq_getElem h2]; rfl
          rw [List.getElem_map]
          split at this
          · rename_i a
            have a : (held (O.getD k 0)).all f = true := a
            have this : zss[k] = (fillS n held (k0 - 1) (less f (held (O.getD k 0))) (ps ++ [O.getD k 0])).map fun P => nD (srt P) := this
            rw [eg] at a this
            rw [if_pos a]
            exact this
          · rename_i a
            have a : ¬ (held (O.getD k 0)).all f = true := a
            rw [eg] at a
            rw [if_neg a]
            exact this
        rw [e]
        rw [eO, List.map_flatMap] at hP
        rw [← List.flatMap_def]
        have e2 : (fun p => if (held p).all f = true then (fillS n held (k0 - 1) (less f (held p)) (ps ++ [p])).map fun P => nD (srt P) else []) = fun p => (if (held p).all f = true then fillS n held (k0 - 1) (less f (held p)) (ps ++ [p]) else []).map fun P => nD (srt P) := funext fun p => by
          split <;> rfl
        rw [e2]
        exact hP
theorem fill_at {P : Program} {w : World} {K : PySem.W.Frag} {mg : Str → Option Value} {base : Heap} (i : Nat) (Df : DefIn K mg "fill" s_fill P_fill) (T : Txt mg) (D_first_of : DOk P w K mg base "first_of" s_first_of 1 P_first_of S_first_of) : DefOk P w K mg base "fill" (1 + i) P_fill (spLend K (S_fillN i)) := by
  induction i with
  | zero => exact lend_bot Df
  | succ i ih => exact d_fill i Df T D_first_of ih
theorem held_inj {L : List Pr} {w h : Int} (f : Fl w h) (i p1 p2 : Nat) (l1 : p1 < (w * h).toNat) (l2 : p2 < (w * h).toNat) (hi : i < L.length) (e : (heldI L w h p1)[i]? = (heldI L w h p2)[i]?) : p1 = p2 := by
  obtain ⟨w0, h0, _⟩ := f
  unfold heldI at e
  rw [List.getElem?_map, List.getElem?_map, List.getElem?_eq_getElem hi] at e
  have e := Option.some.inj e
  generalize L[i] = c at e
  dsimp only at e
  have key : ∀ p : Nat, p < (w * h).toNat → 0 ≤ (p : Int) / h ∧ (p : Int) / h < w ∧ 0 ≤ (p : Int) % h ∧ (p : Int) % h < h := fun p hp => by
    refine ⟨Int.ediv_nonneg (by omega) (by omega), Int.ediv_lt_of_lt_mul h0 (by omega), Int.emod_nonneg _ (by omega), Int.emod_lt_of_pos _ h0⟩
  obtain ⟨a1, a2, a3, a4⟩ := key p1 l1
  obtain ⟨b1, b2, b3, b4⟩ := key p2 l2
  have n1 := held_num w0 h0 ((p1 : Int) / h + c.1) ((p1 : Int) % h + c.2)
  have n2 := held_num w0 h0 ((p2 : Int) / h + c.1) ((p2 : Int) % h + c.2)
  have e : ((p1 : Int) / h + c.1) % w * h + ((p1 : Int) % h + c.2) % h = ((p2 : Int) / h + c.1) % w * h + ((p2 : Int) % h + c.2) % h := by omega
  have m0 := Int.emod_nonneg ((p1 : Int) % h + c.2) (show h ≠ 0 by omega)
  have m1 := Int.emod_lt_of_pos ((p1 : Int) % h + c.2) h0
  have m2 := Int.emod_nonneg ((p2 : Int) % h + c.2) (show h ≠ 0 by omega)
  have m3 := Int.emod_lt_of_pos ((p2 : Int) % h + c.2) h0
  have q1 : ((p1 : Int) / h + c.1) % w = ((p2 : Int) / h + c.1) % w := by
    have d1 : (((p1 : Int) / h + c.1) % w * h + ((p1 : Int) % h + c.2) % h) / h = ((p1 : Int) / h + c.1) % w := by
      rw [Int.add_comm, Int.add_mul_ediv_right _ _ (by omega), Int.ediv_eq_zero_of_lt m0 m1, Int.zero_add]
    have d2 : (((p2 : Int) / h + c.1) % w * h + ((p2 : Int) % h + c.2) % h) / h = ((p2 : Int) / h + c.1) % w := by
      rw [Int.add_comm, Int.add_mul_ediv_right _ _ (by omega), Int.ediv_eq_zero_of_lt m2 m3, Int.zero_add]
    rw [← d1, ← d2, e]
  have q2 : ((p1 : Int) % h + c.2) % h = ((p2 : Int) % h + c.2) % h := by
    rw [q1] at e
    omega
  have same : ∀ (a b c m : Int), 0 ≤ a → a < m → 0 ≤ b → b < m → (a + c) % m = (b + c) % m → a = b := fun a b c m ha hb hc hd he => by
    have := Int.emod_eq_emod_iff_emod_sub_eq_zero.mp he
    rw [show a + c - (b + c) = a - b by omega] at this
    obtain ⟨k, hk⟩ := Int.dvd_of_emod_eq_zero this
    have : k = 0 := by
      rcases Int.lt_trichotomy k 0 with z | z | z
      · have := Int.mul_le_mul_of_nonneg_left (show k ≤ -1 by omega) (show 0 ≤ m by omega)
        omega
      · exact z
      · have := Int.mul_le_mul_of_nonneg_left (show 1 ≤ k by omega) (show 0 ≤ m by omega)
        omega
    rw [this] at hk
    omega
  have r1 := same _ _ _ _ a1 a2 b1 b2 q1
  have r2 := same _ _ _ _ a3 a4 b3 b4 q2
  have s1 := Int.mul_ediv_add_emod (p1 : Int) h
  have s2 := Int.mul_ediv_add_emod (p2 : Int) h
  rw [r1, r2] at s1
  omega
theorem fill_ok {L : List Pr} {w h : Int} (f : Fl w h) (l0 : 0 < L.length) : FillOk (w * h).toNat (heldI L w h) L.length L.length := by
  obtain ⟨w0, h0, wh⟩ := id f
  exact ⟨by omega, heldI_lt w0 h0, over_len heldI_len fun i p1 p2 a b c e => held_inj f i p1 p2 a b c e, l0, heldI_len, l0⟩
theorem few_fill : ∀ n : Nat, n ≤ 12 → ∀ c : Nat, c ≤ 24 → 1 ≤ c → c ^ (n / c) ≤ 100 := by decide +kernel
/-- what fill tells of a floor, each ascending -/
def founds (L : List Pr) (w h : Int) : List (List Nat) := (fillS (w * h).toNat (heldI L w h) ((w * h).toNat / L.length) (fun _ => true) []).map srt
def cellD (h : Int) (q : Nat) : D := .t [.i ((q : Int) / h), .i ((q : Int) % h)]
def fillD (h : Int) (P : List Nat) : D := .t (P.map (cellD h))
theorem founds_mem {L : List Pr} {w h : Int} (f : Fl w h) {P : List Nat} (hP : P ∈ founds L w h) : ∃ P0, P.Perm P0 ∧ EC (w * h).toNat (heldI L w h) (fun _ => true) P0 := by
  obtain ⟨w0, h0, _⟩ := id f
  obtain ⟨o, ho, rfl⟩ := List.mem_map.mp hP
  obtain ⟨P0, e, E⟩ := sound (heldI_lt w0 h0) ho
  rw [List.nil_append] at e
  subst e
  exact ⟨o, srt_perm o, E⟩
theorem founds_lt {L : List Pr} {w h : Int} (f : Fl w h) {P : List Nat} (hP : P ∈ founds L w h) : ∀ q ∈ P, q < (w * h).toNat := fun q hq => by
  obtain ⟨P0, pm, E⟩ := founds_mem f hP
  exact E.lt q (pm.mem_iff.mp hq)
theorem founds_plen {L : List Pr} {w h : Int} (f : Fl w h) (l0 : 0 < L.length) {P : List Nat} (hP : P ∈ founds L w h) : P.length * L.length = (w * h).toNat := by
  obtain ⟨P0, pm, E⟩ := founds_mem f hP
  rw [pm.length_eq]
  exact ec_len heldI_len E
theorem founds_len {L : List Pr} {w h : Int} (f : Fl w h) (w12 : w * h ≤ 12) (l0 : 0 < L.length) (l1 : L.length ≤ 24) : (founds L w h).length ≤ 100 := by
  have ok := fill_ok f l0
  unfold founds
  rw [List.length_map]
  exact Nat.le_trans (fill_len ok.ov ok.b1) (few_fill _ (by omega) _ l1 l0)
def S_fillings (CS : Addr) : List D → (D → Prop) → Prop := fun ds Q => match ds with
  | [d, .i w, .i h] => ∃ L : List Pr, d = shp CS L ∧ 0 < L.length ∧ L.length ≤ 24 ∧ Fl w h ∧ w * h ≤ 12 ∧ ∀ G : List (List Nat), G.Perm (founds L w h) → (G.map nD).Pairwise (fun x y => SrtD.ltS (.l .i) y x = false) → Q (.t (G.map (fillD h)))
  | _ => False
theorem len_fillings {CS : Addr} : ∀ ds P, S_fillings CS ds P → ds.length = P_fillings.length := fun ds P h => by
  unfold S_fillings at h
  split at h <;> first | rfl | exact h.elim
theorem d_fillings (Df : DefIn K mg "fillings" s_fillings P_fillings) (T : Txt mg) (D_check_shape : DOk P w K mg base "check_shape" s_check_shape 1 P_check_shape (S_check_shape CS)) (D_check_number : DOk P w K mg base "check_number" s_check_number 3 P_check_number S_check_number) (D_copies_over : DOk P w K mg base "copies_over" s_copies_over 4 P_copies_over (S_copies_over CS)) (D_all_free : DOk P w K mg base "all_free" s_all_free 1 P_all_free S_all_free) (D_fill : DefOk P w K mg base "fill" 14 P_fill (spLend K (S_fillN 13))) : DOk P w K mg base "fillings" s_fillings 15 P_fillings (S_fillings CS) := by
  have SC := sc_fillings
  refine dok (k := 14) Df sc_fillings (len_fillings) (body := fun f cdv A outer s H E hr hg => ⟨_, _, (pss_cons (ps_expr (pe_callD D_check_shape.d (hr.mono (by decide)) hg (pa_cons (pv 0) pa_nil))) (pss_cons (ps_expr (pe_callD D_check_number.d (hr.mono (by decide)) hg (pa_cons (pv 1) (pa_cons pe_int (pa_cons (pe_gint T.m_MOST_ROLLED) pa_nil))))) (pss_cons (ps_expr (pe_callD D_check_number.d (hr.mono (by decide)) hg (pa_cons (pv 2) (pa_cons pe_int (pa_cons (pe_gint T.m_MOST_ROLLED) pa_nil))))) (pss_cons (ps_if (pt_cmpR op_gt (pe_op op_mul (pv 1) (pv 2)) (pe_gint T.m_MOST_ROLLED) (nomark _)) (pss_one ps_never) pss_nil) (pss_cons (ps_set (i := 3) SC.nd rfl (Or.inl rfl) (pe_lst pa_nil)) (pss_cons (ps_expr (pe_callD D_fill (hr.mono (by decide)) hg (pa_cons (pe_callD D_copies_over.d (hr.mono (by decide)) hg (pa_cons (pv 0) (pa_cons (pv 1) (pa_cons (pv 2) pa_nil)))) (pa_cons (pe_callD D_all_free.d (hr.mono (by decide)) hg (pa_cons (pv 1) (pa_cons (pv 2) pa_nil))) (pa_cons (pe_lst pa_nil) (pa_cons (pv 3) pa_nil)))))) (pss_cons (ps_set (i := 4) SC.nd rfl (Or.inr rfl) (pe_lc (own := [("number", 5)]) (g := (gName 5)) (tt := tYes) (by rfl) SC.nd (pi_range1 (by rfl) T.z_range (pa_cons (pe_op op_mul (pv 1) (pv 2)) pa_nil)) (blkOk_by (own := [("number", 5)]) (N := N_fillings) (sc := defScope s_fillings) (by decide +kernel)) (fun _ _ _ _ _ => (pg_name (i := 5) SC.nd rfl (Or.inl rfl))) (fun _ _ _ _ _ => pts_nil) (fun _ _ _ _ _ => (pe_callB call_divmod (by rfl) T.z_divmod (by decide +kernel) (pa_cons (pv 5) (pa_cons (pv 2) pa_nil)))))) (pss_one (ps_ret (pe_callTy (kx_tupleOf K) (by rfl) T.z_tuple (by decide +kernel) (pa_cons (pe_lc (own := [("places", 7)]) (g := (gName 7)) (tt := tYes) (by rfl) SC.nd (kx_piList K (pe_callB (SrtD.kx_sortL K hr.units) (by rfl) T.z_sorted (by decide +kernel) (pa_cons (pv 3) pa_nil))) (blkOk_by (own := [("places", 7)]) (N := N_fillings) (sc := defScope s_fillings) (by decide +kernel)) (fun _ _ _ _ _ => (pg_name (i := 7) SC.nd rfl (Or.inl rfl))) (fun _ _ _ _ _ => pts_nil) (fun _ _ _ _ _ => (pe_callTy (kx_tupleOf K) (by rfl) T.z_tuple (by decide +kernel) (pa_cons (pe_lc (own := [("place", 6)]) (g := (gName 6)) (tt := tYes) (by rfl) SC.nd (kx_piList K (pv 7)) (blkOk_by (own := [("place", 6)]) (by with_unfolding_all rfl)) (fun _ _ _ _ _ => (pg_name (i := 6) SC.nd rfl (Or.inl rfl))) (fun _ _ _ _ _ => pts_nil) (fun _ _ _ _ _ => (pe_ix (kx_ixL K) (pv 4) (pv 6) (fun _ _ => rfl)))) pa_nil)))) pa_nil))))))))))), (s_seq (s_drop (e_call (a_cons e_var a_nil))) (s_seq (s_drop (e_call (a_cons e_var (a_cons e_int (a_cons e_int a_nil))))) (s_seq (s_drop (e_call (a_cons e_var (a_cons e_int (a_cons e_int a_nil))))) (s_seq (s_if (t_test (e_op o_gt (e_op o_mul e_var e_var) e_int)) s_never s_next) (s_seq (s_asgO (f_lst a_nil)) (s_seq (s_lendC (k := 3) (e_call (a_cons e_var (a_cons e_var (a_cons e_var a_nil)))) (e_call (a_cons e_var (a_cons e_var a_nil))) (e_f (f_lst a_nil))) (s_seq (s_asg (e_f (f_lc (i_rng1 (a_cons (e_op o_mul e_var e_var) a_nil)) g_name t_yes (e_cb c_divmod (a_cons e_var (a_cons e_var a_nil))))) g_name) (s_frz (k := 3) (s_ret (e_cb c_tupleOf (a_cons (e_f (f_lc (i_list (e_cb (SrtD.c_sortL (s := .i)) (a_cons e_var a_nil))) g_name t_yes (e_cb c_tupleOf (a_cons (e_f (f_lc (i_list e_var) g_name t_yes (e_op o_ixL e_var e_var))) a_nil)))) a_nil))))))))))), ?_⟩)
  clear hr hg
  intro ds Q h
  unfold S_fillings at h
  split at h
  · rename_i d w h'
    obtain ⟨L, rfl, l0, l1, f, w12, h⟩ := h
    rw [show startG N_fillings.length [shp CS L, .i w, .i h'] = [.d (shp CS L), .d (.i w), .d (.i h'), .u, .u, .u, .u, .u] from rfl]
    have ⟨w36, h36, p0⟩ := f.le
    obtain ⟨w0, h0, wh⟩ := id f
    have cm : CMul w h' := .inl ⟨by omega, by omega⟩
    refine ⟨⟨L, rfl⟩, ⟨by omega, by omega⟩, ⟨by omega, by omega⟩, cm, ⟨fun z => absurd (of_decide_eq_true z) (by omega), fun _ => ?_⟩⟩
    obtain ⟨n, hn⟩ : ∃ n, (w * h').toNat = n := ⟨_, rfl⟩
    refine ⟨by show 0 ≤ 100000; decide, [], rfl, rfl, L, rfl, by omega, f, f, by show 0 ≤ 100000; decide, 100, fun ys => ys = (founds L w h').map nD, by show 0 + 100 ≤ 100000; decide, ?_, ?_⟩
    · refine ⟨n, L.length, L.length, n / L.length, heldI L w h', fun _ => true, [], ?_, by rw [hn]; rfl, hn ▸ fill_ok f l0, ?_, few_fill _ (by omega) _ l1 l0, ?_, ?_⟩
      · have := Nat.div_le_self n L.length
        show n / L.length ≤ 12
        omega
      · rw [cnt_all]
        exact Nat.lt_mul_div_succ n l0
      · have := Nat.div_le_self n L.length
        show 0 + _ ≤ 100
        omega
      · unfold founds
        rw [hn, List.map_map]
        rfl
    · rintro ys rfl ly
      show wSeq _ _ _ [.d (shp CS L), .d (.i w), .d (.i h'), .ol ([] ++ (founds L w h').map nD), .u, .u, .u, .u]
      rw [List.nil_append]
      have lf := founds_len f w12 l0 l1
      refine ⟨cm, ⟨by omega, by omega⟩, by rw [rngD_len]; omega, fun _ => true, fun k d => d = cellD h' k, fun k x hx => ?_, fun ys hs => ?_⟩
      · obtain ⟨hk, rfl⟩ := rngD_get' hx
        rw [Int.zero_add]
        exact ⟨rfl, fun _ => ⟨⟨h0, by omega⟩, rfl⟩⟩
      have e := hs.map
      rw [rngD_len, hn] at e
      subst e
      dsimp only [wgName, put]
      refine ⟨_, rfl, fun d hd => ?_, fun L' pm pw => ?_⟩
      · obtain ⟨P, _, rfl⟩ := List.mem_map.mp hd
        exact ⟨_, rfl, fun x hx => by
          obtain ⟨q, _, rfl⟩ := List.mem_map.mp hx
          exact ⟨_, rfl⟩⟩
      obtain ⟨G, g1, rfl⟩ := DO.perm_lift _ pm
      have gl := g1.length_eq
      refine ⟨by rw [List.length_map]; omega, fun _ => true, fun k d => d = fillD h' (G.getD k []), fun k x hx => ?_, fun ys hs => ?_⟩
      · obtain ⟨hk, rfl, m⟩ := getG (d0 := []) hx
        obtain ⟨P0, eP⟩ : ∃ P0, G.getD k [] = P0 := ⟨_, rfl⟩
        rw [eP] at m ⊢
        have mf := g1.mem_iff.mp m
        have lt := founds_lt f mf
        rw [hn] at lt
        have pl := founds_plen f l0 mf
        have pl2 : P0.length ≤ 12 := by
          have := Nat.le_mul_of_pos_right P0.length l0
          omega
        refine ⟨rfl, fun _ => ⟨by rw [List.length_map]; omega, fun _ => true, fun j d => d = cellD h' (P0.getD j 0), fun j x hx => ?_, fun ys hs => ?_⟩⟩
        · obtain ⟨hj, rfl, m2⟩ := getG (d0 := 0) hx
          have := lt _ m2
          exact ⟨rfl, fun _ => ⟨_, L2.atI_nat (by rw [List.getElem?_map, List.getElem?_range this]; rfl), rfl⟩⟩
        have e := selA (L := P0) (f := cellD h') hs (by rw [List.length_map])
        subst e
        show fillD h' P0 = fillD h' (G.getD k [])
        rw [eP]
      · have e := selA (L := G) (f := fillD h') hs (by rw [List.length_map])
        subst e
        exact h G g1 pw
  · exact h.elim
theorem bools_of {p : Nat → Prop} : ∀ {ys : List D}, (∀ k y, ys[k]? = some y → ∃ b : Bool, y = .b b ∧ (b = true ↔ p k)) → ∃ bs : List Bool, ys = bs.map D.b ∧ ∀ k (b : Bool), bs[k]? = some b → (b = true ↔ p k) := fun {ys} => by
  induction ys generalizing p with
  | nil => exact fun _ => ⟨[], rfl, fun k b hb => by rw [List.getElem?_nil] at hb; cases hb⟩
  | cons y ys ih =>
    intro h
    obtain ⟨b, rfl, hb⟩ := h 0 y rfl
    obtain ⟨bs, rfl, hbs⟩ := ih (p := fun k => p (k + 1)) fun k y hk => h (k + 1) y hk
    refine ⟨b :: bs, rfl, fun k c hc => ?_⟩
    cases k with
    | zero =>
      cases hc
      exact hb
    | succ k => exact hbs k c hc
/-- ints, tuples of them, .. -/
def WdD : Nat → D → Prop
  | 0, w => ∃ n : Int, w = .i n
  | k + 1, w => ∃ ws, w = .t ws ∧ ws.length ≤ 100 ∧ ∀ x ∈ ws, WdD k x
def PV : Nat → D → Prop
  | 0, v => plainD v = true
  | k + 1, v => plainD v = true ∧ ∀ vs, v = .t vs → vs.length ≤ 1000 ∧ ∀ x ∈ vs, PV k x
def S_sameS (k : Nat) : List D → (D → Prop) → Prop := fun ds Q => match ds with
  | [v, w] => WdD k w ∧ PV k v ∧ ∀ b : Bool, (b = true ↔ v = w) → Q (.b b)
  | _ => False
def S_is_sameN : Nat → List D → (D → Prop) → Prop
  | 0 => fun _ _ => False
  | n + 1 => fun ds Q => ∃ k, k ≤ n ∧ S_sameS k ds Q
abbrev S_is_same := S_is_sameN 4
theorem len_is_same (n : Nat) : ∀ ds P, S_is_sameN n ds P → ds.length = P_is_same.length := fun ds P h => by
  cases n with
  | zero => exact h.elim
  | succ n =>
    obtain ⟨k, _, h⟩ := h
    unfold S_sameS at h
    split at h <;> first | rfl | exact h.elim
theorem d_is_same (n : Nat) (Df : DefIn K mg "is_same" s_is_same P_is_same) (T : Txt mg) (D_is_int : DOk P w K mg base "is_int" s_is_int 1 P_is_int S_is_int) (D_is_same : DOk P w K mg base "is_same" s_is_same (1 + n) P_is_same (S_is_sameN n)) : DOk P w K mg base "is_same" s_is_same (1 + n + 1) P_is_same (S_is_sameN (n + 1)) := by
  have SC := sc_is_same
  refine dok (k := 1 + n) Df sc_is_same (len_is_same (n + 1)) (body := fun f cdv A outer s H E hr hg => ⟨_, _, (pss_cons (ps_if (pt_val (pe_callB (kx_isi K) (by rfl) T.z_isinstance (by decide +kernel) (pa_cons (pv 1) (pa_cons (pe_gty T.z_tuple PyProof.Rows.Boot.«tuple») pa_nil)))) (pss_one (ps_ret (pe_and (pe_callB (kx_isi K) (by rfl) T.z_isinstance (by decide +kernel) (pa_cons (pv 0) (pa_cons (pe_gty T.z_tuple PyProof.Rows.Boot.«tuple») pa_nil))) (pe_and (pe_cmpR op_eq (pe_callB (kx_len K) (by rfl) T.z_len (by decide +kernel) (pa_cons (pv 0) pa_nil)) (pe_callB (kx_len K) (by rfl) T.z_len (by decide +kernel) (pa_cons (pv 1) pa_nil)) (nomark _)) (pe_one (pe_callB (kx_all K rfl) (by rfl) T.z_all (by decide +kernel) (pa_cons (pe_lc (own := [("own", 2), ("part", 3)]) (g := (gTup K 2 (gCons (gName 2) (gCons (gName 3) gNil)))) (tt := tYes) (by rfl) SC.nd (DO.kx_zipT K (by rfl) T.z_zip (pa_cons (pv 0) (pa_cons (pv 1) pa_nil))) (blkOk_by (own := [("own", 2), ("part", 3)]) (N := N_is_same) (sc := defScope s_is_same) (by decide +kernel)) (fun _ _ _ _ _ => (kx_pgTup (n := 2) K rfl (pgs_cons (pg_name (i := 2) SC.nd rfl (Or.inl rfl)) (pgs_cons (pg_name (i := 3) SC.nd rfl (Or.inl rfl)) pgs_nil)) (by rfl))) (fun _ _ _ _ _ => pts_nil) (fun _ _ _ _ _ => (pe_callD D_is_same.d (hr.mono (by omega)) hg (pa_cons (pv 2) (pa_cons (pv 3) pa_nil))))) pa_nil))))))) pss_nil) (pss_cons (ps_if (pt_val (pe_callB (kx_isi K) (by rfl) T.z_isinstance (by decide +kernel) (pa_cons (pv 1) (pa_cons (pe_gty T.z_str PyProof.Rows.Boot.«str») pa_nil)))) (pss_one (ps_ret (pe_and (pe_callB (kx_isi K) (by rfl) T.z_isinstance (by decide +kernel) (pa_cons (pv 0) (pa_cons (pe_gty T.z_str PyProof.Rows.Boot.«str») pa_nil))) (pe_one (pe_cmpR op_eq (pv 0) (pv 1) (nomark _)))))) pss_nil) (pss_one (ps_ret (pe_and (pe_callD D_is_int.d (hr.mono (by omega)) hg (pa_cons (pv 0) pa_nil)) (pe_one (pe_cmpR op_eq (pv 0) (pv 1) (nomark _)))))))), (s_seq (s_if (t_B (e_isi (fun _ _ => tab_tuple) e_var)) (s_ret (e_andV (e_isi (fun _ _ => tab_tuple) e_var) (e_andV (e_op o_eqS (e_cb c_len (a_cons e_var a_nil)) (e_cb c_len (a_cons e_var a_nil))) (e_cb c_all (a_cons (e_f (f_lc (DO.i_zipT (a_cons e_var (a_cons e_var a_nil))) (g_tup (gs_cons g_name (gs_cons g_name gs_nil))) t_yes (e_call (a_cons e_var (a_cons e_var a_nil))))) a_nil))))) s_next) (s_seq (s_if (t_B (e_isi (fun _ _ => tab_str) e_var)) (s_ret (e_andV (e_isi (fun _ _ => tab_str) e_var) (e_op o_eqS e_var e_var))) s_next) (s_ret (e_andV (e_call (a_cons e_var a_nil)) (e_op o_eqS e_var e_var))))), ?_⟩)
  clear hr hg
  intro ds Q h
  obtain ⟨k, hk, h⟩ := h
  unfold S_sameS at h
  split at h
  · rename_i v w
    obtain ⟨wd, pv, h⟩ := h
    cases k with
    | zero =>
      obtain ⟨m, rfl⟩ := wd
      rw [show startG N_is_same.length [v, .i m] = [.d v, .d (.i m), .u, .u] from rfl]
      have body : wRet (wAndV (wCall S_is_int (wCons (wVar 0) wNil)) (wOp wEqS (wVar 0) (wVar 1))) { nx := fun x => Q D.n, rt := Q } [.d v, .d (.i m), .u, .u] := by
        show S_is_int [v] _
        refine is_int_of pv ⟨fun z => ?_, fun z => ?_⟩
        · cases v with
          | i a =>
            show Q (.b (decide (a = m)))
            refine h _ ?_
            rw [decide_eq_true_iff]
            constructor
            · rintro rfl
              rfl
            · intro e
              injection e
          | _ => cases z
        · refine h _ ?_
          refine ⟨(fun z => nomatch z), ?_⟩
          rintro rfl
          cases z
      exact ⟨(fun z => nomatch z), fun _ => ⟨(fun z => nomatch z), fun _ => body⟩⟩
    | succ k0 =>
      obtain ⟨n, rfl⟩ : ∃ n1, n = n1 + 1 := by
        cases n with
        | zero => omega
        | succ n => exact ⟨n, rfl⟩
      obtain ⟨ws, rfl, l1, hw⟩ := wd
      obtain ⟨pl, pv⟩ := pv
      rw [show startG N_is_same.length [v, .t ws] = [.d v, .d (.t ws), .u, .u] from rfl]
      have no : (∀ vs, v ≠ .t vs) → Q (.b false) := fun n => h _ ⟨(fun z => nomatch z), fun e => absurd e (n ws)⟩
      refine ⟨fun _ => ?_, fun z => nomatch z⟩
      cases v with
      | t vs =>
        obtain ⟨vl, pvs⟩ := pv vs rfl
        refine ⟨fun _ => ?_, fun z => nomatch z⟩
        show (decide (((vs.length : Nat) : Int) = ((ws.length : Nat) : Int)) = true → _) ∧ (decide (((vs.length : Nat) : Int) = ((ws.length : Nat) : Int)) = false → _)
        refine ⟨fun z => ?_, fun z => ?_⟩
        · have z := of_decide_eq_true z
          have le : vs.length = ws.length := by omega
          have zl : (zipD vs ws).length = vs.length := by rw [zipD_len]; omega
          refine ⟨by rw [zl]; omega, fun _ => true, fun k d => ∃ b : Bool, d = .b b ∧ (b = true ↔ vs[k]? = ws[k]?), fun k x hx => ?_, fun ys hs => ?_⟩
          · have hk : k < vs.length := by
              have := (List.getElem?_eq_some_iff.mp hx).1
              omega
            have g1 : vs[k]? = some vs[k] := List.getElem?_eq_getElem hk
            have g2 : ws[k]? = some ws[k] := List.getElem?_eq_getElem (by omega)
            have e := zipD_get g1 g2
            rw [hx] at e
            cases e
            refine ⟨rfl, rfl, fun _ => ?_⟩
            refine ⟨k0, by omega, hw _ (List.getElem_mem _), pvs _ (List.getElem_mem _), fun b hb => ⟨b, rfl, hb.trans ?_⟩⟩
            rw [g1, g2]
            exact ⟨fun e => by rw [e], fun e => by injection e⟩
          · obtain ⟨yl, ya⟩ := hs.all
            rw [zl] at yl
            have form : ∃ bs : List Bool, ys = bs.map D.b ∧ ∀ (k : Nat) (b : Bool), bs[k]? = some b → (b = true ↔ vs[k]? = ws[k]?) := by
              exact bools_of ya
            obtain ⟨bs, rfl, hb⟩ := form
            rw [List.length_map] at yl
            refine ⟨bs, rfl, h _ ?_⟩
            rw [List.all_eq_true]
            constructor
            · intro a
              congr 1
              refine List.ext_getElem? fun k => ?_
              cases q : bs[k]? with
              | none =>
                have := List.getElem?_eq_none_iff.mp q
                rw [List.getElem?_eq_none (by omega), List.getElem?_eq_none (by omega)]
              | some b => exact (hb k b q).mp (a b (List.mem_of_getElem? q))
            · intro e b m
              injection e with e
              subst e
              obtain ⟨k, hk⟩ := List.getElem?_of_mem m
              exact (hb k b hk).mpr rfl
        · have z := of_decide_eq_false z
          refine h _ ⟨(fun z => nomatch z), fun e => ?_⟩
          injection e with e
          exact absurd (by rw [e]) z
      | o _ _ _ => cases pl
      | j => cases pl
      | p _ => cases pl
      | c _ => cases pl
      | T _ => cases pl
      | _ => exact ⟨(fun z => nomatch z), fun _ => no (fun vs e => by cases e)⟩
  · exact h.elim
/-- all fillings, each once, ascending -/
def IsDue (L : List Pr) (w h : Int) (d : D) : Prop := ∃ G : List (List Nat), G.Perm (founds L w h) ∧ (G.map nD).Pairwise (fun x y => SrtD.ltS (.l .i) y x = false) ∧ d = .t (G.map (fillD h))
theorem due_one {L : List Pr} {w h : Int} {d d' : D} (a : IsDue L w h d) (b : IsDue L w h d') : d = d' := by
  obtain ⟨G, g1, g2, rfl⟩ := a
  obtain ⟨G', h1, h2, rfl⟩ := b
  have e := SrtD.sorted_same (s := .l .i) (fun d hd => by
    obtain ⟨P, _, rfl⟩ := List.mem_map.mp hd
    exact ⟨_, rfl, fun x hx => by
      obtain ⟨q, _, rfl⟩ := List.mem_map.mp hx
      exact ⟨_, rfl⟩⟩) ((g1.trans h1.symm).map nD) g2 h2
  have : G = G' := by
    have inj : ∀ A B : List (List Nat), A.map nD = B.map nD → A = B := fun A => by
      induction A with
      | nil => intro B e; exact (List.map_eq_nil_iff.mp e.symm).symm
      | cons a A ih =>
        intro B e
        cases B with
        | nil => cases e
        | cons b B =>
          rw [List.map_cons, List.map_cons] at e
          injection e with e1 e2
          rw [ih B e2]
          congr 1
          unfold nD at e1
          injection e1 with e1
          clear e2 ih
          induction a generalizing b with
          | nil => exact (List.map_eq_nil_iff.mp e1.symm).symm
          | cons x a iha =>
            cases b with
            | nil => cases e1
            | cons y b =>
              rw [List.map_cons, List.map_cons] at e1
              injection e1 with f1 f2
              injection f1 with f1
              rw [iha b f2, Int.ofNat.inj f1]
    exact inj G G' e
  rw [this]
def S_accepts_rolled (CS : Addr) : List D → (D → Prop) → Prop := fun ds Q => match ds with
  | [d, .t [a, b, m], c] => ∃ L : List Pr, d = shp CS L ∧ 0 < L.length ∧ L.length ≤ 24 ∧ plainD a = true ∧ plainD b = true ∧ plainD m = true ∧ PV 3 c ∧ (∀ w h : Int, a = .i w → b = .i h → Fl w h → w * h ≤ 12) ∧ ∀ bo : Bool, (bo = true ↔ ∃ w h : Int, a = .i w ∧ b = .i h ∧ Fl w h ∧ m = .i ((founds L w h).length : Nat) ∧ IsDue L w h c) → Q (.b bo)
  | _ => False
theorem len_accepts_rolled {CS : Addr} : ∀ ds P, S_accepts_rolled CS ds P → ds.length = P_accepts_rolled.length := fun ds P h => by
  unfold S_accepts_rolled at h
  split at h <;> first | rfl | exact h.elim
theorem d_accepts_rolled (Df : DefIn K mg "accepts_rolled" s_accepts_rolled P_accepts_rolled) (T : Txt mg) (D_is_within : DOk P w K mg base "is_within" s_is_within 2 P_is_within S_is_within) (D_fillings : DOk P w K mg base "fillings" s_fillings 15 P_fillings (S_fillings CS)) (D_is_same : DOk P w K mg base "is_same" s_is_same 5 P_is_same S_is_same) : DOk P w K mg base "accepts_rolled" s_accepts_rolled 16 P_accepts_rolled (S_accepts_rolled CS) := by
  have SC := sc_accepts_rolled
  refine dok (k := 15) Df sc_accepts_rolled (len_accepts_rolled) (body := fun f cdv A outer s H E hr hg => ⟨_, _, (pss_cons (ps_asg (pv 1) (kx_pgTup (n := 3) K rfl (pgs_cons (pg_name (i := 3) SC.nd rfl (Or.inl rfl)) (pgs_cons (pg_name (i := 4) SC.nd rfl (Or.inl rfl)) (pgs_cons (pg_name (i := 5) SC.nd rfl (Or.inl rfl)) pgs_nil))) (by rfl))) (pss_cons (ps_if (PW.pt (pw_or (pt_not (pt_val (pe_callD D_is_within.d (hr.mono (by decide)) hg (pa_cons (pv 3) (pa_cons pe_int (pa_cons (pe_gint T.m_MOST_ROLLED) pa_nil)))))) (pw_or (pt_not (pt_val (pe_callD D_is_within.d (hr.mono (by decide)) hg (pa_cons (pv 4) (pa_cons pe_int (pa_cons (pe_gint T.m_MOST_ROLLED) pa_nil)))))) (pw_or1 (pt_cmpR op_gt (pe_op op_mul (pv 3) (pv 4)) (pe_gint T.m_MOST_ROLLED) (nomark _)))))) (pss_one (ps_ret pe_bl)) pss_nil) (pss_cons (ps_set (i := 6) SC.nd rfl (Or.inl rfl) (pe_callD D_fillings.d (hr.mono (by decide)) hg (pa_cons (pv 0) (pa_cons (pv 3) (pa_cons (pv 4) pa_nil))))) (pss_one (ps_ret (pe_and (pe_callD D_is_same.d (hr.mono (by decide)) hg (pa_cons (pv 5) (pa_cons (pe_callB (kx_len K) (by rfl) T.z_len (by decide +kernel) (pa_cons (pv 6) pa_nil)) pa_nil))) (pe_one (pe_callD D_is_same.d (hr.mono (by decide)) hg (pa_cons (pv 2) (pa_cons (pv 6) pa_nil)))))))))), (s_seq (s_asg e_var (g_tup (gs_cons g_name (gs_cons g_name (gs_cons g_name gs_nil))))) (s_seq (s_if (t_or (t_not (t_B (e_call (a_cons e_var (a_cons e_int (a_cons e_int a_nil)))))) (t_or (t_not (t_B (e_call (a_cons e_var (a_cons e_int (a_cons e_int a_nil)))))) (t_test (e_op o_gt (e_op o_mul e_var e_var) e_int)))) (s_ret e_bl) s_next) (s_seq (s_asg (e_call (a_cons e_var (a_cons e_var (a_cons e_var a_nil)))) g_name) (s_ret (e_andV (e_call (a_cons e_var (a_cons (e_cb c_len (a_cons e_var a_nil)) a_nil))) (e_call (a_cons e_var (a_cons e_var a_nil)))))))), ?_⟩)
  clear hr hg
  intro ds Q h
  unfold S_accepts_rolled at h
  split at h
  · rename_i d a b m c
    obtain ⟨L, rfl, l0, l1, pa, pb, pm, pv, small, h⟩ := h
    rw [show startG N_accepts_rolled.length [shp CS L, .t [a, b, m], c] = [.d (shp CS L), .d (.t [a, b, m]), .d c, .u, .u, .u, .u] from rfl]
    have no : ¬ (∃ w h : Int, a = .i w ∧ b = .i h ∧ Fl w h ∧ m = .i ((founds L w h).length : Nat) ∧ IsDue L w h c) → Q (.b false) := fun n => h false ⟨(fun z => nomatch z), fun e => absurd e n⟩
    refine ⟨rfl, ?_⟩
    dsimp only [wgName, put]
    refine ⟨pa, ⟨fun z => ⟨fun _ => no fun ⟨w, h', e1, e2, f, _⟩ => ?_, fun z => nomatch z⟩, fun z => ?_⟩⟩
    · rw [Bool.not_eq_true'] at z
      subst e1
      have := f.le
      exact of_decide_eq_false z ⟨by have := f.1; omega, by omega⟩
    rw [Bool.not_eq_false'] at z
    obtain ⟨w, rfl, w1, w2⟩ := num_of z
    refine ⟨pb, ⟨fun z => ⟨fun _ => no fun ⟨w, h', e1, e2, f, _⟩ => ?_, fun z => nomatch z⟩, fun z => ?_⟩⟩
    · rw [Bool.not_eq_true'] at z
      subst e2
      have := f.le
      exact of_decide_eq_false z ⟨by have := f.2.1; omega, by omega⟩
    rw [Bool.not_eq_false'] at z
    obtain ⟨h', rfl, h1, h2⟩ := num_of z
    refine ⟨.inl ⟨by omega, by omega⟩, ⟨fun z => no fun ⟨w', h2, e1, e2, f, _⟩ => ?_, fun z => ?_⟩⟩
    · injection e1 with e1
      injection e2 with e2
      subst e1 e2
      have := of_decide_eq_true z
      have := f.2.2
      omega
    have f : Fl w h' := ⟨by omega, by omega, by have := of_decide_eq_false z; omega⟩
    have w12 := small w h' rfl rfl f
    refine ⟨L, rfl, l0, l1, f, w12, fun G g1 g2 => ?_⟩
    dsimp only [wgName, put]
    have du : IsDue L w h' (.t (G.map (fillD h'))) := ⟨G, g1, g2, rfl⟩
    have gl := g1.length_eq
    have lf := founds_len f w12 l0 l1
    show S_is_same [m, .i (((G.map (fillD h')).length : Nat) : Int)] _
    rw [List.length_map, gl]
    refine ⟨0, by decide, ⟨_, rfl⟩, pm, fun b1 hb1 => ⟨fun z1 => ?_, fun z1 => ?_⟩⟩
    · have e1 := hb1.mp z1
      refine ⟨3, by decide, ⟨_, rfl, by rw [List.length_map]; omega, fun x hx => ?_⟩, pv, fun b2 hb2 => h b2 (hb2.trans ⟨fun e => ⟨w, h', rfl, rfl, f, e1, e ▸ du⟩, fun ⟨w', h2, a1, a2, _, _, dd⟩ => ?_⟩)⟩
      · obtain ⟨A, hA, rfl⟩ := List.mem_map.mp hx
        have pl := founds_plen f l0 (g1.mem_iff.mp hA)
        have := Nat.le_mul_of_pos_right A.length l0
        refine ⟨_, rfl, by rw [List.length_map]; omega, fun y hy => ?_⟩
        obtain ⟨q, _, rfl⟩ := List.mem_map.mp hy
        refine ⟨_, rfl, by show 2 ≤ 100; decide, fun u hu => ?_⟩
        simp only [List.mem_cons, List.not_mem_nil, or_false] at hu
        rcases hu with rfl | rfl <;> exact ⟨_, rfl⟩
      · injection a1 with a1
        injection a2 with a2
        subst a1 a2
        exact due_one dd du
    · refine h false ⟨(fun z => nomatch z), fun ⟨w', h2, a1, a2, _, e, _⟩ => ?_⟩
      injection a1 with a1
      injection a2 with a2
      subst a1 a2
      have := hb1.mpr e
      rw [z1] at this
      cases this
  · exact h.elim
/-- what is asked of a claim and its paper -/
def Asked (L : List Pr) (a b m c : D) : Prop := 0 < L.length ∧ L.length ≤ 24 ∧ plainD a = true ∧ plainD b = true ∧ plainD m = true ∧ PV 3 c ∧ ∀ w h : Int, a = .i w → b = .i h → Fl w h → w * h ≤ 12
/-- right -/
def Holds (L : List Pr) (a b m c : D) : Prop := ∃ w h : Int, a = .i w ∧ b = .i h ∧ Fl w h ∧ m = .i ((founds L w h).length : Nat) ∧ IsDue L w h c
/-- no great numbers where a floor has its lattice -/
def Sm5 (x : D) : Prop := ∀ w s h c d : Int, x = .t [.i w, .i s, .i h, .i c, .i d] → -1000 ≤ w ∧ w ≤ 1000 ∧ h ≤ 1000
theorem Sm5.cm {x : D} (S : Sm5 x) : ∀ w s h c d : Int, x = .t [.i w, .i s, .i h, .i c, .i d] → CMul w h := fun w s h c d e => .inl ⟨by have := S w s h c d e; omega, by have := S w s h c d e; omega⟩
def S_accepts_turned (CS : Addr) : List D → (D → Prop) → Prop := fun ds Q => match ds with
  | [d, .t [x], c] => ∃ L, d = shp CS L ∧ L.length ≤ 30 ∧ NV x ∧ Sm5 x ∧ PV 2 c ∧ ∀ b : Bool, (b = true ↔ floorD L x = true ∧ c = .t []) → Q (.b b)
  | _ => False
theorem len_accepts_turned {CS : Addr} : ∀ ds P, S_accepts_turned CS ds P → ds.length = P_accepts_turned.length := fun ds P h => by
  unfold S_accepts_turned at h
  split at h <;> first | rfl | exact h.elim
theorem d_accepts_turned (Df : DefIn K mg "accepts_turned" s_accepts_turned P_accepts_turned) (T : Txt mg) (D_is_same : DOk P w K mg base "is_same" s_is_same 5 P_is_same S_is_same) (D_is_turned_floor : DOk P w K mg base "is_turned_floor" s_is_turned_floor 5 P_is_turned_floor (S_is_turned_floor CS)) : DOk P w K mg base "accepts_turned" s_accepts_turned 6 P_accepts_turned (S_accepts_turned CS) := by
  have SC := sc_accepts_turned
  refine dok (k := 5) Df sc_accepts_turned (len_accepts_turned) (body := fun f cdv A outer s H E hr hg => ⟨_, _, (pss_one (ps_ret (pe_and (pe_callD D_is_turned_floor.d (hr.mono (by decide)) hg (pa_cons (pv 0) (pa_cons (pe_ix (kx_ixT K) (pv 1) pe_int (fun _ _ => rfl)) pa_nil))) (pe_one (pe_callD D_is_same.d (hr.mono (by decide)) hg (pa_cons (pv 2) (pa_cons (pe_tup pa_nil) pa_nil))))))), (s_ret (e_andV (e_call (a_cons e_var (a_cons (e_op o_ixT e_var e_int) a_nil))) (e_call (a_cons e_var (a_cons (e_tup a_nil) a_nil))))), ?_⟩)
  clear hr hg
  intro ds Q h
  unfold S_accepts_turned at h
  split at h
  · rename_i d x c
    obtain ⟨L, rfl, l1, nv, sm, pv, h⟩ := h
    rw [show startG N_accepts_turned.length [shp CS L, .t [x], c] = [.d (shp CS L), .d (.t [x]), .d c] from rfl]
    refine ⟨x, rfl, L, rfl, l1, nv, sm.cm, ⟨fun z => ?_, fun z => ?_⟩⟩
    · refine ⟨by show 0 ≤ 100000; decide, 2, by decide, ⟨[], rfl, by decide, fun x hx => by cases hx⟩, pv, fun b hb => h b ?_⟩
      rw [hb, z]
      exact ⟨fun e => ⟨rfl, e⟩, fun a => a.2⟩
    · refine h false ?_
      rw [z]
      exact ⟨(fun z => nomatch z), fun a => nomatch a.1⟩
  · exact h.elim
def S_acceptsT (CS : Addr) : List D → (D → Prop) → Prop := fun ds Q => match ds with
  | [.t [.s word, .s z, x], c] => ∃ (L : List Pr) (w h : Nat), word = "turned" ∧ z = pageOf L w h ∧ Grid L w h ∧ Norm L ∧ L.length ≤ 24 ∧ NV x ∧ Sm5 x ∧ PV 2 c ∧ ∀ b : Bool, (b = true ↔ floorD L x = true ∧ c = .t []) → Q (.b b)
  | _ => False
def S_acceptsR (CS : Addr) : List D → (D → Prop) → Prop := fun ds Q => match ds with
  | [.t [.s word, .s z, a, b, m], c] => ∃ (L : List Pr) (w h : Nat), word = "rolled" ∧ z = pageOf L w h ∧ Grid L w h ∧ Norm L ∧ Asked L a b m c ∧ ∀ bo : Bool, (bo = true ↔ Holds L a b m c) → Q (.b bo)
  | _ => False
def S_accepts (CS : Addr) : List D → (D → Prop) → Prop := fun ds Q => S_acceptsT CS ds Q ∨ S_acceptsR CS ds Q
theorem len_acceptsT {CS : Addr} : ∀ ds P, S_acceptsT CS ds P → ds.length = P_accepts.length := fun ds P h => by
  unfold S_acceptsT at h
  split at h <;> first | rfl | exact h.elim
theorem len_acceptsR {CS : Addr} : ∀ ds P, S_acceptsR CS ds P → ds.length = P_accepts.length := fun ds P h => by
  unfold S_acceptsR at h
  split at h <;> first | rfl | exact h.elim
theorem d_acceptsT (Df : DefIn K mg "accepts" s_accepts P_accepts) (T : Txt mg) {ACHECKS : Addr} (KD_CHECKS : DO.KdIn K w mg "CHECKS" ACHECKS) {ALENGTHS : Addr} (KD_LENGTHS : DO.KdIn K w mg "LENGTHS" ALENGTHS) {Faccepts_turned : Addr} (mf_accepts_turned : mg "accepts_turned" = some (.ref Faccepts_turned)) (kd1 : KDct K w ACHECKS "turned" (.ref Faccepts_turned)) (kd2 : KDct K w ALENGTHS "turned" (.int 1)) (D_shape_with : DOk P w K mg base "shape_with" s_shape_with 9 P_shape_with (S_shape_with CS)) (D_accepts_turned : DOk P w K mg base "accepts_turned" s_accepts_turned 6 P_accepts_turned (S_accepts_turned CS)) : DOk P w K mg base "accepts" s_accepts 17 P_accepts (S_acceptsT CS) := by
  have SC := sc_accepts
  refine dok (k := 16) Df sc_accepts (len_acceptsT) (body := fun f cdv A outer s H E hr hg => ⟨_, _, (pss_cons (ps_if (PW.pt (pw_or (pt_not (pt_val (pe_callB (kx_isi K) (by rfl) T.z_isinstance (by decide +kernel) (pa_cons (pv 0) (pa_cons (pe_gty T.z_tuple PyProof.Rows.Boot.«tuple») pa_nil))))) (pw_or (pt_cmpR op_lt (pe_callB (kx_len K) (by rfl) T.z_len (by decide +kernel) (pa_cons (pv 0) pa_nil)) pe_int (nomark _)) (pw_or1 (pt_not (pt_val (pe_callB (kx_isi K) (by rfl) T.z_isinstance (by decide +kernel) (pa_cons (pe_ix (kx_ixT K) (pv 0) pe_int (fun _ _ => rfl)) (pa_cons (pe_gty T.z_str PyProof.Rows.Boot.«str») pa_nil))))))))) (pss_one (ps_ret pe_bl)) pss_nil) (pss_cons (ps_set (i := 2) SC.nd rfl (Or.inl rfl) (pe_ix (kx_ixT K) (pv 0) pe_int (fun _ _ => rfl))) (pss_cons (ps_set (i := 3) SC.nd rfl (Or.inl rfl) (pe_slice (DO.kx_slA K) (pv 0) (po_some pe_int) po_none)) (pss_cons (ps_if (PW.pt (pw_or (pt_cmpR (DO.kx_noKd KD_CHECKS) (pv 2) (pe_glob (v := .ref ACHECKS) (by rfl) KD_CHECKS.m rfl) (by with_unfolding_all rfl)) (pw_or1 (pt_cmpR op_ne (pe_callB (kx_len K) (by rfl) T.z_len (by decide +kernel) (pa_cons (pv 3) pa_nil)) (pe_ix (DO.kx_itKd K w) (pe_glob (v := .ref ALENGTHS) (by rfl) KD_LENGTHS.m rfl) (pv 2) (fun _ _ => rfl)) (nomark _))))) (pss_one (ps_ret pe_bl)) pss_nil) (pss_cons (ps_set (i := 4) SC.nd rfl (Or.inl rfl) (pe_callD D_shape_with.d (hr.mono (by decide)) hg (pa_cons (pe_ix (kx_ixT K) (pv 0) pe_int (fun _ _ => rfl)) pa_nil))) (pss_cons (ps_if (pt_cmpR op_isN (pv 4) pe_non (nomark _)) (pss_one (ps_ret pe_bl)) pss_nil) (pss_cons (ps_set (i := 5) SC.nd rfl (Or.inl rfl) (pe_ix (DO.kx_itKd K w) (pe_glob (v := .ref ACHECKS) (by rfl) KD_CHECKS.m rfl) (pv 2) (fun _ _ => rfl))) (pss_one (ps_ret (DO.pe_callLG (i := 5) D_accepts_turned.d mf_accepts_turned (hr.mono (by decide)) hg rfl (Or.inl rfl) (pa_cons (pv 4) (pa_cons (pv 3) (pa_cons (pv 1) pa_nil))))))))))))), (s_seq (s_if (t_or (t_not (t_B (e_isi (fun _ _ => tab_tuple) e_var))) (t_or (t_test (e_op o_lt (e_cb c_len (a_cons e_var a_nil)) e_int)) (t_not (t_B (e_isi (fun _ _ => tab_str) (e_op o_ixT e_var e_int)))))) (s_ret e_bl) s_next) (s_seq (s_asg (e_op o_ixT e_var e_int) g_name) (s_seq (s_asg (DO.e_slA e_var (p_some e_int) p_none) g_name) (s_seq (s_if (t_or (t_test (DO.e_noKd e_var)) (t_test (e_op o_neS (e_cb c_len (a_cons e_var a_nil)) (DO.e_itKd e_var)))) (s_ret e_bl) s_next) (s_seq (s_asg (e_call (a_cons (e_op o_ixT e_var e_int) a_nil)) g_name) (s_seq (s_if (t_test (e_op o_isN e_var e_non)) (s_ret e_bl) s_next) (DO.s_disp e_var (a_cons e_var (a_cons e_var (a_cons e_var a_nil)))))))))), ?_⟩)
  clear hr hg
  intro ds Q h
  unfold S_acceptsT at h
  split at h
  · rename_i word z x c
    obtain ⟨L, w, h', rfl, rfl, g, n, l1, nv, sm, pv, h⟩ := h
    rw [show startG N_accepts.length [.t [.s "turned", .s (pageOf L w h'), x], c] = [.d (.t [.s "turned", .s (pageOf L w h'), x]), .d c, .u, .u, .u, .u] from rfl]
    obtain ⟨_, _, u, _, _, nu, _⟩ := id kd1
    refine ⟨(fun z => nomatch z), fun _ => ⟨(fun z => nomatch z), fun _ => ?_⟩⟩
    refine ⟨_, rfl, ⟨(fun z => nomatch z), fun _ => ?_⟩⟩
    refine ⟨_, rfl, ?_⟩
    dsimp only [wgName, put]
    refine ⟨_, nu, ⟨(fun z => nomatch z), fun _ => ?_⟩⟩
    refine ⟨1, kd2, ?_⟩
    refine ⟨(fun z => nomatch z), fun _ => ?_⟩
    refine ⟨_, rfl, L, w, h', rfl, g, n, l1, ?_⟩
    dsimp only [wgName, put]
    refine ⟨(fun z => nomatch z), fun _ => ?_⟩
    exact ⟨kd1, by show 5 < 6; decide, L, rfl, by omega, nv, sm, pv, h⟩
  · exact h.elim
theorem d_acceptsR (Df : DefIn K mg "accepts" s_accepts P_accepts) (T : Txt mg) {ACHECKS : Addr} (KD_CHECKS : DO.KdIn K w mg "CHECKS" ACHECKS) {ALENGTHS : Addr} (KD_LENGTHS : DO.KdIn K w mg "LENGTHS" ALENGTHS) {Faccepts_rolled : Addr} (mf_accepts_rolled : mg "accepts_rolled" = some (.ref Faccepts_rolled)) (kd1 : KDct K w ACHECKS "rolled" (.ref Faccepts_rolled)) (kd2 : KDct K w ALENGTHS "rolled" (.int 3)) (D_shape_with : DOk P w K mg base "shape_with" s_shape_with 9 P_shape_with (S_shape_with CS)) (D_accepts_rolled : DOk P w K mg base "accepts_rolled" s_accepts_rolled 16 P_accepts_rolled (S_accepts_rolled CS)) : DOk P w K mg base "accepts" s_accepts 17 P_accepts (S_acceptsR CS) := by
  have SC := sc_accepts
  refine dok (k := 16) Df sc_accepts (len_acceptsR) (body := fun f cdv A outer s H E hr hg => ⟨_, _, (pss_cons (ps_if (PW.pt (pw_or (pt_not (pt_val (pe_callB (kx_isi K) (by rfl) T.z_isinstance (by decide +kernel) (pa_cons (pv 0) (pa_cons (pe_gty T.z_tuple PyProof.Rows.Boot.«tuple») pa_nil))))) (pw_or (pt_cmpR op_lt (pe_callB (kx_len K) (by rfl) T.z_len (by decide +kernel) (pa_cons (pv 0) pa_nil)) pe_int (nomark _)) (pw_or1 (pt_not (pt_val (pe_callB (kx_isi K) (by rfl) T.z_isinstance (by decide +kernel) (pa_cons (pe_ix (kx_ixT K) (pv 0) pe_int (fun _ _ => rfl)) (pa_cons (pe_gty T.z_str PyProof.Rows.Boot.«str») pa_nil))))))))) (pss_one (ps_ret pe_bl)) pss_nil) (pss_cons (ps_set (i := 2) SC.nd rfl (Or.inl rfl) (pe_ix (kx_ixT K) (pv 0) pe_int (fun _ _ => rfl))) (pss_cons (ps_set (i := 3) SC.nd rfl (Or.inl rfl) (pe_slice (DO.kx_slA K) (pv 0) (po_some pe_int) po_none)) (pss_cons (ps_if (PW.pt (pw_or (pt_cmpR (DO.kx_noKd KD_CHECKS) (pv 2) (pe_glob (v := .ref ACHECKS) (by rfl) KD_CHECKS.m rfl) (by with_unfolding_all rfl)) (pw_or1 (pt_cmpR op_ne (pe_callB (kx_len K) (by rfl) T.z_len (by decide +kernel) (pa_cons (pv 3) pa_nil)) (pe_ix (DO.kx_itKd K w) (pe_glob (v := .ref ALENGTHS) (by rfl) KD_LENGTHS.m rfl) (pv 2) (fun _ _ => rfl)) (nomark _))))) (pss_one (ps_ret pe_bl)) pss_nil) (pss_cons (ps_set (i := 4) SC.nd rfl (Or.inl rfl) (pe_callD D_shape_with.d (hr.mono (by decide)) hg (pa_cons (pe_ix (kx_ixT K) (pv 0) pe_int (fun _ _ => rfl)) pa_nil))) (pss_cons (ps_if (pt_cmpR op_isN (pv 4) pe_non (nomark _)) (pss_one (ps_ret pe_bl)) pss_nil) (pss_cons (ps_set (i := 5) SC.nd rfl (Or.inl rfl) (pe_ix (DO.kx_itKd K w) (pe_glob (v := .ref ACHECKS) (by rfl) KD_CHECKS.m rfl) (pv 2) (fun _ _ => rfl))) (pss_one (ps_ret (DO.pe_callLG (i := 5) D_accepts_rolled.d mf_accepts_rolled (hr.mono (by decide)) hg rfl (Or.inl rfl) (pa_cons (pv 4) (pa_cons (pv 3) (pa_cons (pv 1) pa_nil))))))))))))), (s_seq (s_if (t_or (t_not (t_B (e_isi (fun _ _ => tab_tuple) e_var))) (t_or (t_test (e_op o_lt (e_cb c_len (a_cons e_var a_nil)) e_int)) (t_not (t_B (e_isi (fun _ _ => tab_str) (e_op o_ixT e_var e_int)))))) (s_ret e_bl) s_next) (s_seq (s_asg (e_op o_ixT e_var e_int) g_name) (s_seq (s_asg (DO.e_slA e_var (p_some e_int) p_none) g_name) (s_seq (s_if (t_or (t_test (DO.e_noKd e_var)) (t_test (e_op o_neS (e_cb c_len (a_cons e_var a_nil)) (DO.e_itKd e_var)))) (s_ret e_bl) s_next) (s_seq (s_asg (e_call (a_cons (e_op o_ixT e_var e_int) a_nil)) g_name) (s_seq (s_if (t_test (e_op o_isN e_var e_non)) (s_ret e_bl) s_next) (DO.s_disp e_var (a_cons e_var (a_cons e_var (a_cons e_var a_nil)))))))))), ?_⟩)
  clear hr hg
  intro ds Q h
  unfold S_acceptsR at h
  split at h
  · rename_i word z a b m c
    obtain ⟨L, w, h', rfl, rfl, g, n, ⟨q1, q2, q3, q4, q5, q6, q7⟩, h⟩ := h
    rw [show startG N_accepts.length [.t [.s "rolled", .s (pageOf L w h'), a, b, m], c] = [.d (.t [.s "rolled", .s (pageOf L w h'), a, b, m]), .d c, .u, .u, .u, .u] from rfl]
    obtain ⟨_, _, u, _, _, nu, _⟩ := id kd1
    refine ⟨(fun z => nomatch z), fun _ => ⟨(fun z => nomatch z), fun _ => ?_⟩⟩
    refine ⟨_, rfl, ⟨(fun z => nomatch z), fun _ => ?_⟩⟩
    refine ⟨_, rfl, ?_⟩
    dsimp only [wgName, put]
    refine ⟨_, nu, ⟨(fun z => nomatch z), fun _ => ?_⟩⟩
    refine ⟨3, kd2, ?_⟩
    refine ⟨(fun z => nomatch z), fun _ => ?_⟩
    refine ⟨_, rfl, L, w, h', rfl, g, n, q2, ?_⟩
    dsimp only [wgName, put]
    refine ⟨(fun z => nomatch z), fun _ => ?_⟩
    exact ⟨kd1, by show 5 < 6; decide, L, rfl, q1, q2, q3, q4, q5, q6, q7, h⟩
  · exact h.elim
end
end K74
namespace K74
open PySem PySem.Spec PyProof.Rows L2 Evl Lay ErrX DL TE DO ShM PageM CovM BitP FlC
abbrev s_of : Stmt := top 97
abbrev N_of : List Str := ["_law_bag_here", "_law_some_here"]
abbrev P_of : List Str := ["_law_bag_here", "_law_some_here"]
theorem sc_of : FnScope N_of P_of (defScope s_of) := ⟨rfl, rfl, rfl, by decide +kernel, rfl, by decide +kernel, by decide +kernel⟩
abbrev s_whole : Stmt := top 98
abbrev N_whole : List Str := ["_law_thing"]
abbrev P_whole : List Str := ["_law_thing"]
theorem sc_whole : FnScope N_whole P_whole (defScope s_whole) := ⟨rfl, rfl, rfl, by decide +kernel, rfl, by decide +kernel, by decide +kernel⟩
abbrev s_laid : Stmt := top 99
abbrev N_laid : List Str := ["_law_spots_here", "_law_left_here", "_law_top_here", "_law_x", "_law_y"]
abbrev P_laid : List Str := ["_law_spots_here"]
theorem sc_laid : FnScope N_laid P_laid (defScope s_laid) := ⟨rfl, rfl, rfl, by decide +kernel, rfl, by decide +kernel, by decide +kernel⟩
abbrev s_spots : Stmt := top 100
abbrev N_spots : List Str := ["_law_bag_here", "_law_top", "_law_found", "_law_turn", "_law_x", "_law_y", "_law_step"]
abbrev P_spots : List Str := ["_law_bag_here", "_law_top"]
theorem sc_spots : FnScope N_spots P_spots (defScope s_spots) := ⟨rfl, rfl, rfl, by decide +kernel, rfl, by decide +kernel, by decide +kernel⟩
abbrev s_page : Stmt := top 101
abbrev N_page : List Str := ["_law_spots_here", "_law_wide_here", "_law_high_here", "_law_x", "_law_y", "_law_rows_here"]
abbrev P_page : List Str := ["_law_spots_here"]
theorem sc_page : FnScope N_page P_page (defScope s_page) := ⟨rfl, rfl, rfl, by decide +kernel, rfl, by decide +kernel, by decide +kernel⟩
abbrev s_left : Stmt := top 102
abbrev N_left : List Str := ["_law_grid", "_law_spot", "_law_w", "_law_s", "_law_h", "_law_b"]
abbrev P_left : List Str := ["_law_grid", "_law_spot"]
theorem sc_left : FnScope N_left P_left (defScope s_left) := ⟨rfl, rfl, rfl, by decide +kernel, rfl, by decide +kernel, by decide +kernel⟩
abbrev s_grids : Stmt := top 103
abbrev N_grids : List Str := ["_law_size", "_law_found", "_law_w", "_law_s"]
abbrev P_grids : List Str := ["_law_size"]
theorem sc_grids : FnScope N_grids P_grids (defScope s_grids) := ⟨rfl, rfl, rfl, by decide +kernel, rfl, by decide +kernel, by decide +kernel⟩
abbrev s_is_grid : Stmt := top 105
abbrev N_is_grid : List Str := ["_law_thing", "_law_top", "_law_part"]
abbrev P_is_grid : List Str := ["_law_thing", "_law_top"]
theorem sc_is_grid : FnScope N_is_grid P_is_grid (defScope s_is_grid) := ⟨rfl, rfl, rfl, by decide +kernel, rfl, by decide +kernel, by decide +kernel⟩
abbrev s_is_turned : Stmt := top 107
abbrev N_is_turned : List Str := ["_law_spots_here", "_law_thing", "_law_part", "_law_grid", "_law_c", "_law_d", "_law_both", "_law_x", "_law_y", "_law_spot"]
abbrev P_is_turned : List Str := ["_law_spots_here", "_law_thing"]
theorem sc_is_turned : FnScope N_is_turned P_is_turned (defScope s_is_turned) := ⟨rfl, rfl, rfl, by decide +kernel, rfl, by decide +kernel, by decide +kernel⟩
abbrev s_all_turned : Stmt := top 108
abbrev N_all_turned : List Str := ["_law_spots_here", "_law_found", "_law_grid", "_law_c", "_law_some", "_law_d", "_law_each"]
abbrev P_all_turned : List Str := ["_law_spots_here"]
theorem sc_all_turned : FnScope N_all_turned P_all_turned (defScope s_all_turned) := ⟨rfl, rfl, rfl, by decide +kernel, rfl, by decide +kernel, by decide +kernel⟩
/-- the cells of the copy at place p -/
def cellsP (L : List Pr) (w h : Int) (p : Nat) : List Pr := L.map fun q => (((p : Int) / h + q.1) % w, ((p : Int) % h + q.2) % h)
def num (h : Int) (q : Pr) : Nat := (q.1 * h + q.2).toNat
theorem held_cells (L : List Pr) (w h : Int) (p : Nat) : heldI L w h p = (cellsP L w h p).map (num h) := by
  unfold heldI cellsP
  rw [List.map_map]
  rfl
theorem cells_rng {L : List Pr} {w h : Int} (w0 : 0 < w) (h0 : 0 < h) {p : Nat} {q : Pr} (hq : q ∈ cellsP L w h p) : 0 ≤ q.1 ∧ q.1 < w ∧ 0 ≤ q.2 ∧ q.2 < h := by
  obtain ⟨c, _, rfl⟩ := List.mem_map.mp hq
  exact ⟨Int.emod_nonneg _ (by omega), Int.emod_lt_of_pos _ w0, Int.emod_nonneg _ (by omega), Int.emod_lt_of_pos _ h0⟩
theorem num_inj {h : Int} (h0 : 0 < h) {p q : Pr} (hp : 0 ≤ p.1 ∧ 0 ≤ p.2 ∧ p.2 < h) (hq : 0 ≤ q.1 ∧ 0 ≤ q.2 ∧ q.2 < h) (e : num h p = num h q) : p = q := by
  unfold num at e
  have a := Int.mul_nonneg hp.1 (Int.le_of_lt h0)
  have b := Int.mul_nonneg hq.1 (Int.le_of_lt h0)
  have e : p.1 * h + p.2 = q.1 * h + q.2 := by omega
  have d1 : (p.1 * h + p.2) / h = p.1 := by rw [Int.add_comm, Int.add_mul_ediv_right _ _ (by omega), Int.ediv_eq_zero_of_lt hp.2.1 hp.2.2, Int.zero_add]
  have d2 : (q.1 * h + q.2) / h = q.1 := by rw [Int.add_comm, Int.add_mul_ediv_right _ _ (by omega), Int.ediv_eq_zero_of_lt hq.2.1 hq.2.2, Int.zero_add]
  have e1 : p.1 = q.1 := by rw [← d1, ← d2, e]
  rw [e1] at e
  exact Prod.ext e1 (by omega)
theorem fillD_sh (h : Int) (A : List Nat) : SrtD.hasSh (.t (.t .i)) (fillD h A) := ⟨_, rfl, fun x hx => by
  obtain ⟨q, _, rfl⟩ := List.mem_map.mp hx
  refine ⟨_, rfl, fun y hy => ?_⟩
  simp only [List.mem_cons, List.not_mem_nil, or_false] at hy
  rcases hy with rfl | rfl <;> exact ⟨_, rfl⟩⟩
theorem cell_lt {h : Int} (h0 : 0 < h) (a b : Nat) : SrtD.ltS .i (.i (a : Int)) (.i (b : Int)) = SrtD.ltS (.t .i) (cellD h a) (cellD h b) := by
  show decide ((a : Int) < (b : Int)) = SrtD.lexL (SrtD.ltS .i) [.i ((a : Int) / h), .i ((a : Int) % h)] [.i ((b : Int) / h), .i ((b : Int) % h)]
  have sa := Int.mul_ediv_add_emod (a : Int) h
  have sb := Int.mul_ediv_add_emod (b : Int) h
  have a0 := Int.emod_nonneg (a : Int) (show h ≠ 0 by omega)
  have a1 := Int.emod_lt_of_pos (a : Int) h0
  have b0 := Int.emod_nonneg (b : Int) (show h ≠ 0 by omega)
  have b1 := Int.emod_lt_of_pos (b : Int) h0
  rw [lexI_cons]
  split
  · rename_i e
    rw [e] at sa
    rw [lexI_cons]
    split
    · rw [show SrtD.lexL (SrtD.ltS .i) [] [] = false from SrtD.lex_irr (P := fun _ => True) []]
      exact decide_eq_false (by omega)
    · show _ = decide (_ < _)
      rw [decide_eq_decide]
      omega
  · rename_i e
    show _ = decide (_ < _)
    rw [decide_eq_decide]
    rcases Int.lt_trichotomy ((a : Int) / h) ((b : Int) / h) with z | z | z
    · have := Int.mul_le_mul_of_nonneg_left (show (a : Int) / h + 1 ≤ (b : Int) / h by omega) (Int.le_of_lt h0)
      rw [Int.mul_add] at this
      omega
    · exact absurd z e
    · have := Int.mul_le_mul_of_nonneg_left (show (b : Int) / h + 1 ≤ (a : Int) / h by omega) (Int.le_of_lt h0)
      rw [Int.mul_add] at this
      omega
theorem cell_inj {h : Int} (a b : Nat) (e : cellD h a = cellD h b) : a = b := by
  unfold cellD at e
  simp only [D.t.injEq, List.cons.injEq, D.i.injEq, and_true] at e
  have sa := Int.mul_ediv_add_emod (a : Int) h
  have sb := Int.mul_ediv_add_emod (b : Int) h
  rw [e.1, e.2] at sa
  omega
theorem fill_lt {h : Int} (h0 : 0 < h) (A B : List Nat) : SrtD.ltS (.l .i) (nD A) (nD B) = SrtD.ltS (.t (.t .i)) (fillD h A) (fillD h B) := by
  show SrtD.lexL (SrtD.ltS .i) (A.map fun (k : Nat) => .i (k : Int)) (B.map fun (k : Nat) => .i (k : Int)) = SrtD.lexL (SrtD.ltS (.t .i)) (A.map (cellD h)) (B.map (cellD h))
  exact SrtD.lexL_map (fun a b e => by injection e with e; omega) (fun a b e => cell_inj a b e) (cell_lt h0) A B
/-- the cell of a number -/
def cellOf (h : Int) (q : Nat) : Pr := ((q : Int) / h, (q : Int) % h)
theorem cell_num {h : Int} (h0 : 0 < h) (q : Nat) : num h (cellOf h q) = q := by
  unfold num cellOf
  have := Int.mul_ediv_add_emod (q : Int) h
  rw [Int.mul_comm] at this
  show ((q : Int) / h * h + (q : Int) % h).toNat = q
  omega
theorem num_cell {h : Int} (h0 : 0 < h) {p : Pr} (hp : 0 ≤ p.1 ∧ 0 ≤ p.2 ∧ p.2 < h) : cellOf h (num h p) = p := by
  have a := Int.mul_nonneg hp.1 (Int.le_of_lt h0)
  unfold cellOf num
  rw [Int.toNat_of_nonneg (by omega)]
  have d1 : (p.1 * h + p.2) / h = p.1 := by rw [Int.add_comm, Int.add_mul_ediv_right _ _ (by omega), Int.ediv_eq_zero_of_lt hp.2.1 hp.2.2, Int.zero_add]
  have d2 : (p.1 * h + p.2) % h = p.2 := by rw [Int.add_comm, Int.add_mul_emod_self_right, Int.emod_eq_of_lt hp.2.1 hp.2.2]
  rw [d1, d2]
/-- what the places of A hold, in their order -/
def holdsC (L : List Pr) (w h : Int) (A : List Nat) : List Pr := A.flatMap (cellsP L w h)
theorem holdsC_mem {L : List Pr} {w h : Int} (w0 : 0 < w) (h0 : 0 < h) {A : List Nat} {q : Pr} (hq : 0 ≤ q.1 ∧ 0 ≤ q.2 ∧ q.2 < h) : q ∈ holdsC L w h A ↔ num h q ∈ A.flatMap (heldI L w h) := by
  unfold holdsC
  rw [List.mem_flatMap, List.mem_flatMap]
  constructor
  · rintro ⟨a, ha, m⟩
    exact ⟨a, ha, by rw [held_cells]; exact List.mem_map_of_mem m⟩
  · rintro ⟨a, ha, m⟩
    rw [held_cells] at m
    obtain ⟨r, hr, e⟩ := List.mem_map.mp m
    obtain ⟨b1, b2, b3, b4⟩ := cells_rng w0 h0 hr
    have := num_inj h0 ⟨b1, b3, b4⟩ hq e
    subst this
    exact ⟨a, ha, hr⟩
/-- the places at which a copy holds the cell q, by the cells of the shape -/
def brL (L : List Pr) (w h : Int) (q : Nat) : List Nat := L.map fun c => num h (((q : Int) / h - c.1) % w, ((q : Int) % h - c.2) % h)
theorem emod_back {a c w : Int} (w0 : 0 < w) (a0 : 0 ≤ a) (a1 : a < w) : ((a - c) % w + c) % w = a := by
  rw [Int.emod_add_emod, Int.sub_add_cancel, Int.emod_eq_of_lt a0 a1]
theorem emod_fwd {a c w : Int} (w0 : 0 < w) (a0 : 0 ≤ a) (a1 : a < w) : ((a + c) % w - c) % w = a := by
  rw [Int.emod_sub_emod, Int.add_sub_cancel, Int.emod_eq_of_lt a0 a1]
theorem br_over {L : List Pr} {w h : Int} (f : Fl w h) (q : Nat) (hq : q < (w * h).toNat) : ((brL L w h q).filter fun p => decide (heldI L w h p).Nodup).Perm (over (w * h).toNat (heldI L w h) q) := by
  obtain ⟨w0, h0, wh⟩ := id f
  have q1 : 0 ≤ (q : Int) / h ∧ (q : Int) / h < w := ⟨Int.ediv_nonneg (by omega) (by omega), Int.ediv_lt_of_lt_mul h0 (by omega)⟩
  have q2 : 0 ≤ (q : Int) % h ∧ (q : Int) % h < h := ⟨Int.emod_nonneg _ (by omega), Int.emod_lt_of_pos _ h0⟩
  have rng : ∀ c : Pr, 0 ≤ ((q : Int) / h - c.1) % w ∧ ((q : Int) / h - c.1) % w < w ∧ 0 ≤ ((q : Int) % h - c.2) % h ∧ ((q : Int) % h - c.2) % h < h := fun c => ⟨Int.emod_nonneg _ (by omega), Int.emod_lt_of_pos _ w0, Int.emod_nonneg _ (by omega), Int.emod_lt_of_pos _ h0⟩
  have cell : ∀ c : Pr, cellOf h (num h (((q : Int) / h - c.1) % w, ((q : Int) % h - c.2) % h)) = (((q : Int) / h - c.1) % w, ((q : Int) % h - c.2) % h) := fun c => num_cell h0 ⟨(rng c).1, (rng c).2.2.1, (rng c).2.2.2⟩
  have holds : ∀ c ∈ L, ∀ j (hj : j < L.length), L[j] = c → (heldI L w h (num h (((q : Int) / h - c.1) % w, ((q : Int) % h - c.2) % h)))[j]? = some q := fun c _ j hj e => by
    have ce := cell c
    unfold cellOf at ce
    injection ce with c1 c2
    unfold heldI
    rw [List.getElem?_map, List.getElem?_eq_getElem hj, e]
    show some _ = some _
    congr 1
    dsimp only
    rw [c1, c2, emod_back w0 q1.1 q1.2, emod_back h0 q2.1 q2.2]
    exact cell_num h0 q
  have nd1 : ((brL L w h q).filter fun p => decide (heldI L w h p).Nodup).Nodup := by
    unfold brL
    rw [List.filter_map, List.nodup_iff_pairwise_ne, List.pairwise_map]
    have ix : L.Pairwise fun c d => (heldI L w h (num h (((q : Int) / h - c.1) % w, ((q : Int) % h - c.2) % h))).Nodup → num h (((q : Int) / h - c.1) % w, ((q : Int) % h - c.2) % h) ≠ num h (((q : Int) / h - d.1) % w, ((q : Int) % h - d.2) % h) := by
      rw [List.pairwise_iff_getElem]
      intro i j hi hj ij nd e
      have a := holds L[i] (List.getElem_mem hi) i hi rfl
      have b := holds L[j] (List.getElem_mem hj) j hj rfl
      rw [← e] at b
      generalize heldI L w h (num h (((q : Int) / h - L[i].1) % w, ((q : Int) % h - L[i].2) % h)) = l at a b nd
      obtain ⟨a1, a2⟩ := List.getElem?_eq_some_iff.mp a
      obtain ⟨b1, b2⟩ := List.getElem?_eq_some_iff.mp b
      have := (List.getElem_inj (h₀ := a1) (h₁ := b1) nd).mp (by rw [a2, b2])
      omega
    refine List.Pairwise.imp_of_mem (fun {c d} hc _ n => n ?_) (ix.sublist List.filter_sublist)
    exact of_decide_eq_true (List.mem_filter.mp hc).2
  refine (List.perm_ext_iff_of_nodup nd1 (List.Nodup.sublist List.filter_sublist List.nodup_range)).mpr fun p => ?_
  rw [List.mem_filter, decide_eq_true_iff, show p ∈ (List.range (w * h).toNat).filter (fun p => decide (heldI L w h p).Nodup && (heldI L w h p).contains q) ↔ _ from over_mem]
  constructor
  · rintro ⟨hp, nd⟩
    obtain ⟨c, hc, rfl⟩ := List.mem_map.mp hp
    obtain ⟨j, hj, e⟩ := List.getElem_of_mem hc
    have := held_num w0 h0 ((q : Int) / h - c.1) ((q : Int) % h - c.2)
    refine ⟨?_, nd, List.mem_of_getElem? (holds c hc j hj e)⟩
    unfold num
    show ((((q : Int) / h - c.1) % w) * h + ((q : Int) % h - c.2) % h).toNat < _
    omega
  · rintro ⟨pn, nd, hp⟩
    refine ⟨?_, nd⟩
    rw [held_cells] at hp
    obtain ⟨r, hr, e⟩ := List.mem_map.mp hp
    obtain ⟨c, hc, rfl⟩ := List.mem_map.mp hr
    have p1 : 0 ≤ (p : Int) / h ∧ (p : Int) / h < w := ⟨Int.ediv_nonneg (by omega) (by omega), Int.ediv_lt_of_lt_mul h0 (by omega)⟩
    have p2 : 0 ≤ (p : Int) % h ∧ (p : Int) % h < h := ⟨Int.emod_nonneg _ (by omega), Int.emod_lt_of_pos _ h0⟩
    have ce := num_cell h0 (p := (((p : Int) / h + c.1) % w, ((p : Int) % h + c.2) % h)) ⟨Int.emod_nonneg _ (by omega), Int.emod_nonneg _ (by omega), Int.emod_lt_of_pos _ h0⟩
    rw [e] at ce
    unfold cellOf at ce
    injection ce with c1 c2
    refine List.mem_map.mpr ⟨c, hc, ?_⟩
    rw [c1, c2, emod_fwd w0 p1.1 p1.2, emod_fwd h0 p2.1 p2.2]
    exact cell_num h0 p
section
variable {P : Program} {w : World} {K : PySem.W.Frag} {mg : Str → Option Value} {base : Heap} {CS : Addr}
def S_of : List D → (D → Prop) → Prop := fun ds Q => match ds with
  | [.p 1, .l xs] => (0 < xs.length ∧ xs.length < 1000000) ∧ ∀ x ∈ xs, Q x
  | _ => False
theorem len_of : ∀ ds P, S_of ds P → ds.length = P_of.length := fun ds P h => by
  unfold S_of at h
  split at h <;> first | rfl | exact h.elim
theorem d_of (Df : DefIn K mg "_law_of" s_of P_of) (T : Txt mg) (D_take : DefOk P w K mg base "_law_take" 1 P_take (spD K S_take)) : DOk P w K mg base "_law_of" s_of 2 P_of S_of := by
  have SC := sc_of
  refine dok (k := 1) Df sc_of (len_of) (body := fun f cdv A outer s H E hr hg => ⟨_, _, (pss_one (ps_ret (pe_ix (kx_ixL K) (pv 1) (pe_callD D_take.d (hr.mono (by decide)) hg (pa_cons (pv 0) (pa_cons (pe_callB (kx_len K) (by rfl) T.z_len (by decide +kernel) (pa_cons (pv 1) pa_nil)) pa_nil))) (fun _ _ => rfl)))), (s_ret (e_op o_ixL e_var (e_call (a_cons e_var (a_cons (e_cb c_len (a_cons e_var a_nil)) a_nil))))), ?_⟩)
  clear hr hg
  intro ds Q h
  unfold S_of at h
  split at h
  · rename_i xs
    obtain ⟨⟨h1, h2⟩, h⟩ := h
    refine ⟨⟨by omega, by omega⟩, fun r r1 r2 => ?_⟩
    obtain ⟨n, rfl⟩ := Int.eq_ofNat_of_zero_le r1
    have hn : n < xs.length := by omega
    exact ⟨xs[n], L2.atI_nat (List.getElem?_eq_getElem hn), h _ (List.getElem_mem hn)⟩
  · exact h.elim
def S_laid : List D → (D → Prop) → Prop := fun ds Q => match ds with
  | [.l xs] => ∃ L : List Pr, xs = L.map pt ∧ 0 < L.length ∧ L.length ≤ 1000 ∧ ∀ L', zeroed L L' → Q (.t (L'.map pt))
  | _ => False
theorem len_laid : ∀ ds P, S_laid ds P → ds.length = P_laid.length := fun ds P h => by
  unfold S_laid at h
  split at h <;> first | rfl | exact h.elim
theorem d_laid (Df : DefIn K mg "_law_laid" s_laid P_laid) (T : Txt mg) : DOk P w K mg base "_law_laid" s_laid 1 P_laid S_laid := by
  have SC := sc_laid
  refine dok (k := 0) Df sc_laid (len_laid) (body := fun f cdv A outer s H E hr hg => ⟨_, _, (pss_cons (ps_asg (pe_tup (pa_cons (pe_callB (DO.kx_minL K rfl) (by rfl) T.z_min (by decide +kernel) (pa_cons (pe_lc (own := [("_law_x", 3), ("_law_y", 4)]) (g := (gTup K 2 (gCons (gName 3) (gCons (gName 4) gNil)))) (tt := tYes) (by rfl) SC.nd (kx_piList K (pv 0)) (blkOk_by (own := [("_law_x", 3), ("_law_y", 4)]) (N := N_laid) (sc := defScope s_laid) (by decide +kernel)) (fun _ _ _ _ _ => (kx_pgTup (n := 2) K rfl (pgs_cons (pg_name (i := 3) SC.nd rfl (Or.inl rfl)) (pgs_cons (pg_name (i := 4) SC.nd rfl (Or.inl rfl)) pgs_nil)) (by rfl))) (fun _ _ _ _ _ => pts_nil) (fun _ _ _ _ _ => (pv 3))) pa_nil)) (pa_cons (pe_callB (DO.kx_minL K rfl) (by rfl) T.z_min (by decide +kernel) (pa_cons (pe_lc (own := [("_law_x", 3), ("_law_y", 4)]) (g := (gTup K 2 (gCons (gName 3) (gCons (gName 4) gNil)))) (tt := tYes) (by rfl) SC.nd (kx_piList K (pv 0)) (blkOk_by (own := [("_law_x", 3), ("_law_y", 4)]) (N := N_laid) (sc := defScope s_laid) (by decide +kernel)) (fun _ _ _ _ _ => (kx_pgTup (n := 2) K rfl (pgs_cons (pg_name (i := 3) SC.nd rfl (Or.inl rfl)) (pgs_cons (pg_name (i := 4) SC.nd rfl (Or.inl rfl)) pgs_nil)) (by rfl))) (fun _ _ _ _ _ => pts_nil) (fun _ _ _ _ _ => (pv 4))) pa_nil)) pa_nil))) (kx_pgTup (n := 2) K rfl (pgs_cons (pg_name (i := 1) SC.nd rfl (Or.inr rfl)) (pgs_cons (pg_name (i := 2) SC.nd rfl (Or.inr rfl)) pgs_nil)) (by rfl))) (pss_one (ps_ret (pe_callTy (kx_tupleOf K) (by rfl) T.z_tuple (by decide +kernel) (pa_cons (pe_callB (DO.kx_sortQ K) (by rfl) T.z_sorted (by decide +kernel) (pa_cons (pe_lc (own := [("_law_x", 3), ("_law_y", 4)]) (g := (gTup K 2 (gCons (gName 3) (gCons (gName 4) gNil)))) (tt := tYes) (by rfl) SC.nd (kx_piList K (pv 0)) (blkOk_by (own := [("_law_x", 3), ("_law_y", 4)]) (N := N_laid) (sc := defScope s_laid) (by decide +kernel)) (fun _ _ _ _ _ => (kx_pgTup (n := 2) K rfl (pgs_cons (pg_name (i := 3) SC.nd rfl (Or.inl rfl)) (pgs_cons (pg_name (i := 4) SC.nd rfl (Or.inl rfl)) pgs_nil)) (by rfl))) (fun _ _ _ _ _ => pts_nil) (fun _ _ _ _ _ => (pe_tup (pa_cons (pe_op op_sub (pv 3) (pv 1)) (pa_cons (pe_op op_sub (pv 4) (pv 2)) pa_nil))))) pa_nil)) pa_nil))))), (s_seq (s_asg (e_tup (a_cons (e_cb DO.c_minL (a_cons (e_f (f_lc (i_list e_var) (g_tup (gs_cons g_name (gs_cons g_name gs_nil))) t_yes e_var)) a_nil)) (a_cons (e_cb DO.c_minL (a_cons (e_f (f_lc (i_list e_var) (g_tup (gs_cons g_name (gs_cons g_name gs_nil))) t_yes e_var)) a_nil)) a_nil))) (g_tup (gs_cons g_name (gs_cons g_name gs_nil)))) (s_ret (e_cb c_tupleOf (a_cons (e_cb DO.c_sortQ (a_cons (e_f (f_lc (i_list e_var) (g_tup (gs_cons g_name (gs_cons g_name gs_nil))) t_yes (e_tup (a_cons (e_op o_sub e_var e_var) (a_cons (e_op o_sub e_var e_var) a_nil))))) a_nil)) a_nil)))), ?_⟩)
  clear hr hg
  intro ds Q h
  unfold S_laid at h
  split at h
  · obtain ⟨L, rfl, l0, l1, h⟩ := h
    rw [show startG N_laid.length [.l (L.map pt)] = [.d (.l (L.map pt)), .u, .u, .u, .u] from rfl]
    have sz : (L.map pt).length ≤ 100000 := by rw [List.length_map]; omega
    refine ⟨sz, fun _ => true, fun k d => d = .i (L.getD k (0, 0)).1, fun k x hx => ?_, fun ys hs => ?_⟩
    · obtain ⟨hk, rfl⟩ := getpt hx
      exact ⟨rfl, rfl, fun _ => rfl⟩
    have e1 := selmap (f := fun p => .i p.1) hs (by rw [List.length_map])
    subst e1
    refine ⟨L.map (·.1), by rw [List.map_map]; rfl, by rw [List.length_map]; exact l0, fun l hl hm => ?_⟩
    refine ⟨sz, fun _ => true, fun k d => d = .i (L.getD k (0, 0)).2, fun k x hx => ?_, fun ys hs => ?_⟩
    · obtain ⟨hk, rfl⟩ := getpt hx
      exact ⟨rfl, rfl, fun _ => rfl⟩
    have e1 := selmap (f := fun p => .i p.2) hs (by rw [List.length_map])
    subst e1
    refine ⟨L.map (·.2), by rw [List.map_map]; rfl, by rw [List.length_map]; exact l0, fun t ht hm2 => ⟨by show 2 ≤ 100000; decide, rfl, ?_⟩⟩
    dsimp only [wgName, put]
    refine ⟨sz, fun _ => true, fun k d => d = pt ((L.getD k (0, 0)).1 - l, (L.getD k (0, 0)).2 - t), fun k x hx => ?_, fun ys hs => ?_⟩
    · obtain ⟨hk, rfl⟩ := getpt hx
      exact ⟨rfl, rfl, fun _ => ⟨by show 2 ≤ 100000; decide, rfl⟩⟩
    have e1 := selmap (f := fun p => pt (p.1 - l, p.2 - t)) hs (by rw [List.length_map])
    subst e1
    refine ⟨L.map fun p => (p.1 - l, p.2 - t), by rw [List.map_map]; rfl, fun L' pm pw => ?_⟩
    obtain ⟨p, hp, ep⟩ := List.mem_map.mp hl
    obtain ⟨q, hq, eq⟩ := List.mem_map.mp ht
    refine h L' ⟨-l, -t, pm, pw, fun p hp => ?_, ?_, ?_⟩
    · obtain ⟨q, hq, rfl⟩ := List.mem_map.mp (pm.mem_iff.mp hp)
      have := hm _ (List.mem_map_of_mem (f := (·.1)) hq)
      have := hm2 _ (List.mem_map_of_mem (f := (·.2)) hq)
      exact ⟨by show 0 ≤ q.1 - l; omega, by show 0 ≤ q.2 - t; omega⟩
    · exact ⟨_, pm.mem_iff.mpr (List.mem_map_of_mem hp), by show p.1 - l = 0; omega⟩
    · exact ⟨_, pm.mem_iff.mpr (List.mem_map_of_mem hq), by show q.2 - t = 0; omega⟩
  · exact h.elim
theorem inOwn_of {R : List Pr} {q : Pr} {Q : D → Prop} (h : Q (.b (decide (q ∉ R)))) : inOwn true (pt q) (R.map pt) Q :=
  ⟨tp q, R.map tp, rfl, pyA_pt R, shp1, DO.shp, by rw [any_tp, Bool.true_xor, show (!decide (q ∈ R)) = decide (q ∉ R) by simp]; exact h⟩
/-- cells found in k turns -/
def Fnd (F : List Pr) (k : Nat) : Prop := F ≠ [] ∧ F.length ≤ k + 1 ∧ F.Nodup ∧ ∀ p ∈ F, -(2 * k : Int) ≤ p.1 ∧ p.1 ≤ 2 * k ∧ -(2 * k : Int) ≤ p.2 ∧ p.2 ≤ 2 * k
theorem fnd_0 : Fnd [(0, 0)] 0 := ⟨by simp, by decide, by simp, fun p hp => by rw [List.mem_singleton.mp hp]; decide⟩
theorem Fnd.same {F : List Pr} {k : Nat} (h : Fnd F k) : Fnd F (k + 1) := ⟨h.1, by have := h.2.1; omega, h.2.2.1, fun p hp => by have := h.2.2.2 p hp; omega⟩
theorem Fnd.more {F : List Pr} {k : Nat} {p : Pr} {a b : Int} (h : Fnd F k) (hp : p ∈ F) (ha : -2 ≤ a ∧ a ≤ 2) (hb : -2 ≤ b ∧ b ≤ 2) (n : (p.1 + a, p.2 + b) ∉ F) : Fnd (F ++ [(p.1 + a, p.2 + b)]) (k + 1) := by
  refine ⟨by simp, by rw [List.length_append]; have := h.2.1; show F.length + 1 ≤ _; omega, ?_, fun q hq => ?_⟩
  · rw [List.nodup_append]
    refine ⟨h.2.2.1, by simp, fun x hx y hy e => ?_⟩
    rw [List.mem_singleton.mp hy] at e
    exact n (e ▸ hx)
  · rcases List.mem_append.mp hq with hq | hq
    · have := h.2.2.2 q hq
      omega
    · rw [List.mem_singleton.mp hq]
      have := h.2.2.2 p hp
      show -(2 * ((k + 1 : Nat) : Int)) ≤ p.1 + a ∧ p.1 + a ≤ 2 * ((k + 1 : Nat) : Int) ∧ -(2 * ((k + 1 : Nat) : Int)) ≤ p.2 + b ∧ p.2 + b ≤ 2 * ((k + 1 : Nat) : Int)
      omega
theorem top_of {L : List Pr} (f : Pr → Int) (ne : L ≠ []) (nn : ∀ p ∈ L, 0 ≤ f p ∧ f p ≤ 50) : ∃ w : Nat, w ≤ 100 ∧ (∃ p ∈ L, f p + 1 = w) ∧ ∀ p ∈ L, f p < w := by
  induction L with
  | nil => exact absurd rfl ne
  | cons a L ih =>
    have ha := nn a (List.mem_cons_self ..)
    by_cases e : L = []
    · subst e
      refine ⟨(f a).toNat + 1, by omega, ⟨a, List.mem_cons_self .., by omega⟩, fun p hp => ?_⟩
      rw [List.mem_singleton.mp hp]
      omega
    · obtain ⟨w, h1, ⟨p, hp, e1⟩, h2⟩ := ih e fun p hp => nn p (List.mem_cons_of_mem _ hp)
      by_cases c : f a < w
      · refine ⟨w, h1, ⟨p, List.mem_cons_of_mem _ hp, e1⟩, fun q hq => ?_⟩
        rcases List.mem_cons.mp hq with rfl | hq
        · exact c
        · exact h2 q hq
      · refine ⟨(f a).toNat + 1, by omega, ⟨a, List.mem_cons_self .., by omega⟩, fun q hq => ?_⟩
        rcases List.mem_cons.mp hq with rfl | hq
        · omega
        · have := h2 q hq
          omega
/-- what _law_spots tells -/
def Spots (L : List Pr) (w h : Nat) : Prop := Grid L w h ∧ Norm L ∧ L.length ≤ 4 ∧ ∀ p ∈ L, p.1 ≤ 12 ∧ p.2 ≤ 12
def S_spots : List D → (D → Prop) → Prop := fun ds Q => match ds with
  | [.p 1, .i n] => (1 ≤ n ∧ n ≤ 4) ∧ ∀ L w h, Spots L w h → Q (.t (L.map pt))
  | _ => False
theorem len_spots : ∀ ds P, S_spots ds P → ds.length = P_spots.length := fun ds P h => by
  unfold S_spots at h
  split at h <;> first | rfl | exact h.elim
theorem d_spots (Df : DefIn K mg "_law_spots" s_spots P_spots) (T : Txt mg) (D_take : DefOk P w K mg base "_law_take" 1 P_take (spD K S_take)) (D_of : DOk P w K mg base "_law_of" s_of 2 P_of S_of) (D_laid : DOk P w K mg base "_law_laid" s_laid 1 P_laid S_laid) : DOk P w K mg base "_law_spots" s_spots 3 P_spots S_spots := by
  have SC := sc_spots
  refine dok (k := 2) Df sc_spots (len_spots) (body := fun f cdv A outer s H E hr hg => ⟨_, _, (pss_cons (ps_set (i := 2) SC.nd rfl (Or.inl rfl) (pe_lst (pa_cons (pe_tup (pa_cons pe_int (pa_cons pe_int pa_nil))) pa_nil))) (pss_cons (ps_for PassesOwn.never rfl (pi_range1 (by rfl) T.z_range (pa_cons (pe_callD D_take.d (hr.mono (by decide)) hg (pa_cons (pv 0) (pa_cons (pv 1) pa_nil))) pa_nil)) (pg_name (i := 3) SC.nd rfl (Or.inl rfl)) (pss_cons (ps_asg (pe_callD D_of.d (hr.mono (by decide)) hg (pa_cons (pv 0) (pa_cons (pv 2) pa_nil))) (kx_pgTup (n := 2) K rfl (pgs_cons (pg_name (i := 4) SC.nd rfl (Or.inl rfl)) (pgs_cons (pg_name (i := 5) SC.nd rfl (Or.inl rfl)) pgs_nil)) (by rfl))) (pss_cons (ps_set (i := 6) SC.nd rfl (Or.inl rfl) (pe_callD D_of.d (hr.mono (by decide)) hg (pa_cons (pv 0) (pa_cons (pe_lst (pa_cons (pe_tup (pa_cons pe_int (pa_cons pe_int pa_nil))) (pa_cons (pe_tup (pa_cons pe_int (pa_cons pe_int pa_nil))) (pa_cons (pe_tup (pa_cons (pe_un un_neg pe_int) (pa_cons pe_int pa_nil))) (pa_cons (pe_tup (pa_cons pe_int (pa_cons (pe_un un_neg pe_int) pa_nil))) (pa_cons (pe_tup (pa_cons pe_int (pa_cons pe_int pa_nil))) (pa_cons (pe_tup (pa_cons pe_int (pa_cons pe_int pa_nil))) (pa_cons (pe_tup (pa_cons pe_int (pa_cons pe_int pa_nil))) (pa_cons (pe_tup (pa_cons pe_int (pa_cons pe_int pa_nil))) pa_nil))))))))) pa_nil)))) (pss_cons (ps_set (i := 6) SC.nd rfl (Or.inl rfl) (pe_ifExp (PW.pt (pw_or (pt_cmpR op_eq (pe_callD D_take.d (hr.mono (by decide)) hg (pa_cons (pv 0) (pa_cons pe_int pa_nil))) pe_int (nomark _)) (pw_or1 (pt_cmpR (kx_notInD K hr.u65) (pv 6) (pe_lst (pa_cons (pe_tup (pa_cons pe_int (pa_cons pe_int pa_nil))) (pa_cons (pe_tup (pa_cons pe_int (pa_cons pe_int pa_nil))) pa_nil))) (by with_unfolding_all rfl))))) (pv 6) (pe_tup (pa_cons pe_int (pa_cons pe_int pa_nil))))) (pss_one (ps_if (pt_cmpR (kx_notInD K hr.u65) (pe_tup (pa_cons (pe_op op_add (pv 4) (pe_ix (kx_ixT K) (pv 6) pe_int (fun _ _ => rfl))) (pa_cons (pe_op op_add (pv 5) (pe_ix (kx_ixT K) (pv 6) pe_int (fun _ _ => rfl))) pa_nil))) (pv 2) (by with_unfolding_all rfl)) (pss_one (ps_expr (pe_bm PySem.F.plainAttrs_list PySem.F.slot_list_append PySem.F.type_list_append mt_append (pv 2) (pa_cons (pe_tup (pa_cons (pe_op op_add (pv 4) (pe_ix (kx_ixT K) (pv 6) pe_int (fun _ _ => rfl))) (pa_cons (pe_op op_add (pv 5) (pe_ix (kx_ixT K) (pv 6) pe_int (fun _ _ => rfl))) pa_nil))) pa_nil)))) pss_nil)))))) (pss_one (ps_ret (pe_callD D_laid.d (hr.mono (by decide)) hg (pa_cons (pv 2) pa_nil)))))), (s_seq (s_asgO (f_lst (a_cons (e_tup (a_cons e_int (a_cons e_int a_nil))) a_nil))) (s_seq (s_for (i_rng1 (a_cons (e_call (a_cons e_var (a_cons e_var a_nil))) a_nil)) g_name (s_seq (s_asg (DO.e_callO (k := 2) e_var) (g_tup (gs_cons g_name (gs_cons g_name gs_nil)))) (s_seq (s_asg (e_call (a_cons e_var (a_cons (e_f (f_lst (a_cons (e_tup (a_cons e_int (a_cons e_int a_nil))) (a_cons (e_tup (a_cons e_int (a_cons e_int a_nil))) (a_cons (e_tup (a_cons (e_un u_neg e_int) (a_cons e_int a_nil))) (a_cons (e_tup (a_cons e_int (a_cons (e_un u_neg e_int) a_nil))) (a_cons (e_tup (a_cons e_int (a_cons e_int a_nil))) (a_cons (e_tup (a_cons e_int (a_cons e_int a_nil))) (a_cons (e_tup (a_cons e_int (a_cons e_int a_nil))) (a_cons (e_tup (a_cons e_int (a_cons e_int a_nil))) a_nil)))))))))) a_nil))) g_name) (s_seq (s_asg (e_if (t_or (t_test (e_op o_eqS (e_call (a_cons e_var (a_cons e_int a_nil))) e_int)) (t_test (e_op o_notInD e_var (e_f (f_lst (a_cons (e_tup (a_cons e_int (a_cons e_int a_nil))) (a_cons (e_tup (a_cons e_int (a_cons e_int a_nil))) a_nil))))))) e_var (e_tup (a_cons e_int (a_cons e_int a_nil)))) g_name) (s_if (t_test (e_notInO (k := 2) (e_tup (a_cons (e_op o_add e_var (e_op o_ixT e_var e_int)) (a_cons (e_op o_add e_var (e_op o_ixT e_var e_int)) a_nil))))) (s_app (e_tup (a_cons (e_op o_add e_var (e_op o_ixT e_var e_int)) (a_cons (e_op o_add e_var (e_op o_ixT e_var e_int)) a_nil)))) s_next))))) (s_frz (k := 2) (s_ret (e_call (a_cons e_var a_nil)))))), ?_⟩)
  clear hr hg
  intro ds Q h
  unfold S_spots at h
  split at h
  · rename_i n
    obtain ⟨⟨n1, n9⟩, h⟩ := h
    rw [show startG N_spots.length [.p 1, .i n] = [.d (.p 1), .d (.i n), .u, .u, .u, .u, .u] from rfl]
    refine ⟨by show 2 ≤ 100000; decide, by show 1 ≤ 100000; decide, ?_⟩
    dsimp only [wgName, put]
    refine ⟨⟨by omega, by omega⟩, fun r r1 r2 => ⟨⟨by omega, by omega⟩, ?_⟩⟩
    refine ⟨fun k Γ => ∃ F a3 a4 a5 a6, Γ = [.d (.p 1), .d (.i n), .ol (F.map pt), a3, a4, a5, a6] ∧ Fnd F k, ?_, ?_, ?_⟩
    · exact ⟨[(0, 0)], _, _, _, _, rfl, fnd_0⟩
    · rintro k x Γ' hx ⟨F, a3, a4, a5, a6, rfl, G⟩
      obtain ⟨hk, rfl⟩ := rngD_get' hx
      have kr : k < 4 := by omega
      dsimp only [wgName, put]
      obtain ⟨g1, g2, g3, g4⟩ := id G
      refine ⟨⟨by rw [List.length_map]; exact List.length_pos_iff.mpr g1, by rw [List.length_map]; omega⟩, fun x hx => ?_⟩
      obtain ⟨p, hp, rfl⟩ := List.mem_map.mp hx
      refine ⟨p, rfl, rfl, ?_⟩
      dsimp only [wgName, put]
      have eight : ∀ x : D, x ∈ ([.t [.i 1, .i 0], .t [.i 0, .i 1], .t [.i (-1), .i 0], .t [.i 0, .i (-1)], .t [.i 1, .i 0], .t [.i 0, .i 1], .t [.i 2, .i 0], .t [.i 1, .i 1]] : List D) → ∃ a b : Int, x = pt (a, b) ∧ (-2 ≤ a ∧ a ≤ 2) ∧ (-2 ≤ b ∧ b ≤ 2) := by
        intro x hx
        simp only [List.mem_cons, List.not_mem_nil, or_false] at hx
        rcases hx with rfl | rfl | rfl | rfl | rfl | rfl | rfl | rfl
        · exact ⟨1, 0, rfl, by decide, by decide⟩
        · exact ⟨0, 1, rfl, by decide, by decide⟩
        · exact ⟨-1, 0, rfl, by decide, by decide⟩
        · exact ⟨0, -1, rfl, by decide, by decide⟩
        · exact ⟨1, 0, rfl, by decide, by decide⟩
        · exact ⟨0, 1, rfl, by decide, by decide⟩
        · exact ⟨2, 0, rfl, by decide, by decide⟩
        · exact ⟨1, 1, rfl, by decide, by decide⟩
      repeat (first | refine ⟨by show 2 ≤ 100000; decide, ?_⟩ | refine ⟨by show 8 ≤ 100000; decide, ?_⟩)
      refine ⟨⟨by decide, by decide⟩, fun x hx => ?_⟩
      obtain ⟨a, b, rfl, ha, hb⟩ := eight x hx
      dsimp only [wgName, put]
      have last : ∀ a b : Int, (-2 ≤ a ∧ a ≤ 2) → (-2 ≤ b ∧ b ≤ 2) → (wIf (wTest (wInO true 2 (wTup (wCons (wOp (wI20 fun a b => D.i (a + b)) (wVar 4) (wOp wIxT (wVar 6) (wC (D.i 0)))) (wCons (wOp (wI20 fun a b => D.i (a + b)) (wVar 5) (wOp wIxT (wVar 6) (wC (D.i 1)))) wNil)))))
          (wApp 2 (wTup (wCons (wOp (wI20 fun a b => D.i (a + b)) (wVar 4) (wOp wIxT (wVar 6) (wC (D.i 0)))) (wCons (wOp (wI20 fun a b => D.i (a + b)) (wVar 5) (wOp wIxT (wVar 6) (wC (D.i 1)))) wNil)))) wNext)
          { nx := fun Γ => ∃ F a3 a4 a5 a6, Γ = [Sl.d (D.p 1), Sl.d (D.i n), Sl.ol (List.map pt F), a3, a4, a5, a6] ∧ Fnd F (k + 1), rt := Q, bk := wFrz 2 (wRet (wCall S_laid (wCons (wVar 2) wNil))) { nx := fun x => Q D.n, rt := Q },
            ct := fun Γ => ∃ F a3 a4 a5 a6, Γ = [Sl.d (D.p 1), Sl.d (D.i n), Sl.ol (List.map pt F), a3, a4, a5, a6] ∧ Fnd F (k + 1) }
          [Sl.d (D.p 1), Sl.d (D.i n), Sl.ol (List.map pt F), Sl.d (D.i (0 + (k : Int))), Sl.d (D.i p.1), Sl.d (D.i p.2), Sl.d (pt (a, b))] := by
        intro a b ha hb
        refine ⟨_, rfl, _, rfl, by show 2 ≤ 100000; decide, ?_⟩
        refine inOwn_of (R := F) (q := (p.1 + a, p.2 + b)) ⟨fun z => ?_, fun z => ?_⟩
        · refine ⟨by rw [List.length_map]; omega, _, rfl, _, rfl, by show 2 ≤ 100000; decide, F ++ [(p.1 + a, p.2 + b)], .d (.i (0 + (k : Int))), .d (.i p.1), .d (.i p.2), .d (pt (a, b)), ?_, G.more hp ha hb (of_decide_eq_true z)⟩
          rw [List.map_append]
          rfl
        · exact ⟨F, _, _, _, _, rfl, G.same⟩
      refine ⟨⟨by decide, by decide⟩, fun r2 _ _ => ⟨fun z => ⟨fun _ => last a b ha hb, fun z => nomatch z⟩, fun z => ?_⟩⟩
      exact ⟨by show 2 ≤ 100000; decide, by show 2 ≤ 100000; decide, by show 2 ≤ 100000; decide, notIn_of (X := [(2, 0), (1, 1)]) (p := (a, b)) ⟨fun _ => last a b ha hb, fun _ => ⟨by show 2 ≤ 100000; decide, last 1 0 (by decide) (by decide)⟩⟩⟩
    · rintro Γ' ⟨F, a3, a4, a5, a6, rfl, G⟩
      obtain ⟨g1, g2, g3, g4⟩ := id G
      rw [rngD_len] at g2 g4
      refine ⟨F, rfl, List.length_pos_iff.mpr g1, by omega, fun L' z => ?_⟩
      obtain ⟨a, b, pm, pw, nn, zx, zy⟩ := id z
      have ne : L' ≠ [] := fun e => by
        obtain ⟨q, hq, _⟩ := zx
        rw [e] at hq
        cases hq
      have nd : L'.Nodup := by
        refine pm.nodup_iff.mpr (List.pairwise_map.mpr (List.Pairwise.imp (fun {x y} m e => m ?_) g3))
        injection e with e1 e2
        exact Prod.ext (by omega) (by omega)
      have bd : ∀ p ∈ L', p.1 ≤ 12 ∧ p.2 ≤ 12 := fun p hp => by
        obtain ⟨q, hq, rfl⟩ := List.mem_map.mp (pm.mem_iff.mp hp)
        obtain ⟨u, hu, u0⟩ := zx
        obtain ⟨v, hv, v0⟩ := zy
        obtain ⟨u', hu', rfl⟩ := List.mem_map.mp (pm.mem_iff.mp hu)
        obtain ⟨v', hv', rfl⟩ := List.mem_map.mp (pm.mem_iff.mp hv)
        have q1 := g4 q hq
        have q2 := g4 u' hu'
        have q3 := g4 v' hv'
        have u0 : u'.1 + a = 0 := u0
        have v0 : v'.2 + b = 0 := v0
        exact ⟨by show q.1 + a ≤ 12; omega, by show q.2 + b ≤ 12; omega⟩
      obtain ⟨w, w1, w2, w3⟩ := top_of (·.1) ne fun p hp => ⟨(nn p hp).1, by have := (bd p hp).1; omega⟩
      obtain ⟨h', h1, h2, h3⟩ := top_of (·.2) ne fun p hp => ⟨(nn p hp).2, by have := (bd p hp).2; omega⟩
      refine h L' w h' ⟨⟨nd, fun p hp => ⟨(nn p hp).1, w3 p hp, (nn p hp).2, h3 p hp⟩, w2, h2, w1, h1⟩, ⟨pw, zx, zy⟩, ?_, bd⟩
      rw [pm.length_eq, List.length_map]
      omega
  · exact h.elim
def S_page : List D → (D → Prop) → Prop := fun ds Q => match ds with
  | [.t xs] => ∃ (L : List Pr) (w h : Nat), xs = L.map pt ∧ Grid L w h ∧ L.length ≤ 9 ∧ Q (.s (pageOf L w h))
  | _ => False
theorem len_page : ∀ ds P, S_page ds P → ds.length = P_page.length := fun ds P h => by
  unfold S_page at h
  split at h <;> first | rfl | exact h.elim
theorem d_page (Df : DefIn K mg "_law_page" s_page P_page) (T : Txt mg) : DOk P w K mg base "_law_page" s_page 1 P_page S_page := by
  have SC := sc_page
  refine dok (k := 0) Df sc_page (len_page) (body := fun f cdv A outer s H E hr hg => ⟨_, _, (pss_cons (ps_par (i := 1) (j := 2) (by rfl) SC.nd rfl rfl (by decide) rfl rfl (pa_cons (pe_op op_add (pe_callB (DO.kx_maxL K rfl) (by rfl) T.z_max (by decide +kernel) (pa_cons (pe_lc (own := [("_law_x", 3), ("_law_y", 4)]) (g := (gTup K 2 (gCons (gName 3) (gCons (gName 4) gNil)))) (tt := tYes) (by rfl) SC.nd (kx_piTup K (pv 0)) (blkOk_by (own := [("_law_x", 3), ("_law_y", 4)]) (N := N_page) (sc := defScope s_page) (by decide +kernel)) (fun _ _ _ _ _ => (kx_pgTup (n := 2) K rfl (pgs_cons (pg_name (i := 3) SC.nd rfl (Or.inl rfl)) (pgs_cons (pg_name (i := 4) SC.nd rfl (Or.inl rfl)) pgs_nil)) (by rfl))) (fun _ _ _ _ _ => pts_nil) (fun _ _ _ _ _ => (pv 3))) pa_nil)) pe_int) (pa_cons (pe_op op_add (pe_callB (DO.kx_maxL K rfl) (by rfl) T.z_max (by decide +kernel) (pa_cons (pe_lc (own := [("_law_x", 3), ("_law_y", 4)]) (g := (gTup K 2 (gCons (gName 3) (gCons (gName 4) gNil)))) (tt := tYes) (by rfl) SC.nd (kx_piTup K (pv 0)) (blkOk_by (own := [("_law_x", 3), ("_law_y", 4)]) (N := N_page) (sc := defScope s_page) (by decide +kernel)) (fun _ _ _ _ _ => (kx_pgTup (n := 2) K rfl (pgs_cons (pg_name (i := 3) SC.nd rfl (Or.inl rfl)) (pgs_cons (pg_name (i := 4) SC.nd rfl (Or.inl rfl)) pgs_nil)) (by rfl))) (fun _ _ _ _ _ => pts_nil) (fun _ _ _ _ _ => (pv 4))) pa_nil)) pe_int) pa_nil)) (by rfl)) (pss_cons (ps_set (i := 5) SC.nd rfl (Or.inl rfl) (pe_lst pa_nil)) (pss_cons (ps_for PassesOwn.never rfl (pi_range1 (by rfl) T.z_range (pa_cons (pv 2) pa_nil)) (pg_name (i := 4) SC.nd rfl (Or.inr rfl)) (pss_one (ps_expr (pe_bm PySem.F.plainAttrs_list PySem.F.slot_list_append PySem.F.type_list_append mt_append (pv 5) (pa_cons (DO.kx_join K pe_str (pe_lc (own := [("_law_x", 3)]) (g := (gName 3)) (tt := tYes) (by rfl) SC.nd (pi_range1 (by rfl) T.z_range (pa_cons (pv 1) pa_nil)) (blkOk_by (own := [("_law_x", 3)]) (N := N_page) (sc := defScope s_page) (by decide +kernel)) (fun _ _ _ _ _ => (pg_name (i := 3) SC.nd rfl (Or.inl rfl))) (fun _ _ _ _ _ => pts_nil) (fun _ _ _ _ _ => (pe_ifExp (pt_cmpR (DO.kx_inT K hr.u65) (pe_tup (pa_cons (pv 3) (pa_cons (pv 4) pa_nil))) (pv 0) (by with_unfolding_all rfl)) pe_str pe_str)))) pa_nil))))) (pss_one (ps_ret (DO.kx_join K pe_str (pv 5))))))), (s_seq (s_par (a_cons (e_op o_add (e_cb DO.c_maxL (a_cons (e_f (f_lc (i_tup e_var) (g_tup (gs_cons g_name (gs_cons g_name gs_nil))) t_yes e_var)) a_nil)) e_int) (a_cons (e_op o_add (e_cb DO.c_maxL (a_cons (e_f (f_lc (i_tup e_var) (g_tup (gs_cons g_name (gs_cons g_name gs_nil))) t_yes e_var)) a_nil)) e_int) a_nil))) (s_seq (s_asgO (f_lst a_nil)) (s_seq (s_for (i_rng1 (a_cons e_var a_nil)) g_name (s_app (DO.e_join e_str (e_f (f_lc (i_rng1 (a_cons e_var a_nil)) g_name t_yes (e_if (t_test (e_op DO.o_inT (e_tup (a_cons e_var (a_cons e_var a_nil))) e_var)) e_str e_str)))))) (s_frz (k := 5) (s_ret (DO.e_join e_str e_var)))))), ?_⟩)
  clear hr hg
  intro ds Q h
  unfold S_page at h
  split at h
  · obtain ⟨L, w, h', rfl, g, l9, h⟩ := h
    rw [show startG N_page.length [.t (L.map pt)] = [.d (.t (L.map pt)), .u, .u, .u, .u, .u] from rfl]
    have dot : (Str.ofString "." : Str) = ⟨#[46]⟩ := by decide +kernel
    have hash : (Str.ofString "#" : Str) = ⟨#[35]⟩ := by decide +kernel
    have nl : (Str.ofString "\n" : Str) = ⟨#[10]⟩ := by decide +kernel
    have em : (Str.ofString "" : Str) = ⟨#[]⟩ := by decide +kernel
    rw [dot, hash, nl, em]
    have sz : (L.map pt).length ≤ 100000 := by rw [List.length_map]; omega
    have l0 : 0 < L.length := List.length_pos_iff.mpr g.ne
    have ww := g.w100
    have hh := g.h100
    refine ⟨sz, fun _ => true, fun k d => d = .i (L.getD k (0, 0)).1, fun k x hx => ?_, fun ys hs => ?_⟩
    · obtain ⟨hk, rfl⟩ := getpt hx
      exact ⟨rfl, rfl, fun _ => rfl⟩
    have e1 := selmap (f := fun p => .i p.1) hs (by rw [List.length_map])
    subst e1
    refine ⟨L.map (·.1), by rw [List.map_map]; rfl, by rw [List.length_map]; exact l0, fun l hl hm => ?_⟩
    refine ⟨sz, fun _ => true, fun k d => d = .i (L.getD k (0, 0)).2, fun k x hx => ?_, fun ys hs => ?_⟩
    · obtain ⟨hk, rfl⟩ := getpt hx
      exact ⟨rfl, rfl, fun _ => rfl⟩
    have e1 := selmap (f := fun p => .i p.2) hs (by rw [List.length_map])
    subst e1
    refine ⟨L.map (·.2), by rw [List.map_map]; rfl, by rw [List.length_map]; exact l0, fun t ht hm2 => ?_⟩
    have lw : l + 1 = (w : Int) := by
      obtain ⟨p, hp, ep⟩ := g.right
      obtain ⟨q, hq, eq⟩ := List.mem_map.mp hl
      have h1 := hm _ (List.mem_map_of_mem (f := (·.1)) hp)
      have h2 := g.ins q hq
      omega
    have th : t + 1 = (h' : Int) := by
      obtain ⟨p, hp, ep⟩ := g.low
      obtain ⟨q, hq, eq⟩ := List.mem_map.mp ht
      have h1 := hm2 _ (List.mem_map_of_mem (f := (·.2)) hp)
      have h2 := g.ins q hq
      omega
    dsimp only [wgName, put]
    refine ⟨by show 0 ≤ 100000; decide, ?_⟩
    dsimp only [wgName, put]
    refine ⟨⟨by omega, by omega⟩, fun k Γ => ∃ a3 a4, Γ = [.d (.t (L.map pt)), .d (.i (l + 1)), .d (.i (t + 1)), a3, a4, .ol ((List.range k).map fun (y : Nat) => D.s (rowS L w (y : Int)))], ⟨_, _, rfl⟩, ?_, ?_⟩
    · rintro k x Γ' hx ⟨a3, a4, rfl⟩
      obtain ⟨hk, rfl⟩ := rngD_get' hx
      rw [Int.zero_add]
      dsimp only [wgName, put]
      refine ⟨by rw [List.length_map, List.length_range]; omega, ?_⟩
      refine ⟨⟨by omega, by omega⟩, by rw [rngD_len]; omega, fun _ => true, fun j d => d = .s ⟨#[if ((j : Int), (k : Int)) ∈ L then 35 else 46]⟩, fun j z hz => ?_, fun ys hs => ?_⟩
      · obtain ⟨hj, rfl⟩ := rngD_get' hz
        rw [Int.zero_add]
        refine ⟨rfl, fun _ => ⟨by show 2 ≤ 100000; decide, L, ((j : Int), (k : Int)), rfl, rfl, ⟨fun z => ?_, fun z => ?_⟩⟩⟩
        · have z : decide (((j : Int), (k : Int)) ∈ L) = true := by rw [← z, Bool.false_xor]
          show D.s ⟨#[35]⟩ = D.s ⟨#[if ((j : Int), (k : Int)) ∈ L then 35 else 46]⟩
          rw [if_pos (of_decide_eq_true z)]
        · have z : decide (((j : Int), (k : Int)) ∈ L) = false := by rw [← z, Bool.false_xor]
          show D.s ⟨#[46]⟩ = D.s ⟨#[if ((j : Int), (k : Int)) ∈ L then 35 else 46]⟩
          rw [if_neg (of_decide_eq_false z)]
      · have ew : (l + 1).toNat = w := by omega
        have e := hs.map
        rw [rngD_len, ew] at e
        subst e
        refine ⟨(List.range w).map fun (j : Nat) => (⟨#[if ((j : Int), (k : Int)) ∈ L then 35 else 46]⟩ : Str), by rw [List.map_map]; rfl, ?_, ?_⟩
        · rw [sum_const 1 (fun x : Str => x.length) _ fun x hx => ?_]
          · rw [List.length_map, List.length_range]
            show w * 1 + w * 0 ≤ _
            omega
          · obtain ⟨j, _, rfl⟩ := List.mem_map.mp hx
            rfl
        · have er : Str.join ⟨#[]⟩ ((List.range w).map fun (j : Nat) => (⟨#[if ((j : Int), (k : Int)) ∈ L then 35 else 46]⟩ : Str)) = rowS L w (k : Int) := by
            apply StrM.str_ext
            rw [PageM.join_nil, List.map_map]
            show ((List.range w).map fun (j : Nat) => [if ((j : Int), (k : Int)) ∈ L then 35 else 46]).flatten = rowL L w (k : Int)
            unfold rowL
            rw [← List.flatMap_def]
            exact List.map_eq_flatMap.symm
          rw [er]
          refine ⟨a3, .d (.i (k : Int)), ?_⟩
          rw [List.range_succ, List.map_append]
          rfl
    · rintro Γ' ⟨a3, a4, rfl⟩
      rw [rngD_len, show (t + 1).toNat = h' by omega]
      refine ⟨rowsS L w h', ?_, ?_, h⟩
      · unfold rowsS
        rw [List.map_map]
        rfl
      · rw [rows_sum, rows_len]
        have := Nat.mul_le_mul hh ww
        show h' * w + h' * 1 ≤ _
        omega
  · exact h.elim
/-- a state of the layers, told -/
def E2 (L : List Pr) (w h : Int) (A : List Nat) : D := .t [.t ((holdsC L w h A).map pt), .t ((A.map (cellOf h)).map pt)]
theorem free_cells {L : List Pr} {w h : Int} (f : Fl w h) (A : List Nat) (n : Nat) (hn : n = (w * h).toNat) : (((List.range n).map (cellOf h)).filter fun c => decide (c ∉ holdsC L w h A)) = ((List.range n).filter (freeA (heldI L w h) A)).map (cellOf h) := by
  obtain ⟨w0, h0, wh⟩ := id f
  rw [List.filter_map]
  congr 1
  refine List.filter_congr fun q hq => ?_
  have rng : 0 ≤ (cellOf h q).1 ∧ 0 ≤ (cellOf h q).2 ∧ (cellOf h q).2 < h := ⟨Int.ediv_nonneg (by omega) (by omega), Int.emod_nonneg _ (by omega), Int.emod_lt_of_pos _ h0⟩
  have := holdsC_mem (L := L) w0 h0 (A := A) rng
  rw [cell_num h0] at this
  show decide (cellOf h q ∉ holdsC L w h A) = freeA (heldI L w h) A q
  unfold freeA
  rw [Bool.eq_iff_iff, decide_eq_true_iff, this]
  simp
theorem none_nil {n : Nat} {f : Nat → Bool} : noneB n f = true ↔ (List.range n).filter f = [] := by
  rw [none_iff, List.filter_eq_nil_iff]
  exact ⟨(fun a q hq z => by rw [a q (List.mem_range.mp hq)] at z; cases z), fun a q hq => by have := a q (List.mem_range.mpr hq); simpa using this⟩
theorem head_fst {n : Nat} {f : Nat → Bool} (z : ¬ noneB n f = true) : ((List.range n).filter f)[0]? = some (fst n f) := by
  have e : ((List.range n).filter f)[0]? = (List.range n).find? f := by rw [← List.head?_eq_getElem?, List.head?_filter]
  rw [e]
  unfold fst
  cases fd : (List.range n).find? f with
  | some k => rfl
  | none =>
    refine absurd (none_iff.mpr fun q hq => ?_) z
    have := List.find?_eq_none.mp fd q (List.mem_range.mpr hq)
    simpa using this
theorem cnt_pt (C : List Pr) (s : Pr) : SrtD.cntD (C.map pt) (pt s) = C.count s := by
  unfold SrtD.cntD
  rw [List.countP_map, List.count]
  refine List.countP_congr fun x _ => ?_
  simp only [Function.comp, decide_eq_true_iff, beq_iff_eq]
  exact ⟨fun e => pt_inj e, fun e => by rw [e]⟩
theorem double_iff {L : List Pr} {w h : Int} (w0 : 0 < w) (h0 : 0 < h) (A : List Nat) (p : Nat) : ((cellsP L w h p).filter fun s => decide (s ∈ holdsC L w h A) || decide (1 < SrtD.cntD ((cellsP L w h p).map pt) (pt s))) = [] ↔ (decide (heldI L w h p).Nodup && apart (heldI L w h) p A) = true := by
  have rng : ∀ s ∈ cellsP L w h p, 0 ≤ s.1 ∧ 0 ≤ s.2 ∧ s.2 < h := fun s hs => by
    obtain ⟨a, b, c, d⟩ := cells_rng w0 h0 hs
    exact ⟨a, c, d⟩
  have nd : (heldI L w h p).Nodup ↔ (cellsP L w h p).Nodup := by
    rw [held_cells, List.nodup_iff_pairwise_ne, List.nodup_iff_pairwise_ne, List.pairwise_map]
    exact ⟨fun a => a.imp fun {x y} n e => n (by rw [e]), fun a => List.Pairwise.imp_of_mem (fun {x y} hx hy n e => n (num_inj h0 (rng x hx) (rng y hy) e)) a⟩
  rw [List.filter_eq_nil_iff, Bool.and_eq_true, decide_eq_true_iff, nd, apart_iff]
  constructor
  · intro a
    refine ⟨List.nodup_iff_count.mpr fun s => ?_, fun q hq z => ?_⟩
    · by_cases m : s ∈ cellsP L w h p
      · have := a s m
        simp only [Bool.or_eq_true, decide_eq_true_iff, not_or] at this
        rw [cnt_pt] at this
        omega
      · rw [List.count_eq_zero.mpr m]
        omega
    · rw [held_cells] at hq
      obtain ⟨s, hs, rfl⟩ := List.mem_map.mp hq
      have := a s hs
      simp only [Bool.or_eq_true, decide_eq_true_iff, not_or] at this
      exact this.1 ((holdsC_mem w0 h0 (rng s hs)).mpr z)
  · rintro ⟨a, b⟩ s hs z
    simp only [Bool.or_eq_true, decide_eq_true_iff] at z
    rcases z with z | z
    · exact b _ (by rw [held_cells]; exact List.mem_map_of_mem hs) ((holdsC_mem w0 h0 (rng s hs)).mp z)
    · rw [cnt_pt] at z
      have := List.nodup_iff_count.mp a s
      omega
theorem lay_nd {n c : Nat} {held : Nat → List Nat} {br : Nat → List Nat} (hc : ∀ p, (held p).length = c) (hl : ∀ p q, q ∈ held p → q < n) : ∀ (t : Nat), ∀ A ∈ lay n held br t, (A.flatMap held).Nodup ∧ A.length = t
  | 0, A, hA => by
    rw [List.mem_singleton.mp hA]
    exact ⟨List.nodup_nil, rfl⟩
  | t + 1, A, hA => by
    obtain ⟨B, hB, hA⟩ := List.mem_flatMap.mp hA
    obtain ⟨n1, n2⟩ := lay_nd hc hl t B hB
    unfold kids at hA
    split at hA
    · cases hA
    · obtain ⟨p, hp, rfl⟩ := List.mem_map.mp hA
      have hp := (List.mem_filter.mp hp).2
      rw [Bool.and_eq_true, decide_eq_true_iff] at hp
      refine ⟨?_, by rw [List.length_append, n2]; rfl⟩
      rw [List.flatMap_append, List.nodup_append]
      refine ⟨n1, by simpa using hp.1, fun x hx y hy e => ?_⟩
      subst e
      exact apart_iff.mp hp.2 x (by simpa using hy) hx
theorem kids_len {n b : Nat} {held : Nat → List Nat} {br : Nat → List Nat} (hb : ∀ q, (br q).length ≤ b) (A : List Nat) : (kids n held br A).length ≤ b := by
  unfold kids
  split
  · exact Nat.zero_le _
  · rw [List.length_map]
    exact Nat.le_trans (List.length_filter_le _ _) (hb _)
theorem fm_len {α β : Type} {f : α → List β} {b : Nat} : ∀ {l : List α}, (∀ x ∈ l, (f x).length ≤ b) → (l.flatMap f).length ≤ l.length * b
  | [], _ => Nat.zero_le _
  | x :: l, h => by
    rw [List.flatMap_cons, List.length_append, List.length_cons, Nat.succ_mul]
    have := fm_len (l := l) fun y hy => h y (List.mem_cons_of_mem _ hy)
    have := h x (List.mem_cons_self ..)
    omega
theorem lay_few {n c : Nat} {held : Nat → List Nat} {br : Nat → List Nat} (n12 : n ≤ 12) (c1 : 1 ≤ c) (c24 : c ≤ 24) (hc : ∀ p, (held p).length = c) (hl : ∀ p q, q ∈ held p → q < n) (hb : ∀ q, (br q).length ≤ c) (t : Nat) : (lay n held br t).length ≤ 100 := by
  have up : ∀ t, (lay n held br t).length ≤ c ^ t := fun t => by
    induction t with
    | zero => exact Nat.le_refl 1
    | succ t ih =>
      refine Nat.le_trans (fm_len fun A _ => kids_len hb A) ?_
      rw [Nat.pow_succ]
      exact Nat.mul_le_mul_right c ih
  cases q : lay n held br t with
  | nil => exact Nat.zero_le _
  | cons A X =>
    rw [← q]
    obtain ⟨a1, a2⟩ := lay_nd hc hl t A (by rw [q]; exact List.mem_cons_self ..)
    have l2 : (A.flatMap held).length = A.length * c := by
      clear a1 a2 q
      induction A with
      | nil => simp
      | cons p A ih => rw [List.flatMap_cons, List.length_append, ih, hc, List.length_cons, Nat.succ_mul]; omega
    have := List.Nodup.length_le_of_subset a1 (l₂ := List.range n) fun x hx => by
      obtain ⟨p, _, hp⟩ := List.mem_flatMap.mp hx
      exact List.mem_range.mpr (hl p x hp)
    rw [l2, a2, List.length_range] at this
    have tn : t ≤ n / c := (Nat.le_div_iff_mul_le (by omega)).mpr this
    exact Nat.le_trans (up t) (Nat.le_trans (Nat.pow_le_pow_right c1 tn) (few_fill n n12 c c24 c1))
theorem inLays_len {n : Nat} {held : Nat → List Nat} {br : Nat → List Nat} (h : ∀ t, (lay n held br t).length ≤ 100) (k : Nat) : (inLays n held br k).length ≤ k * 100 := by
  unfold inLays
  have := fm_len (l := List.range k) (f := fun i => (lay n held br i).filter (fullA n held)) (b := 100) fun i _ => Nat.le_trans (List.length_filter_le _ _) (h i)
  rw [List.length_range] at this
  exact this
theorem inLays_succ {n : Nat} {held : Nat → List Nat} {br : Nat → List Nat} (k : Nat) : inLays n held br (k + 1) = inLays n held br k ++ (lay n held br k).filter (fullA n held) := by
  unfold inLays
  rw [List.range_succ, List.flatMap_append]
  simp
end
end K74
namespace K74
open PySem PySem.Spec PyProof.Rows L2 Evl Lay ErrX DL TE DO ShM PageM CovM BitP FlC
abbrev s_l_fillings : Stmt := top 109
abbrev N_l_fillings : List Str := ["_law_spots_here", "_law_w", "_law_h", "_law_layer", "_law_found", "_law_all_here", "_law_x", "_law_y", "_law_turn", "_law_later", "_law_held", "_law_places_here", "_law_free_here", "_law_spot", "_law_a", "_law_b", "_law_next_here", "_law_copy_here", "_law_i", "_law_j", "_law_doubled"]
abbrev P_l_fillings : List Str := ["_law_spots_here", "_law_w", "_law_h"]
theorem sc_l_fillings : FnScope N_l_fillings P_l_fillings (defScope s_l_fillings) := ⟨rfl, rfl, rfl, by decide +kernel, rfl, by decide +kernel, by decide +kernel⟩
section
variable {P : Program} {w : World} {K : PySem.W.Frag} {mg : Str → Option Value} {base : Heap} {CS : Addr}
theorem cell_at {M k j : Nat} (hj : j < M) : cellOf (M : Int) (k * M + j) = ((k : Int), (j : Int)) := by
  unfold cellOf
  rw [Int.natCast_add, Int.natCast_mul, Int.add_comm, Int.add_mul_ediv_right _ _ (by omega), Int.ediv_eq_zero_of_lt (by omega) (by omega), Int.zero_add, Int.add_mul_emod_self_right, Int.emod_eq_of_lt (by omega) (by omega)]
theorem srt_cells {M : Nat} (m0 : 0 < M) {A : List Nat} {L' : List Pr} (pm : L'.Perm (A.map (cellOf M))) (pw : L'.Pairwise DO.lexle) : L' = (srt A).map (cellOf M) := by
  refine (pm.trans ((srt_perm A).map _).symm).eq_of_pairwise (fun x y _ _ h1 h2 => DO.lexle_anti h1 h2) pw ?_
  rw [List.pairwise_map]
  refine (srt_asc A).imp fun {a b} h => ?_
  have h0 : 0 < (M : Int) := by omega
  show (a : Int) / M < (b : Int) / M ∨ ((a : Int) / M = (b : Int) / M ∧ (a : Int) % M ≤ (b : Int) % M)
  have sa := Int.mul_ediv_add_emod (a : Int) M
  have sb := Int.mul_ediv_add_emod (b : Int) M
  have le := Int.ediv_le_ediv h0 (show (a : Int) ≤ b by omega)
  rcases Int.lt_or_eq_of_le le with z | z
  · exact .inl z
  · rw [z] at sa
    exact .inr ⟨z, by omega⟩
def S_l_fillings : List D → (D → Prop) → Prop := fun ds Q => match ds with
  | [.t xs, .i w, .i h] => ∃ L : List Pr, xs = L.map pt ∧ 0 < L.length ∧ L.length ≤ 24 ∧ Fl w h ∧ w * h ≤ 12 ∧ ∀ d, IsDue L w h d → Q d
  | _ => False
theorem len_l_fillings : ∀ ds P, S_l_fillings ds P → ds.length = P_l_fillings.length := fun ds P h => by
  unfold S_l_fillings at h
  split at h <;> first | rfl | exact h.elim
theorem d_l_fillings (Df : DefIn K mg "_law_fillings" s_l_fillings P_l_fillings) (T : Txt mg) : DOk P w K mg base "_law_fillings" s_l_fillings 1 P_l_fillings S_l_fillings := by
  have SC := sc_l_fillings
  refine dok (k := 0) Df sc_l_fillings (len_l_fillings) (body := fun f cdv A outer s H E hr hg => ⟨_, _, (pss_cons (ps_par3 (i := 3) (j := 4) (l := 5) rfl SC.nd rfl rfl rfl (by decide) (by decide) (by decide) rfl rfl rfl (pa_cons (pe_lst (pa_cons (pe_tup (pa_cons (pe_tup pa_nil) (pa_cons (pe_tup pa_nil) pa_nil))) pa_nil)) (pa_cons (pe_lst pa_nil) (pa_cons (pe_lst pa_nil) pa_nil))) (by rfl)) (pss_cons (ps_for PassesOwn.never rfl (pi_range1 (by rfl) T.z_range (pa_cons (pv 1) pa_nil)) (pg_name (i := 6) SC.nd rfl (Or.inr rfl)) (pss_one (ps_set (i := 5) SC.nd rfl (Or.inl rfl) (pe_op op_cat (pv 5) (pe_lc (own := [("_law_y", 7)]) (g := (gName 7)) (tt := tYes) (by rfl) SC.nd (pi_range1 (by rfl) T.z_range (pa_cons (pv 2) pa_nil)) (blkOk_by (own := [("_law_y", 7)]) (N := N_l_fillings) (sc := defScope s_l_fillings) (by decide +kernel)) (fun _ _ _ _ _ => (pg_name (i := 7) SC.nd rfl (Or.inl rfl))) (fun _ _ _ _ _ => pts_nil) (fun _ _ _ _ _ => (pe_tup (pa_cons (pv 6) (pa_cons (pv 7) pa_nil))))))))) (pss_cons (ps_for PassesOwn.never rfl (pi_range1 (by rfl) T.z_range (pa_cons (pe_op op_add (pe_op op_mul (pv 1) (pv 2)) pe_int) pa_nil)) (pg_name (i := 8) SC.nd rfl (Or.inl rfl)) (pss_cons (ps_set (i := 9) SC.nd rfl (Or.inl rfl) (pe_lst pa_nil)) (pss_cons (ps_for PassesOwn.never rfl (kx_piList K (pv 3)) (kx_pgTup (n := 2) K rfl (pgs_cons (pg_name (i := 10) SC.nd rfl (Or.inr rfl)) (pgs_cons (pg_name (i := 11) SC.nd rfl (Or.inl rfl)) pgs_nil)) (by rfl)) (pss_cons (ps_setLc (i := 12) (own := [("_law_spot", 13)]) (g := (gName 13)) (by rfl) SC.nd rfl rfl (sw_true rfl rfl rfl (by decide +kernel)) (kx_piList K (pv 5)) (blkOk_by (own := [("_law_spot", 13)]) (N := N_l_fillings) (sc := defScope s_l_fillings) (by decide +kernel)) (fun _ _ _ _ _ => (pg_name (i := 13) SC.nd rfl (Or.inl rfl))) (fun _ _ _ _ _ => (pts_one (pt_cmpR (DO.kx_notInT K hr.u65) (pv 13) (pv 10) (by with_unfolding_all rfl)))) (fun _ _ _ _ _ => (pv 13))) (pss_cons (ps_if (pt_cmpR (kx_eqD K hr.units) (pv 12) (pe_lst pa_nil) (nomark _)) (pss_one (ps_expr (pe_bm PySem.F.plainAttrs_list PySem.F.slot_list_append PySem.F.type_list_append mt_append (pv 4) (pa_cons (pe_callTy (kx_tupleOf K) (by rfl) T.z_tuple (by decide +kernel) (pa_cons (pe_callB (DO.kx_sortQT K) (by rfl) T.z_sorted (by decide +kernel) (pa_cons (pv 11) pa_nil)) pa_nil)) pa_nil)))) pss_nil) (pss_one (ps_for PassesOwn.never rfl (pi_if (pt_cmpR (kx_neD K hr.units) (pv 12) (pe_lst pa_nil) (nomark _)) (kx_piTup K (pv 0)) (kx_piList K (pe_lst pa_nil))) (kx_pgTup (n := 2) K rfl (pgs_cons (pg_name (i := 14) SC.nd rfl (Or.inl rfl)) (pgs_cons (pg_name (i := 15) SC.nd rfl (Or.inl rfl)) pgs_nil)) (by rfl)) (pss_cons (ps_set (i := 16) SC.nd rfl (Or.inl rfl) (pe_ix (kx_ixL K) (pv 12) pe_int (fun _ _ => rfl))) (pss_cons (ps_asg (pe_tup (pa_cons (pe_op op_mod (pe_callTy call_int1 (by rfl) T.z_int (by decide +kernel) (pa_cons (pe_op op_sub (pe_ix (kx_ixT K) (pv 16) pe_int (fun _ _ => rfl)) (pv 14)) pa_nil)) (pv 1)) (pa_cons (pe_op op_mod (pe_callTy call_int1 (by rfl) T.z_int (by decide +kernel) (pa_cons (pe_op op_sub (pe_ix (kx_ixT K) (pv 16) pe_int (fun _ _ => rfl)) (pv 15)) pa_nil)) (pv 2)) pa_nil))) (kx_pgTup (n := 2) K rfl (pgs_cons (pg_name (i := 6) SC.nd rfl (Or.inr rfl)) (pgs_cons (pg_name (i := 7) SC.nd rfl (Or.inr rfl)) pgs_nil)) (by rfl))) (pss_cons (ps_set (i := 17) SC.nd rfl (Or.inr rfl) (pe_lc (own := [("_law_i", 18), ("_law_j", 19)]) (g := (gTup K 2 (gCons (gName 18) (gCons (gName 19) gNil)))) (tt := tYes) (by rfl) SC.nd (kx_piTup K (pv 0)) (blkOk_by (own := [("_law_i", 18), ("_law_j", 19)]) (N := N_l_fillings) (sc := defScope s_l_fillings) (by decide +kernel)) (fun _ _ _ _ _ => (kx_pgTup (n := 2) K rfl (pgs_cons (pg_name (i := 18) SC.nd rfl (Or.inl rfl)) (pgs_cons (pg_name (i := 19) SC.nd rfl (Or.inl rfl)) pgs_nil)) (by rfl))) (fun _ _ _ _ _ => pts_nil) (fun _ _ _ _ _ => (pe_tup (pa_cons (pe_op op_mod (pe_callTy call_int1 (by rfl) T.z_int (by decide +kernel) (pa_cons (pe_op op_add (pv 6) (pv 18)) pa_nil)) (pv 1)) (pa_cons (pe_op op_mod (pe_callTy call_int1 (by rfl) T.z_int (by decide +kernel) (pa_cons (pe_op op_add (pv 7) (pv 19)) pa_nil)) (pv 2)) pa_nil)))))) (pss_cons (ps_setLc (i := 20) (own := [("_law_spot", 13)]) (g := (gName 13)) (by rfl) SC.nd rfl rfl (sw_true rfl rfl rfl (by decide +kernel)) (kx_piList K (pv 17)) (blkOk_by (own := [("_law_spot", 13)]) (N := N_l_fillings) (sc := defScope s_l_fillings) (by decide +kernel)) (fun _ _ _ _ _ => (pg_name (i := 13) SC.nd rfl (Or.inl rfl))) (fun _ _ _ _ _ => (pts_one (PW.pt (pw_or (pt_cmpR (DO.kx_inT K hr.u65) (pv 13) (pv 10) (by with_unfolding_all rfl)) (pw_or1 (pt_cmpR op_gt (pe_bm PySem.F.plainAttrs_list PySem.F.slot_list_count PySem.F.type_list_count (SrtD.mt_countS K (s := .t .i) (by exact hr.units)) (pv 17) (pa_cons (pv 13) pa_nil)) pe_int (nomark _))))))) (fun _ _ _ _ _ => pe_int)) (pss_one (ps_if (pt_cmpR (kx_eqD K hr.units) (pv 20) (pe_lst pa_nil) (nomark _)) (pss_one (ps_expr (pe_bm PySem.F.plainAttrs_list PySem.F.slot_list_append PySem.F.type_list_append mt_append (pv 9) (pa_cons (pe_tup (pa_cons (pe_op (DO.kx_catT K) (pv 10) (pe_callTy (kx_tupleOf K) (by rfl) T.z_tuple (by decide +kernel) (pa_cons (pv 17) pa_nil))) (pa_cons (pe_op (DO.kx_catT K) (pv 11) (pe_tup (pa_cons (pe_tup (pa_cons (pv 6) (pa_cons (pv 7) pa_nil))) pa_nil))) pa_nil))) pa_nil)))) pss_nil))))))))))) (pss_one (ps_set (i := 3) SC.nd rfl (Or.inl rfl) (pv 9)))))) (pss_one (ps_ret (pe_callTy (kx_tupleOf K) (by rfl) T.z_tuple (by decide +kernel) (pa_cons (pe_callB (SrtD.kx_sortS K (s := .t .i) (.inr ⟨_, rfl⟩) hr.units) (by rfl) T.z_sorted (by decide +kernel) (pa_cons (pv 4) pa_nil)) pa_nil))))))), (s_seq (s_par3O (e_f (f_lst (a_cons (e_tup (a_cons (e_tup a_nil) (a_cons (e_tup a_nil) a_nil))) a_nil))) (f_lst a_nil) (e_f (f_lst a_nil))) (s_seq (s_for (i_rng1 (a_cons e_var a_nil)) g_name (s_asg (e_f (f_cat e_var (e_f (f_lc (i_rng1 (a_cons e_var a_nil)) g_name t_yes (e_tup (a_cons e_var (a_cons e_var a_nil))))))) g_name)) (s_seq (s_for (i_rng1 (a_cons (e_op o_add (e_op o_mul e_var e_var) e_int) a_nil)) g_name (s_seq (s_asgO (f_lst a_nil)) (s_seq (s_for (i_list e_var) (g_tup (gs_cons g_name (gs_cons g_name gs_nil))) (s_seq (s_asg (e_f (f_lc (i_list e_var) g_name (t_test (e_op DO.o_inT e_var e_var)) e_var)) g_name) (s_seq (s_if (t_test (e_op o_eqD e_var (e_f (f_lst a_nil)))) (s_app (e_cb c_tupleOf (a_cons (e_cb DO.c_sortQT (a_cons e_var a_nil)) a_nil))) s_next) (s_for (i_if (t_test (e_op o_neD e_var (e_f (f_lst a_nil)))) (i_tup e_var) (i_list (e_f (f_lst a_nil)))) (g_tup (gs_cons g_name (gs_cons g_name gs_nil))) (s_seq (s_asg (e_op o_ixL e_var e_int) g_name) (s_seq (s_asg (e_tup (a_cons (e_op o_mod (e_cb c_int1 (a_cons (e_op o_sub (e_op o_ixT e_var e_int) e_var) a_nil)) e_var) (a_cons (e_op o_mod (e_cb c_int1 (a_cons (e_op o_sub (e_op o_ixT e_var e_int) e_var) a_nil)) e_var) a_nil))) (g_tup (gs_cons g_name (gs_cons g_name gs_nil)))) (s_seq (s_asg (e_f (f_lc (i_tup e_var) (g_tup (gs_cons g_name (gs_cons g_name gs_nil))) t_yes (e_tup (a_cons (e_op o_mod (e_cb c_int1 (a_cons (e_op o_add e_var e_var) a_nil)) e_var) (a_cons (e_op o_mod (e_cb c_int1 (a_cons (e_op o_add e_var e_var) a_nil)) e_var) a_nil))))) g_name) (s_seq (s_asg (e_f (f_lc (i_list e_var) g_name (t_or (t_test (e_op DO.o_inT e_var e_var)) (t_test (e_op o_gt (e_cntS (s := .t .i) e_var e_var) e_int))) e_int)) g_name) (s_if (t_test (e_op o_eqD e_var (e_f (f_lst a_nil)))) (s_app (e_tup (a_cons (e_op DO.o_catT e_var (e_cb c_tupleOf (a_cons e_var a_nil))) (a_cons (e_op DO.o_catT e_var (e_tup (a_cons (e_tup (a_cons e_var (a_cons e_var a_nil))) a_nil))) a_nil)))) s_next))))))))) (s_frz (k := 9) (s_asg e_var g_name))))) (s_frz (k := 4) (s_ret (e_cb c_tupleOf (a_cons (e_cb (SrtD.c_sortS (s := .t .i)) (a_cons e_var a_nil)) a_nil))))))), ?_⟩)
  clear hr hg
  intro ds Q h
  unfold S_l_fillings at h
  split at h
  · rename_i xs w h'
    obtain ⟨L, rfl, l0, l1, f, w12, h⟩ := h
    rw [show startG N_l_fillings.length [.t (L.map pt), .i w, .i h'] = [.d (.t (L.map pt)), .d (.i w), .d (.i h'), .u, .u, .u, .u, .u, .u, .u, .u, .u, .u, .u, .u, .u, .u, .u, .u, .u, .u] from rfl]
    obtain ⟨w0, h0, wh⟩ := id f
    obtain ⟨W, rfl⟩ := Int.eq_ofNat_of_zero_le (Int.le_of_lt w0)
    obtain ⟨M, rfl⟩ := Int.eq_ofNat_of_zero_le (Int.le_of_lt h0)
    have eh : ((W : Int) * (M : Int)).toNat = W * M := by rw [← Int.natCast_mul, Int.toNat_natCast]
    have ew : ((W : Int) * (M : Int)) = ((W * M : Nat) : Int) := by rw [Int.natCast_mul]
    have n12 : W * M ≤ 12 := by rw [← eh]; omega
    have m0 : 0 < M := by omega
    have n1 : 1 ≤ W * M := Nat.mul_pos (by omega) m0
    have W12 : W ≤ 12 := Nat.le_trans (Nat.le_mul_of_pos_right W m0) n12
    have M12 : M ≤ 12 := Nat.le_trans (Nat.le_mul_of_pos_left M (by omega)) n12
    have hl : ∀ p q, q ∈ heldI L W M p → q < W * M := fun p q hq => by rw [← eh]; exact heldI_lt w0 h0 p q hq
    have bl : ∀ q, (brL L W M q).length ≤ L.length := fun q => by unfold brL; rw [List.length_map]; exact Nat.le_refl _
    have few := lay_few (br := brL L W M) n12 l0 l1 (heldI_len (L := L) (w := W) (h := M)) hl bl
    have fin100 := inLays_len few
    have ne : ∀ p, heldI L W M p ≠ [] := fun p e => by
      have := heldI_len (L := L) (w := W) (h := M) p
      rw [e] at this
      simp at this
      omega
    have lt12 : ∀ t, ∀ A ∈ lay (W * M) (heldI L W M) (brL L W M) t, A.length ≤ 13 ∧ (holdsC L W M A).length ≤ 12 := fun t A hA => by
      obtain ⟨a1, a2⟩ := lay_nd (heldI_len (L := L) (w := W) (h := M)) hl t A hA
      have := List.Nodup.length_le_of_subset a1 (l₂ := List.range (W * M)) fun x hx => by
        obtain ⟨p, _, hp⟩ := List.mem_flatMap.mp hx
        exact List.mem_range.mpr (hl p x hp)
      rw [List.length_range] at this
      have e1 : ∀ B : List Nat, (B.flatMap (heldI L W M)).length = B.length * L.length := fun B => by
        induction B with
        | nil => simp
        | cons p B ih => rw [List.flatMap_cons, List.length_append, ih, heldI_len, List.length_cons, Nat.succ_mul]; omega
      have e2 : (holdsC L W M A).length = (A.flatMap (heldI L W M)).length := by
        unfold holdsC
        rw [List.length_flatMap, List.length_flatMap]
        congr 1
        refine List.map_congr_left fun p _ => ?_
        rw [heldI_len]
        unfold cellsP
        rw [List.length_map]
      rw [e2]
      have := e1 A
      have := Nat.le_mul_of_pos_right A.length l0
      omega
    refine ⟨by show 0 ≤ 100000; decide, by show 0 ≤ 100000; decide, by show 2 ≤ 100000; decide, by show 1 ≤ 100000; decide, by show 0 ≤ 100000; decide, by show 0 ≤ 100000; decide, ?_⟩
    dsimp only [wgName, put]
    refine ⟨⟨by omega, by omega⟩, fun k Γ => ∃ a6, Γ = [.d (.t (L.map pt)), .d (.i W), .d (.i M), .d (.l [E2 L W M []]), .ol [], .d (.l (((List.range (k * M)).map (cellOf M)).map pt)), a6, .u, .u, .u, .u, .u, .u, .u, .u, .u, .u, .u, .u, .u, .u], ?_, ?_, ?_⟩
    · exact ⟨_, by rw [Nat.zero_mul]; rfl⟩
    · rintro k x Γ' hx ⟨a6, rfl⟩
      obtain ⟨hk, rfl⟩ := rngD_get' hx
      have km : (k + 1) * M ≤ W * M := Nat.mul_le_mul_right M (by omega)
      rw [Nat.add_mul, Nat.one_mul] at km
      dsimp only [wgName, put]
      refine ⟨⟨by omega, by omega⟩, by rw [rngD_len]; omega, fun _ => true, fun j d => d = pt ((k : Int), (j : Int)), fun j x hx => ?_, fun ys S => ?_⟩
      · obtain ⟨hj, rfl⟩ := rngD_get' hx
        refine ⟨rfl, fun _ => ⟨by show 2 ≤ 100000; decide, ?_⟩⟩
        rw [Int.zero_add, Int.zero_add]
        rfl
      · have S := S.map
        rw [rngD_len, Int.toNat_natCast] at S
        subst S
        refine ⟨by rw [List.length_map, List.length_map, List.length_range, List.length_map, List.length_range]; omega, .d (.i (0 + (k : Int))), ?_⟩
        have e : ((List.range (k * M)).map (cellOf M)).map pt ++ (List.range M).map (fun (j : Nat) => pt ((k : Int), (j : Int))) = ((List.range ((k + 1) * M)).map (cellOf M)).map pt := by
          rw [Nat.add_mul, Nat.one_mul, List.range_add, List.map_append, List.map_append]
          congr 1
          rw [List.map_map, List.map_map]
          exact List.map_congr_left fun j hj => by rw [← cell_at (k := k) (List.mem_range.mp hj)]; rfl
        rw [e]
        rfl
    · rintro Γ' ⟨a6, rfl⟩
      rw [rngD_len, Int.toNat_natCast]
      refine ⟨.inl ⟨by omega, by omega⟩, ⟨by omega, by omega⟩, fun t Γ => ∃ a6 a7 a8 a9 a10 a11 a12 a13 a14 a15 a16 a17 a18 a19 a20, Γ = [.d (.t (L.map pt)), .d (.i W), .d (.i M), .d (.l ((lay (W * M) (heldI L W M) (brL L W M) t).map (E2 L W M))), .ol ((inLays (W * M) (heldI L W M) (brL L W M) t).map fun A => fillD M (srt A)), .d (.l (((List.range (W * M)).map (cellOf M)).map pt)), a6, a7, a8, a9, a10, a11, a12, a13, a14, a15, a16, a17, a18, a19, a20], ?_, ?_, ?_⟩
      · exact ⟨_, _, _, _, _, _, _, _, _, _, _, _, _, _, _, rfl⟩
      · rintro t x Γ' hx ⟨a6, a7, a8, a9, a10, a11, a12, a13, a14, a15, a16, a17, a18, a19, a20, rfl⟩
        obtain ⟨ht, rfl⟩ := rngD_get' hx
        have tn : t ≤ W * M := by omega
        have fe := few t
        have fi := fin100 t
        have lm := lt12 t
        dsimp only [wgName, put]
        obtain ⟨X, eX⟩ : ∃ X, lay (W * M) (heldI L W M) (brL L W M) t = X := ⟨_, rfl⟩
        obtain ⟨Y, eY⟩ : ∃ Y, inLays (W * M) (heldI L W M) (brL L W M) t = Y := ⟨_, rfl⟩
        have nx : lay (W * M) (heldI L W M) (brL L W M) (t + 1) = X.flatMap (kids (W * M) (heldI L W M) (brL L W M)) := by rw [← eX]; rfl
        have ny := inLays_succ (n := W * M) (held := heldI L W M) (br := brL L W M) t
        rw [eX, eY] at ny
        rw [eX] at fe lm
        rw [eY] at fi
        rw [eX, eY, nx, ny]
        refine ⟨by show 0 ≤ 100000; decide, ?_⟩
        dsimp only [wgName, put]
        refine ⟨fun k Γ => ∃ a6 a7 a10 a11 a12 a13 a14 a15 a16 a17 a18 a19 a20, Γ = [.d (.t (L.map pt)), .d (.i W), .d (.i M), .d (.l (X.map (E2 L W M))), .ol ((Y ++ (X.take k).filter (fullA (W * M) (heldI L W M))).map fun A => fillD M (srt A)), .d (.l (((List.range (W * M)).map (cellOf M)).map pt)), a6, a7, .d (.i (0 + (t : Int))), .ol (((X.take k).flatMap (kids (W * M) (heldI L W M) (brL L W M))).map (E2 L W M)), a10, a11, a12, a13, a14, a15, a16, a17, a18, a19, a20], ?_, ?_, ?_⟩
        · refine ⟨a6, a7, a10, a11, a12, a13, a14, a15, a16, a17, a18, a19, a20, ?_⟩
          rw [List.take_zero, List.filter_nil, List.append_nil]
          rfl
        · rintro k x Γ' hx ⟨a6, a7, a10, a11, a12, a13, a14, a15, a16, a17, a18, a19, a20, rfl⟩
          obtain ⟨hk, rfl, hm⟩ := getG (d0 := []) hx
          have tk : X.take (k + 1) = X.take k ++ [X.getD k []] := by
            rw [List.take_succ_eq_append_getElem hk, List.getD_eq_getElem?_getD, List.getElem?_eq_getElem hk]
            rfl
          obtain ⟨A, eA⟩ : ∃ A, X.getD k [] = A := ⟨_, rfl⟩
          rw [eA] at tk hm
          obtain ⟨la, lh⟩ := lm A hm
          have f1 : ((X.take k).filter (fullA (W * M) (heldI L W M))).length ≤ 100 := Nat.le_trans (List.length_filter_le _ _) (by rw [List.length_take]; omega)
          have f2 : ((X.take k).flatMap (kids (W * M) (heldI L W M) (brL L W M))).length ≤ 100 * 24 := Nat.le_trans (fm_len fun B _ => kids_len bl B) (Nat.mul_le_mul (by rw [List.length_take]; omega) l1)
          have eE : E2 L W M A = .t [.t ((holdsC L W M A).map pt), .t ((A.map (cellOf M)).map pt)] := rfl
          rw [eA, eE]
          refine ⟨rfl, ?_⟩
          refine ⟨by rw [List.length_map, List.length_map, List.length_range]; omega, fun j => decide (((List.range (W * M)).map (cellOf M)).getD j (0, 0) ∉ holdsC L W M A), fun j d => d = pt (((List.range (W * M)).map (cellOf M)).getD j (0, 0)), fun j x hx => ?_, fun ys hs => ?_⟩
          · obtain ⟨hj, rfl⟩ := getpt hx
            refine ⟨holdsC L W M A, _, rfl, rfl, ?_, fun _ => rfl⟩
            rw [Bool.true_xor]
            exact decide_not.symm
          have e := selfil (L := (List.range (W * M)).map (cellOf M)) (c := fun q => decide (q ∉ holdsC L W M A)) (f := pt) hs (by rw [List.length_map])
          rw [free_cells f A (W * M) eh.symm] at e
          subst e
          have full : fullA (W * M) (heldI L W M) A = true ↔ (List.range (W * M)).filter (freeA (heldI L W M) A) = [] := none_nil
          have hd := head_fst (n := W * M) (f := freeA (heldI L W M) A)
          have fk : fullA (W * M) (heldI L W M) A = noneB (W * M) (freeA (heldI L W M) A) := rfl
          obtain ⟨R, eR⟩ : ∃ R, (List.range (W * M)).filter (freeA (heldI L W M) A) = R := ⟨_, rfl⟩
          rw [eR] at full hd
          rw [eR]
          clear hs
          refine ⟨by show 0 ≤ 100000; decide, eqD_of (id_ptsL (k := 0)) (id_ptsL (k := 0) (X := [])) (fun e => ⟨fun _ => ?_, fun z => nomatch z⟩) (fun ne => ⟨(fun z => nomatch z), fun _ => ?_⟩)⟩
          · have e2 := e
            injection e2 with e2
            have fu := full.mpr (List.map_eq_nil_iff.mp (List.map_eq_nil_iff.mp e2))
            refine ⟨by rw [List.length_map, List.length_append]; omega, A.map (cellOf M), rfl, fun L' pm pw => ?_⟩
            rw [srt_cells m0 pm pw]
            refine ⟨by show 0 ≤ 100000; decide, neD_of (id_ptsL (k := 0)) (id_ptsL (k := 0) (X := [])) (fun _ => ⟨(fun z => nomatch z), fun _ => ⟨by show 0 ≤ 100000; decide, ?_⟩⟩) (fun n => absurd e n)⟩
            refine ⟨fun _ Γ => ∃ a6 a7 a10 a11 a12 a13 a14 a15 a16 a17 a18 a19 a20, Γ = [.d (.t (L.map pt)), .d (.i W), .d (.i M), .d (.l (X.map (E2 L W M))), .ol ((Y ++ (X.take (k + 1)).filter (fullA (W * M) (heldI L W M))).map fun A => fillD M (srt A)), .d (.l (((List.range (W * M)).map (cellOf M)).map pt)), a6, a7, .d (.i (0 + (t : Int))), .ol (((X.take (k + 1)).flatMap (kids (W * M) (heldI L W M) (brL L W M))).map (E2 L W M)), a10, a11, a12, a13, a14, a15, a16, a17, a18, a19, a20], ?_, (fun i x Γ' hx => by cases hx), fun Γ' h => h⟩
            refine ⟨a6, a7, .d (.t ((holdsC L W M A).map pt)), .d (.t ((A.map (cellOf M)).map pt)), .d (.l ((R.map (cellOf M)).map pt)), a13, a14, a15, a16, a17, a18, a19, a20, ?_⟩
            have kd : kids (W * M) (heldI L W M) (brL L W M) A = [] := by
              unfold kids
              rw [← fk, if_pos fu]
            rw [tk, List.filter_append, List.flatMap_append, List.filter_cons_of_pos fu, List.flatMap_cons, kd, List.filter_nil, List.flatMap_nil, List.append_nil, List.append_nil, ← List.append_assoc, List.map_append (l₂ := [A])]
            have ef : fillD M (srt A) = .t (((srt A).map (cellOf M)).map pt) := by
              unfold fillD
              rw [List.map_map]
              rfl
            rw [List.map_cons, ef]
            rfl
          · have nf : ¬ fullA (W * M) (heldI L W M) A = true := fun z => ne (by rw [full.mp z]; rfl)
            have hd := hd (by rw [← fk]; exact nf)
            obtain ⟨g, eg⟩ : ∃ g, fst (W * M) (freeA (heldI L W M) A) = g := ⟨_, rfl⟩
            have kd : kids (W * M) (heldI L W M) (brL L W M) A = ((brL L W M g).filter fun p => decide (heldI L W M p).Nodup && apart (heldI L W M) p A).map fun p => A ++ [p] := by
              unfold kids
              rw [← fk, if_neg nf, eg]
            rw [eg] at hd
            refine ⟨by show 0 ≤ 100000; decide, neD_of (id_ptsL (k := 0)) (id_ptsL (k := 0) (X := [])) (fun z => absurd z ne) (fun _ => ⟨fun _ => ?_, (fun z => nomatch z)⟩)⟩
            refine ⟨fun i Γ => ∃ a6 a7 a13 a14 a15 a16 a17 a18 a19 a20, Γ = [.d (.t (L.map pt)), .d (.i W), .d (.i M), .d (.l (X.map (E2 L W M))), .ol ((Y ++ (X.take k).filter (fullA (W * M) (heldI L W M))).map fun A => fillD M (srt A)), .d (.l (((List.range (W * M)).map (cellOf M)).map pt)), a6, a7, .d (.i (0 + (t : Int))), .ol (((X.take k).flatMap (kids (W * M) (heldI L W M) (brL L W M))).map (E2 L W M) ++ ((((brL L W M g).take i).filter fun p => decide (heldI L W M p).Nodup && apart (heldI L W M) p A).map fun p => E2 L W M (A ++ [p]))), .d (.t ((holdsC L W M A).map pt)), .d (.t ((A.map (cellOf M)).map pt)), .d (.l ((R.map (cellOf M)).map pt)), a13, a14, a15, a16, a17, a18, a19, a20], ?_, ?_, ?_⟩
            · refine ⟨a6, a7, a13, a14, a15, a16, a17, a18, a19, a20, ?_⟩
              rw [List.take_zero, List.filter_nil, List.map_nil, List.append_nil]
              rfl
            · rintro i x Γ' hx ⟨a6, a7, a13, a14, a15, a16, a17, a18, a19, a20, rfl⟩
              obtain ⟨hi, rfl⟩ := getpt hx
              have bg : (brL L W M g).length = L.length := by unfold brL; rw [List.length_map]
              obtain ⟨c, ec⟩ : ∃ c, L.getD i (0, 0) = c := ⟨_, rfl⟩
              rw [ec]
              obtain ⟨p, ep⟩ : ∃ p, num M (((g : Int) / M - c.1) % W, ((g : Int) % M - c.2) % M) = p := ⟨_, rfl⟩
              have pc : cellOf M p = (((g : Int) / M - c.1) % W, ((g : Int) % M - c.2) % M) := by
                rw [← ep]
                exact num_cell h0 ⟨Int.emod_nonneg _ (by omega), Int.emod_nonneg _ (by omega), Int.emod_lt_of_pos _ h0⟩
              have pc2 := pc
              unfold cellOf at pc2
              injection pc2 with p1 p2
              have gi : (brL L W M g)[i]? = some p := by
                unfold brL
                rw [List.getElem?_map, List.getElem?_eq_getElem hi]
                rw [List.getD_eq_getElem?_getD, List.getElem?_eq_getElem hi] at ec
                have ec : L[i] = c := ec
                rw [ec]
                show some (num M (((g : Int) / M - c.1) % W, ((g : Int) % M - c.2) % M)) = some p
                rw [ep]
              have ti : (brL L W M g).take (i + 1) = (brL L W M g).take i ++ [p] := by
                rw [List.take_add_one, gi]
                rfl
              have at0 : atI ((R.map (cellOf M)).map pt) 0 = some (pt (cellOf M g)) := by
                cases R with
                | nil => cases hd
                | cons r R =>
                  have hd : some r = some g := hd
                  injection hd with hd
                  subst hd
                  unfold atI
                  rw [show ixN ((((r :: R).map (cellOf M)).map pt).length) 0 = some 0 by unfold ixN; simp]
                  rfl
              refine ⟨rfl, ?_⟩
              dsimp only [wgName, put]
              refine ⟨_, at0, ?_⟩
              refine ⟨_, rfl, w0, _, rfl, h0, by show 2 ≤ 100000; decide, rfl, ?_⟩
              dsimp only [wgName, put]
              have e1 : (cellOf M g).1 = (g : Int) / M := rfl
              have e2 : (cellOf M g).2 = (g : Int) % M := rfl
              rw [e1, e2, ← p1, ← p2]
              refine ⟨by rw [List.length_map]; omega, fun _ => true, fun j d => d = pt (((p : Int) / M + (L.getD j (0, 0)).1) % W, ((p : Int) % M + (L.getD j (0, 0)).2) % M), fun j x hx => ?_, fun ys hs => ?_⟩
              · obtain ⟨hj, rfl⟩ := getpt hx
                exact ⟨rfl, rfl, fun _ => ⟨w0, h0, by show 2 ≤ 100000; decide, rfl⟩⟩
              have e := selmap (L := L) (f := fun q => pt (((p : Int) / M + q.1) % W, ((p : Int) % M + q.2) % M)) hs (by rw [List.length_map])
              have ec2 : L.map (fun q => pt (((p : Int) / M + q.1) % W, ((p : Int) % M + q.2) % M)) = (cellsP L W M p).map pt := by
                unfold cellsP
                rw [List.map_map]
                rfl
              rw [ec2] at e
              subst e
              have lc : (cellsP L W M p).length = L.length := by unfold cellsP; rw [List.length_map]
              have sh : ∀ q : Pr, SrtD.hasSh (.t .i) (pt q) := fun q => ⟨_, rfl, fun x hx => by
                simp only [List.mem_cons, List.not_mem_nil, or_false] at hx
                rcases hx with rfl | rfl
                · exact ⟨_, rfl⟩
                · exact ⟨_, rfl⟩⟩
              refine ⟨by rw [List.length_map]; omega, fun j => decide ((cellsP L W M p).getD j (0, 0) ∈ holdsC L W M A) || decide (1 < SrtD.cntD ((cellsP L W M p).map pt) (pt ((cellsP L W M p).getD j (0, 0)))), fun j d => d = .i 1, fun j x hx => ?_, fun ys hs => ?_⟩
              · obtain ⟨hj, rfl⟩ := getpt hx
                refine ⟨holdsC L W M A, _, rfl, rfl, ?_⟩
                rw [Bool.false_xor]
                refine ⟨fun z => ⟨by dsimp only; rw [z]; rfl, fun _ => rfl⟩, fun z => ⟨(cellsP L W M p).map pt, rfl, fun d hd => ?_, sh _, ?_, fun _ => rfl⟩⟩
                · obtain ⟨q, _, rfl⟩ := List.mem_map.mp hd
                  exact sh q
                · dsimp only
                  rw [z, Bool.false_or, decide_eq_decide]
                  exact ⟨fun z => by omega, fun z => by omega⟩
              have e := selfil (L := cellsP L W M p) (c := fun q => decide (q ∈ holdsC L W M A) || decide (1 < SrtD.cntD ((cellsP L W M p).map pt) (pt q))) (f := fun _ => .i 1) hs (by rw [List.length_map])
              subst e
              have di := double_iff (L := L) w0 h0 A p
              refine ⟨by show 0 ≤ 100000; decide, eqD_of (k := 1) (m := 1) (.l fun x hx => ?_) (.l fun x hx => by cases hx) (fun e => ⟨fun _ => ?_, fun z => nomatch z⟩) (fun ne => ⟨(fun z => nomatch z), fun _ => ?_⟩)⟩
              · obtain ⟨q, _, rfl⟩ := List.mem_map.mp hx
                exact .i 1
              · injection e with e
                have tr := di.mp (List.map_eq_nil_iff.mp e)
                have f3 : (((brL L W M g).take i).filter fun p => decide (heldI L W M p).Nodup && apart (heldI L W M) p A).length ≤ 24 := by
                  have := List.length_filter_le (fun p => decide (heldI L W M p).Nodup && apart (heldI L W M) p A) ((brL L W M g).take i)
                  rw [List.length_take] at this
                  omega
                refine ⟨by rw [List.length_append, List.length_map, List.length_map]; omega, _, _, rfl, rfl, by rw [List.length_map, List.length_map, lc]; omega, by show 2 ≤ 100000; decide, by show 1 ≤ 100000; decide, _, _, rfl, rfl, by rw [List.length_map, List.length_map]; show A.length + 1 ≤ 100000; omega, by show 2 ≤ 100000; decide, ?_⟩
                refine ⟨.d (.i ((p : Int) / M)), .d (.i ((p : Int) % M)), a13, .d (.i c.1), .d (.i c.2), .d (pt (cellOf M g)), .d (.l ((cellsP L W M p).map pt)), a18, a19, (.d (.l (((cellsP L W M p).filter fun q => decide (q ∈ holdsC L W M A) || decide (1 < SrtD.cntD ((cellsP L W M p).map pt) (pt q))).map fun _ => .i 1))), ?_⟩
                have eT : ((brL L W M g).take (i + 1)).filter (fun p => decide (heldI L W M p).Nodup && apart (heldI L W M) p A) = ((brL L W M g).take i).filter (fun p => decide (heldI L W M p).Nodup && apart (heldI L W M) p A) ++ [p] := by
                  rw [ti, List.filter_append]
                  congr 1
                  exact List.filter_cons_of_pos (p := (fun p => decide (heldI L W M p).Nodup && apart (heldI L W M) p A)) tr
                rw [eT, List.map_append (l₂ := [p]), List.map_cons, List.map_nil, ← List.append_assoc]
                have eA2 : E2 L W M (A ++ [p]) = .t [.t ((holdsC L W M A).map pt ++ (cellsP L W M p).map pt), .t ((A.map (cellOf M)).map pt ++ [.t [.i ((p : Int) / M), .i ((p : Int) % M)]])] := by
                  unfold E2 holdsC
                  rw [List.flatMap_append, List.map_append, List.map_append, List.map_append, List.flatMap_cons, List.flatMap_nil, List.append_nil]
                  rfl
                rw [eA2]
                rfl
              · have fl : ¬ (decide (heldI L W M p).Nodup && apart (heldI L W M) p A) = true := fun z => ne (by rw [di.mpr z]; rfl)
                refine ⟨.d (.i ((p : Int) / M)), .d (.i ((p : Int) % M)), a13, .d (.i c.1), .d (.i c.2), .d (pt (cellOf M g)), .d (.l ((cellsP L W M p).map pt)), a18, a19, (.d (.l (((cellsP L W M p).filter fun q => decide (q ∈ holdsC L W M A) || decide (1 < SrtD.cntD ((cellsP L W M p).map pt) (pt q))).map fun _ => .i 1))), ?_⟩
                have eT : ((brL L W M g).take (i + 1)).filter (fun p => decide (heldI L W M p).Nodup && apart (heldI L W M) p A) = ((brL L W M g).take i).filter (fun p => decide (heldI L W M p).Nodup && apart (heldI L W M) p A) := by
                  rw [ti, List.filter_append, show [p].filter (fun p => decide (heldI L W M p).Nodup && apart (heldI L W M) p A) = [] from List.filter_cons_of_neg (p := (fun p => decide (heldI L W M p).Nodup && apart (heldI L W M) p A)) fl, List.append_nil]
                rw [eT]
                rfl
            · rintro Γ' ⟨a6, a7, a13, a14, a15, a16, a17, a18, a19, a20, rfl⟩
              refine ⟨a6, a7, .d (.t ((holdsC L W M A).map pt)), .d (.t ((A.map (cellOf M)).map pt)), .d (.l ((R.map (cellOf M)).map pt)), a13, a14, a15, a16, a17, a18, a19, a20, ?_⟩
              have bg : (brL L W M g).length = L.length := by unfold brL; rw [List.length_map]
              have eK : ((X.take (k + 1)).flatMap (kids (W * M) (heldI L W M) (brL L W M))).map (E2 L W M) = ((X.take k).flatMap (kids (W * M) (heldI L W M) (brL L W M))).map (E2 L W M) ++ ((brL L W M g).filter fun p => decide (heldI L W M p).Nodup && apart (heldI L W M) p A).map fun p => E2 L W M (A ++ [p]) := by
                rw [tk, List.flatMap_append, List.flatMap_cons, List.flatMap_nil, List.append_nil, kd, List.map_append, List.map_map]
                rfl
              have eF : (X.take (k + 1)).filter (fullA (W * M) (heldI L W M)) = (X.take k).filter (fullA (W * M) (heldI L W M)) := by
                rw [tk, List.filter_append, List.filter_cons_of_neg nf, List.filter_nil, List.append_nil]
              rw [List.length_map, ← bg, List.take_length, eK, eF]
        · rintro Γ' ⟨a6, a7, a10, a11, a12, a13, a14, a15, a16, a17, a18, a19, a20, rfl⟩
          rw [List.length_map, List.take_length]
          exact ⟨_, _, _, _, _, _, _, _, _, _, _, _, _, _, _, rfl⟩
      · rintro Γ' ⟨a6, a7, a8, a9, a10, a11, a12, a13, a14, a15, a16, a17, a18, a19, a20, rfl⟩
        rw [rngD_len, show ((W : Int) * (M : Int) + 1).toNat = W * M + 1 by omega]
        refine ⟨_, rfl, fun d hd => ?_, fun L' pm pw => ?_⟩
        · obtain ⟨A, hA, rfl⟩ := List.mem_map.mp hd
          refine ⟨fillD_sh _ _, fun e => ?_⟩
          have : srt A = [] := by
            unfold fillD at e
            injection e with e
            exact List.map_eq_nil_iff.mp e
          have : A = [] := (this ▸ (srt_perm A).symm).eq_nil
          subst this
          obtain ⟨i, _, hA⟩ := List.mem_flatMap.mp hA
          have hA := (List.mem_filter.mp hA).2
          have := none_iff.mp (show noneB (W * M) (freeA (heldI L W M) []) = true from hA) 0 (by omega)
          rw [freeA_nil] at this
          cases this
        · refine h _ ?_
          have e : (inLays (W * M) (heldI L W M) (brL L W M) (W * M + 1)).map (fun A => fillD M (srt A)) = ((inLays (W * M) (heldI L W M) (brL L W M) (W * M + 1)).map srt).map (fillD M) := by rw [List.map_map]; rfl
          rw [e] at pm
          obtain ⟨G, g1, rfl⟩ := DO.perm_lift _ pm
          have lw := layers_whole (fun q hq => by have := br_over (L := L) f q (by rw [eh]; exact hq); rw [eh] at this; exact this) hl ne heldI_len l0 srt_perm srt_asc
          have sc := same_covers (n := ((W : Int) * (M : Int)).toNat) (held := heldI L W M) (k := ((W : Int) * (M : Int)).toNat / L.length) (heldI_lt w0 h0) ne heldI_len l0 (Nat.le_refl _) srt_perm srt_asc
          refine ⟨G, ?_, ?_, rfl⟩
          · refine (g1.trans lw).trans (List.Perm.trans ?_ sc.symm)
            rw [eh]
          · rw [List.pairwise_map] at pw ⊢
            exact pw.imp fun {A B} e => by rw [fill_lt h0]; exact e
  · exact h.elim
end
end K74
namespace K74
open PySem PySem.Spec PyProof.Rows L2 Evl Lay ErrX DL TE DO ShM PageM CovM BitP FlC
abbrev s_m_len : Stmt := clsFn (top 32) 8
abbrev N_m_len : List Str := ["self"]
abbrev P_m_len : List Str := ["self"]
theorem sc_m_len : FnScope N_m_len P_m_len (defScope s_m_len) := ⟨rfl, rfl, rfl, by decide +kernel, rfl, by decide +kernel, by decide +kernel⟩
section
variable {P : Program} {w : World} {K : PySem.W.Frag} {mg : Str → Option Value} {base : Heap} {CS : Addr}
/-- the lattices of a width -/
def rowD (n : Int) (k : Nat) : List D := if n % (1 + (k : Int)) = 0 then (List.range (k + 1)).map fun (s : Nat) => .t [.i (1 + (k : Int)), .i (s : Int), .i (n / (1 + (k : Int)))] else []
/-- all lattices with n rests -/
def latsD (n : Int) : List D := ((List.range n.toNat).map (rowD n)).flatten
theorem div_pos {n m : Int} (hn : 0 < n) (hm : 0 < m) (e : n % m = 0) : 0 < n / m ∧ m * (n / m) = n ∧ n / m ≤ n := by
  have h := Int.mul_ediv_add_emod n m
  have h2 : n / m ≤ n := Int.ediv_le_self _ (by omega)
  refine ⟨?_, by omega, h2⟩
  have h3 := Int.ediv_nonneg (show 0 ≤ n by omega) (show 0 ≤ m by omega)
  rcases Int.lt_trichotomy (n / m) 0 with c | c | c
  · omega
  · rw [c] at h
    simp only [Int.mul_zero] at h
    omega
  · exact c
theorem lats_mem {n : Int} {x : D} (n1 : 1 ≤ n) (n2 : n ≤ 24) (hx : x ∈ latsD n) : ∃ w s h : Int, x = .t [.i w, .i s, .i h] ∧ IsLat w s h ∧ w * h = n ∧ w ≤ 24 ∧ h ≤ 24 := by
  obtain ⟨l, hl, hx⟩ := List.mem_flatten.mp hx
  obtain ⟨k, hk, rfl⟩ := List.mem_map.mp hl
  have hk := List.mem_range.mp hk
  unfold rowD at hx
  split at hx
  · rename_i z
    obtain ⟨s, hs, rfl⟩ := List.mem_map.mp hx
    have hs := List.mem_range.mp hs
    obtain ⟨d1, d2, d3⟩ := div_pos (show 0 < n by omega) (show 0 < 1 + (k : Int) by omega) z
    exact ⟨_, _, _, rfl, ⟨by omega, by omega, by omega, by omega, d1, by omega⟩, d2, by omega, by omega⟩
  · cases hx
theorem row_len {n : Int} {k : Nat} : (rowD n k).length ≤ k + 1 := by
  unfold rowD
  split
  · rw [List.length_map, List.length_range]
    exact Nat.le_refl _
  · exact Nat.zero_le _
theorem lats_succ {n : Int} {k : Nat} : ((List.range (k + 1)).map (rowD n)).flatten = ((List.range k).map (rowD n)).flatten ++ rowD n k := by
  rw [List.range_succ, List.map_append, List.flatten_append]
  simp
theorem lats_len {n : Int} : ∀ k : Nat, k ≤ 24 → ((List.range k).map (rowD n)).flatten.length ≤ 24 * k
  | 0, _ => Nat.le_refl _
  | k + 1, h => by
    rw [lats_succ, List.length_append]
    have := lats_len (n := n) k (by omega)
    have := row_len (n := n) (k := k)
    omega
def S_lattices_with : List D → (D → Prop) → Prop := fun ds Q => match ds with
  | [.i n] => (1 ≤ n ∧ n ≤ 24) ∧ Q (.l (latsD n))
  | _ => False
theorem len_lattices_with : ∀ ds P, S_lattices_with ds P → ds.length = P_lattices_with.length := fun ds P h => by
  unfold S_lattices_with at h
  split at h <;> first | rfl | exact h.elim
theorem d_lattices_with (Df : DefIn K mg "lattices_with" s_lattices_with P_lattices_with) (T : Txt mg) : DOk P w K mg base "lattices_with" s_lattices_with 1 P_lattices_with S_lattices_with := by
  have SC := sc_lattices_with
  refine dok (k := 0) Df sc_lattices_with (len_lattices_with) (body := fun f cdv A outer s H E hr hg => ⟨_, _, (pss_one (ps_ret (pe_lc2 (own := [("wide", 1), ("slip", 2)]) (vs1 := [2]) (g := (gName 1)) (g1 := (gName 2)) (tt1 := tYes) (by rfl) SC.nd (pi_range2 (by rfl) T.z_range (pa_cons pe_int (pa_cons (pe_op op_add (pv 0) pe_int) pa_nil))) (blkOk_by (own := [("wide", 1), ("slip", 2)]) (N := N_lattices_with) (sc := defScope s_lattices_with) (by decide +kernel)) (by decide) (fun _ _ _ _ _ => (pg_name (i := 1) SC.nd rfl (Or.inl rfl))) (fun _ _ _ _ _ => (pts_one (pt_cmpR op_eq (pe_op op_mod (pv 0) (pv 1)) pe_int (nomark _)))) (fun _ _ _ _ _ => (pi_range1 (by rfl) T.z_range (pa_cons (pv 1) pa_nil))) (fun _ _ _ _ _ => (pg_name (i := 2) SC.nd rfl (Or.inl rfl))) (fun _ _ _ _ _ => pts_nil) (fun _ _ _ _ _ => (pe_tup (pa_cons (pv 1) (pa_cons (pv 2) (pa_cons (pe_op op_fdiv (pv 0) (pv 1)) pa_nil)))))))), (s_ret (e_f (f_lc2T (i_rng2 (a_cons e_int (a_cons (e_op o_add e_var e_int) a_nil))) g_name (t_test (e_op o_eqS (e_op o_mod e_var e_var) e_int)) (i_rng1 (a_cons e_var a_nil)) g_name t_yes (e_tup (a_cons e_var (a_cons e_var (a_cons (e_op o_fdiv e_var e_var) a_nil))))))), ?_⟩)
  clear hr hg
  intro ds Q h
  unfold S_lattices_with at h
  split at h
  · rename_i n
    obtain ⟨⟨n1, n2⟩, h⟩ := h
    rw [show startG N_lattices_with.length [.i n] = [.d (.i n), .u, .u] from rfl]
    refine ⟨⟨by decide, by decide, by omega, by omega⟩, by rw [rngD_len]; omega, fun k => decide (n % (1 + (k : Int)) = 0), fun k zs => zs = rowD n k, fun k x hx => ?_, fun zss zl zp => ?_⟩
    · obtain ⟨hk, rfl⟩ := rngD_get' hx
      refine ⟨by omega, rfl, fun z => ⟨rfl, ⟨by omega, by omega⟩, by rw [rngD_len]; omega, fun _ => true, fun j d => d = .t [.i (1 + (k : Int)), .i (j : Int), .i (n / (1 + (k : Int)))], fun j y hy => ?_, fun zs hs => ?_⟩⟩
      · obtain ⟨hj, rfl⟩ := rngD_get' hy
        rw [Int.zero_add]
        exact ⟨rfl, fun _ => ⟨⟨by omega, by omega⟩, by show 3 ≤ 100000; decide, rfl⟩⟩
      · have e := hs.map
        rw [rngD_len] at e
        show zs = rowD n k
        unfold rowD
        rw [if_pos (of_decide_eq_true z), e, show (1 + (k : Int)).toNat = k + 1 by omega]
    · rw [rngD_len] at zl
      have e : zss = (List.range n.toNat).map (rowD n) := List.ext_getElem? fun k => by
        by_cases hk : k < zss.length
        · have q := zp k zss[k] (List.getElem?_eq_getElem hk)
          rw [List.getElem?_eq_getElem hk, List.getElem?_map, List.getElem?_range (by omega)]
          show some zss[k] = some (rowD n k)
          split at q
          · rw [q]
          · rename_i z
            rw [decide_eq_true_iff] at z
            unfold rowD
            rw [if_neg z, q]
        · rw [List.getElem?_eq_none (by omega), List.getElem?_eq_none (by rw [List.length_map, List.length_range]; omega)]
      subst e
      exact h
  · exact h.elim
def S_m_len (CS : Addr) : List D → (D → Prop) → Prop := fun ds Q => match ds with
  | [d] => ∃ L : List Pr, d = shp CS L ∧ L.length ≤ 1000 ∧ Q (.i (L.length : Nat))
  | _ => False
theorem len_m_len {CS : Addr} : ∀ ds P, S_m_len CS ds P → ds.length = P_m_len.length := fun ds P h => by
  unfold S_m_len at h
  split at h <;> first | rfl | exact h.elim
theorem d_m_len {g : Addr} {fd : FuncData} (F : Fun K "__len__" "Shape.__len__" s_m_len g fd) (bd : Binds K fd ["self"] []) (T : Txt mg) (cC : Cls K CS) (nC : NoAttr K CS "_cells") : DO.ClsFn P w K mg base 1 g ["self"] (S_m_len CS) := by
  have SC := sc_m_len
  refine DO.mok (k := 0) F bd sc_m_len (len_m_len) (body := fun cdv A outer s H E hr hg => ⟨_, _, (pss_one (ps_ret (pe_callB (kx_len K) (by rfl) T.z_len (by decide +kernel) (pa_cons (DO.pe_fldK K (pv 0)) pa_nil)))), (s_ret (e_cb c_len (a_cons (DO.e_fld1 cC nC e_var) a_nil))), ?_⟩)
  clear hr hg
  intro ds Q h
  unfold S_m_len at h
  split at h
  · obtain ⟨L, rfl, l1, h⟩ := h
    refine ⟨_, rfl, ?_⟩
    show Q (.i ((L.map pt).length : Nat))
    rw [List.length_map]
    exact h
  · exact h.elim
/-- the floors of a lattice -/
def foldD (x : D) : List D := match x with
  | .t [.i w, .i s, .i h] => (rowN w s h).map t5
  | _ => []
theorem lats_fold (n : Int) : ((latsD n).map foldD).flatten = (canon n).map t5 := by
  unfold latsD canon wsN
  induction List.range n.toNat with
  | nil => rfl
  | cons k l ih =>
    rw [List.map_cons, List.flatten_cons, List.map_append, List.flatten_append, ih]
    by_cases c : n % (1 + (k : Int)) = 0
    · rw [List.filter_cons_of_pos (by rw [decide_eq_true c]), List.map_cons, List.flatMap_cons, List.map_append]
      congr 1
      unfold rowD fullN
      rw [if_pos c, show (1 + (k : Int)).toNat = k + 1 by omega, List.map_map, List.flatMap_def, List.map_flatten, List.map_map]
      rfl
    · rw [List.filter_cons_of_neg (by rw [decide_eq_false c]; exact Bool.false_ne_true)]
      unfold rowD
      rw [if_neg c]
      rfl
theorem zss_map {f : Nat → List D} {n : Nat} {zss : List (List D)} (l : zss.length = n) (h : ∀ k ys, zss[k]? = some ys → ys = f k) : zss = (List.range n).map f := by
  subst l
  refine List.ext_getElem (by simp) fun k h1 h2 => ?_
  rw [List.getElem_map, List.getElem_range]
  exact h k _ (List.getElem?_eq_getElem h1)
def f0 : F5 := (0, 0, 0, 0, 0)
def due (L : List Pr) : List F5 := (canon (2 * (L.length : Int))).filter (okB L)
def S_turned_floors (CS : Addr) : List D → (D → Prop) → Prop := fun ds Q => match ds with
  | [d] => ∃ L : List Pr, d = shp CS L ∧ 0 < L.length ∧ L.length ≤ 6 ∧ Q (.t ((due L).map t5))
  | _ => False
theorem len_turned_floors {CS : Addr} : ∀ ds P, S_turned_floors CS ds P → ds.length = P_turned_floors.length := fun ds P h => by
  unfold S_turned_floors at h
  split at h <;> first | rfl | exact h.elim
theorem d_turned_floors (Df : DefIn K mg "turned_floors" s_turned_floors P_turned_floors) (T : Txt mg) (SG_len : DO.SpG P w K mg base CS "__len__" 1 (S_m_len CS)) (D_check_shape : DOk P w K mg base "check_shape" s_check_shape 1 P_check_shape (S_check_shape CS)) (D_lattices_with : DOk P w K mg base "lattices_with" s_lattices_with 1 P_lattices_with S_lattices_with) (D_is_floor : DOk P w K mg base "is_floor" s_is_floor 4 P_is_floor (S_is_floor CS)) : DOk P w K mg base "turned_floors" s_turned_floors 5 P_turned_floors (S_turned_floors CS) := by
  have SC := sc_turned_floors
  refine dok (k := 4) Df sc_turned_floors (len_turned_floors) (body := fun f cdv A outer s H E hr hg => ⟨_, _, (pss_cons (ps_expr (pe_callD D_check_shape.d (hr.mono (by decide)) hg (pa_cons (pv 0) pa_nil))) (pss_cons (ps_if (pt_cmpR op_gt (pe_callB (DO.cr_lenG SG_len (hr.mono (by decide)) hg) (by rfl) T.z_len (by decide +kernel) (pa_cons (pv 0) pa_nil)) (pe_gint T.m_MOST_TO_TURN) (nomark _)) (pss_one ps_never) pss_nil) (pss_cons (LCN.ps_setLc3 (i := 1) (own := [("c", 5), ("d", 6), ("wide", 2), ("slip", 3), ("high", 4)]) (vs1 := [5, 6]) (vs2 := [6]) (g := (gTup K 3 (gCons (gName 2) (gCons (gName 3) (gCons (gName 4) gNil))))) (tt := tYes) (g1 := (gName 5)) (tt1 := tYes) (g2 := (gName 6)) (tt2 := tYes) (by rfl) SC.nd rfl rfl (sw_true rfl rfl rfl (by decide +kernel)) (kx_piList K (pe_callD D_lattices_with.d (hr.mono (by decide)) hg (pa_cons (pe_op op_mul pe_int (pe_callB (DO.cr_lenG SG_len (hr.mono (by decide)) hg) (by rfl) T.z_len (by decide +kernel) (pa_cons (pv 0) pa_nil))) pa_nil))) (blkOk_by (own := [("c", 5), ("d", 6), ("wide", 2), ("slip", 3), ("high", 4)]) (N := N_turned_floors) (sc := defScope s_turned_floors) (by decide +kernel)) (by decide) (by decide) (fun _ _ _ _ _ => (kx_pgTup (n := 3) K rfl (pgs_cons (pg_name (i := 2) SC.nd rfl (Or.inl rfl)) (pgs_cons (pg_name (i := 3) SC.nd rfl (Or.inl rfl)) (pgs_cons (pg_name (i := 4) SC.nd rfl (Or.inl rfl)) pgs_nil))) (by rfl))) (fun _ _ _ _ _ => pts_nil) (fun _ _ _ _ _ => (pi_range1 (by rfl) T.z_range (pa_cons (pv 2) pa_nil))) (fun _ _ _ _ _ => (pg_name (i := 5) SC.nd rfl (Or.inl rfl))) (fun _ _ _ _ _ => pts_nil) (fun _ _ _ _ _ => (pi_range1 (by rfl) T.z_range (pa_cons (pv 4) pa_nil))) (fun _ _ _ _ _ => (pg_name (i := 6) SC.nd rfl (Or.inl rfl))) (fun _ _ _ _ _ => pts_nil) (fun _ _ _ _ _ => (pe_tup (pa_cons (pv 2) (pa_cons (pv 3) (pa_cons (pv 4) (pa_cons (pv 5) (pa_cons (pv 6) pa_nil)))))))) (pss_one (ps_ret (pe_callTy (kx_tupleOf K) (by rfl) T.z_tuple (by decide +kernel) (pa_cons (pe_lc (own := [("floor", 7)]) (g := (gName 7)) (by rfl) SC.nd (kx_piList K (pv 1)) (blkOk_by (own := [("floor", 7)]) (N := N_turned_floors) (sc := defScope s_turned_floors) (by decide +kernel)) (fun _ _ _ _ _ => (pg_name (i := 7) SC.nd rfl (Or.inl rfl))) (fun _ _ _ _ _ => (pts_one (pt_val (pe_callD D_is_floor.d (hr.mono (by decide)) hg (pa_cons (pv 0) (pa_cons (pv 7) pa_nil)))))) (fun _ _ _ _ _ => (pv 7))) pa_nil))))))), (s_seq (s_drop (e_call (a_cons e_var a_nil))) (s_seq (s_if (t_test (e_op o_gt (DO.e_lenO' e_var) e_int)) s_never s_next) (s_seq (s_asg (e_f (f_lcN (i_list (e_call (a_cons (e_op o_mul e_int (DO.e_lenO' e_var)) a_nil))) (g_tup (gs_cons g_name (gs_cons g_name (gs_cons g_name gs_nil)))) t_yes (a_cl (i_rng1 (a_cons e_var a_nil)) g_name t_yes (a_cl (i_rng1 (a_cons e_var a_nil)) g_name t_yes (a_app (e_tup (a_cons e_var (a_cons e_var (a_cons e_var (a_cons e_var (a_cons e_var a_nil))))))))))) g_name) (s_ret (e_cb c_tupleOf (a_cons (e_f (f_lc (i_list e_var) g_name (t_B (e_call (a_cons e_var (a_cons e_var a_nil)))) e_var)) a_nil)))))), ?_⟩)
  clear hr hg
  intro ds Q h
  unfold S_turned_floors at h
  split at h
  · obtain ⟨L, rfl, l0, l6, h⟩ := h
    rw [show startG N_turned_floors.length [shp CS L] = [.d (shp CS L), .u, .u, .u, .u, .u, .u, .u] from rfl]
    refine ⟨⟨L, rfl⟩, ?_⟩
    dsimp only [wgName, put]
    refine ⟨⟨_, _, rfl⟩, L, rfl, by omega, ⟨_, rfl, by omega, by omega⟩, ⟨fun z => absurd (of_decide_eq_true z) (by omega), fun _ => ?_⟩⟩
    refine ⟨⟨_, _, rfl⟩, L, rfl, by omega, ⟨_, rfl, by omega, by omega⟩, .inl ⟨by decide, by decide⟩, ⟨by omega, by omega⟩, ?_⟩
    have l28 := lats_len (n := 2 * (L.length : Int)) (2 * (L.length : Int)).toNat (by omega)
    have l288 : (latsD (2 * (L.length : Int))).length ≤ 288 := Nat.le_trans l28 (by omega)
    refine ⟨12, fun _ => true, fun k ys => ∃ x, (latsD (2 * (L.length : Int)))[k]? = some x ∧ ys = foldD x, by omega, fun k x hx => ?_, fun zss zl zp => ?_⟩
    · obtain ⟨w, s, h', rfl, I, wh, w24, h24⟩ := lats_mem (by omega) (by omega) (List.mem_of_getElem? hx)
      obtain ⟨w0, _, s0, s1, h0, _⟩ := I
      have wn := toNat_mul w0 h0
      refine ⟨rfl, rfl, fun _ => ⟨⟨by omega, by omega⟩, rfl, h'.toNat, fun _ => true, fun c ys => ys = (cellN w s h' c).map t5, by rw [rngD_len]; omega, fun c y hy => ?_, fun zss zl zp => ⟨_, hx, ?_⟩⟩⟩
      · obtain ⟨hc, rfl⟩ := rngD_get' hy
        refine ⟨rfl, fun _ => ⟨⟨by omega, by omega⟩, rfl, 1, fun _ => true, fun d ys => ys = [t5 (w, s, h', c, d)], by rw [rngD_len]; omega, fun d y hy => ?_, fun zss zl zp => ?_⟩⟩
        · obtain ⟨hd, rfl⟩ := rngD_get' hy
          rw [Int.zero_add, Int.zero_add]
          exact ⟨rfl, fun _ => ⟨Nat.le_refl 1, by show 5 ≤ 100000; decide, rfl⟩⟩
        · rw [rngD_len] at zl
          have e := zss_map zl fun k ys hk => zp k ys hk
          rw [e]
          show _ = (cellN w s h' c).map t5
          unfold cellN
          generalize h'.toNat = n
          rw [List.map_map]
          induction List.range n with
          | nil => rfl
          | cons a l ih => rw [List.map_cons, List.flatten_cons, ih]; rfl
      · rw [rngD_len] at zl
        have e := zss_map zl fun k ys hk => zp k ys hk
        rw [e]
        show _ = (rowN w s h').map t5
        unfold rowN
        rw [List.flatMap_def, List.map_flatten, List.map_map]
        rfl
    · have e : zss = (latsD (2 * (L.length : Int))).map foldD := by
        refine List.ext_getElem (by rw [List.length_map]; exact zl) fun k h1 h2 => ?_
        rw [List.getElem_map]
        obtain ⟨x, hx, e⟩ := zp k _ (List.getElem?_eq_getElem h1)
        rw [List.length_map] at h2
        rw [List.getElem?_eq_getElem h2] at hx
        cases hx
        exact e
      rw [e, lats_fold]
      dsimp only [wgName, put]
      have cl : (canon (2 * (L.length : Int))).length ≤ 400 := canon_len _ l6
      refine ⟨by rw [List.length_map]; omega, fun k => okB L ((canon (2 * (L.length : Int))).getD k f0), fun k d => d = t5 ((canon (2 * (L.length : Int))).getD k f0), fun k x hx => ?_, fun ys hs => ?_⟩
      · obtain ⟨hk, rfl, m⟩ := getG (d0 := f0) hx
        obtain ⟨g, hg⟩ : ∃ g, (canon (2 * (L.length : Int))).getD k f0 = g := ⟨_, rfl⟩
        rw [hg] at m ⊢
        obtain ⟨w, s, c, d, hw, s0, c0, d0, d1, rfl⟩ := canon_mem.mp m
        obtain ⟨e1, e2, e3⟩ := divs hw
        have b1 : 0 < w ∧ 0 ≤ s ∧ s < w ∧ 0 < 2 * (L.length : Int) / w := by omega
        have b2 : -2 ^ 64 < w ∧ w < 2 ^ 64 := by omega
        refine ⟨L, rfl, by omega, ⟨b1, .inl b2⟩, ?_, fun _ => by show t5 _ = t5 _; rw [hg]⟩
        show _ = okB L ((canon (2 * (L.length : Int))).getD k f0)
        rw [hg, Bool.eq_iff_iff, decide_eq_true_iff, okB_iff m (by omega)]
        have e4 : ((dbl c d L).length : Int) = w * (2 * (L.length : Int) / w) := by rw [dbl_len]; omega
        exact ⟨fun z => z.2, fun z => ⟨e4, z⟩⟩
      · have e := selG (L := canon (2 * (L.length : Int))) (c := okB L) (f := t5) hs (by rw [List.length_map])
        subst e
        exact h
  · exact h.elim
end
end K74
namespace K74
open PySem PySem.Spec PyProof.Rows L2 Evl Lay ErrX DL TE DO ShM PageM CovM BitP FlC
section
variable {P : Program} {w : World} {K : PySem.W.Frag} {mg : Str → Option Value} {base : Heap} {CS : Addr}
def S_made (CS : Addr) : List D → (D → Prop) → Prop := fun ds Q => match ds with
  | [.t xs] => ∃ (L : List Pr) (w h : Nat), xs = L.map pt ∧ Grid L w h ∧ Norm L ∧ L.length ≤ 9 ∧ Q (shp CS L)
  | _ => False
theorem len_made {CS : Addr} : ∀ ds P, S_made CS ds P → ds.length = P_made.length := fun ds P h => by
  unfold S_made at h
  split at h <;> first | rfl | exact h.elim
theorem d_made (Df : DefIn K mg "_law_made" s_made P_made) (T : Txt mg) (MK_Shape : DO.MkOk P w K mg base "Shape" CS 6 ["self", "cells"] (DO.spMk K CS ["_cells"] S_ini)) : DOk P w K mg base "_law_made" s_made 8 P_made (S_made CS) := by
  have SC := sc_made
  refine dok (k := 7) Df sc_made (len_made) (body := fun f cdv A outer s H E hr hg => ⟨_, _, (pss_one (ps_ret (DO.pe_mkG MK_Shape (hr.mono (by decide)) hg (pa_cons (pe_callTy (kx_tupleOf K) (by rfl) T.z_tuple (by decide +kernel) (pa_cons (pv 0) pa_nil)) pa_nil)))), (s_ret (DO.e_mk (a_cons (e_cb c_tupleOf (a_cons e_var a_nil)) a_nil))), ?_⟩)
  clear hr hg
  intro ds Q h
  unfold S_made at h
  split at h
  · obtain ⟨L, w, h', rfl, g, n, l9, h⟩ := h
    have gw := g.w100
    have gh := g.h100
    refine ⟨L, rfl, g.ne, ⟨g.nd, fun p hp => ?_, by omega⟩, fun L' z => ?_⟩
    · have := g.ins p hp
      unfold Place
      omega
    · rw [norm_eq g n (List.Perm.refl _) z]
      exact h
  · exact h.elim
def S_certify_rolled (CS : Addr) : List D → (D → Prop) → Prop := fun ds Q => match ds with
  | [d, .i w, .i h] => ∃ (L : List Pr) (W H : Nat), d = shp CS L ∧ Grid L W H ∧ 0 < L.length ∧ L.length ≤ 24 ∧ Fl w h ∧ w * h ≤ 12 ∧ ∀ c, IsDue L w h c → Q (.t [.t [.s "rolled", .s (pageOf L W H), .i w, .i h, .i ((founds L w h).length : Nat)], c])
  | _ => False
theorem len_certify_rolled {CS : Addr} : ∀ ds P, S_certify_rolled CS ds P → ds.length = P_certify_rolled.length := fun ds P h => by
  unfold S_certify_rolled at h
  split at h <;> first | rfl | exact h.elim
theorem d_certify_rolled (Df : DefIn K mg "certify_rolled" s_certify_rolled P_certify_rolled) (T : Txt mg) (SG_str : DO.SpG P w K mg base CS "__str__" 3 (S_m_str CS)) (D_fillings : DOk P w K mg base "fillings" s_fillings 15 P_fillings (S_fillings CS)) : DOk P w K mg base "certify_rolled" s_certify_rolled 16 P_certify_rolled (S_certify_rolled CS) := by
  have SC := sc_certify_rolled
  refine dok (k := 15) Df sc_certify_rolled (len_certify_rolled) (body := fun f cdv A outer s H E hr hg => ⟨_, _, (pss_cons (ps_set (i := 3) SC.nd rfl (Or.inl rfl) (pe_callD D_fillings.d (hr.mono (by decide)) hg (pa_cons (pv 0) (pa_cons (pv 1) (pa_cons (pv 2) pa_nil))))) (pss_one (ps_ret (pe_tup (pa_cons (pe_tup (pa_cons pe_str (pa_cons (pe_callTy (DO.cr_strG SG_str (hr.mono (by decide)) hg) (by rfl) T.z_str (by decide +kernel) (pa_cons (pv 0) pa_nil)) (pa_cons (pv 1) (pa_cons (pv 2) (pa_cons (pe_callB (kx_len K) (by rfl) T.z_len (by decide +kernel) (pa_cons (pv 3) pa_nil)) pa_nil)))))) (pa_cons (pv 3) pa_nil)))))), (s_seq (s_asg (e_call (a_cons e_var (a_cons e_var (a_cons e_var a_nil)))) g_name) (s_ret (e_tup (a_cons (e_tup (a_cons e_str (a_cons (DO.e_strO e_var) (a_cons e_var (a_cons e_var (a_cons (e_cb c_len (a_cons e_var a_nil)) a_nil)))))) (a_cons e_var a_nil))))), ?_⟩)
  clear hr hg
  intro ds Q h
  unfold S_certify_rolled at h
  split at h
  · rename_i d w h'
    obtain ⟨L, W, H', rfl, g, l0, l1, f, w12, h⟩ := h
    rw [show startG N_certify_rolled.length [shp CS L, .i w, .i h'] = [.d (shp CS L), .d (.i w), .d (.i h'), .u] from rfl]
    refine ⟨L, rfl, l0, l1, f, w12, fun G g1 g2 => ?_⟩
    dsimp only [wgName, put]
    have q := h _ ⟨G, g1, g2, rfl⟩
    rw [← g1.length_eq, ← List.length_map (f := fillD h')] at q
    exact ⟨⟨_, _, rfl⟩, L, W, H', rfl, g, by omega, ⟨_, rfl⟩, by show 5 ≤ 100000; decide, by show 2 ≤ 100000; decide, q⟩
  · exact h.elim
def S_certify_turned (CS : Addr) : List D → (D → Prop) → Prop := fun ds Q => match ds with
  | [d] => ∃ (L : List Pr) (W H : Nat), d = shp CS L ∧ Grid L W H ∧ 0 < L.length ∧ L.length ≤ 6 ∧ (due L = [] → Q .n) ∧ ∀ x X, due L = x :: X → Q (.t [.t [.s "turned", .s (pageOf L W H), t5 x], .t []])
  | _ => False
theorem len_certify_turned {CS : Addr} : ∀ ds P, S_certify_turned CS ds P → ds.length = P_certify_turned.length := fun ds P h => by
  unfold S_certify_turned at h
  split at h <;> first | rfl | exact h.elim
theorem d_certify_turned (Df : DefIn K mg "certify_turned" s_certify_turned P_certify_turned) (T : Txt mg) (SG_str : DO.SpG P w K mg base CS "__str__" 3 (S_m_str CS)) (D_turned_floors : DOk P w K mg base "turned_floors" s_turned_floors 5 P_turned_floors (S_turned_floors CS)) : DOk P w K mg base "certify_turned" s_certify_turned 6 P_certify_turned (S_certify_turned CS) := by
  have SC := sc_certify_turned
  refine dok (k := 5) Df sc_certify_turned (len_certify_turned) (body := fun f cdv A outer s H E hr hg => ⟨_, _, (pss_cons (ps_set (i := 1) SC.nd rfl (Or.inl rfl) (pe_callD D_turned_floors.d (hr.mono (by decide)) hg (pa_cons (pv 0) pa_nil))) (pss_cons (ps_if (pt_cmpR op_eq (pe_callB (kx_len K) (by rfl) T.z_len (by decide +kernel) (pa_cons (pv 1) pa_nil)) pe_int (nomark _)) (pss_one (ps_ret pe_non)) pss_nil) (pss_one (ps_ret (pe_tup (pa_cons (pe_tup (pa_cons pe_str (pa_cons (pe_callTy (DO.cr_strG SG_str (hr.mono (by decide)) hg) (by rfl) T.z_str (by decide +kernel) (pa_cons (pv 0) pa_nil)) (pa_cons (pe_ix (kx_ixT K) (pv 1) pe_int (fun _ _ => rfl)) pa_nil)))) (pa_cons (pe_tup pa_nil) pa_nil))))))), (s_seq (s_asg (e_call (a_cons e_var a_nil)) g_name) (s_seq (s_if (t_test (e_op o_eqS (e_cb c_len (a_cons e_var a_nil)) e_int)) (s_ret e_non) s_next) (s_ret (e_tup (a_cons (e_tup (a_cons e_str (a_cons (DO.e_strO e_var) (a_cons (e_op o_ixT e_var e_int) a_nil)))) (a_cons (e_tup a_nil) a_nil)))))), ?_⟩)
  clear hr hg
  intro ds Q h
  unfold S_certify_turned at h
  split at h
  · obtain ⟨L, W, H', rfl, g, l0, l1, h1, h2⟩ := h
    rw [show startG N_certify_turned.length [shp CS L] = [.d (shp CS L), .u] from rfl]
    refine ⟨L, rfl, l0, l1, ?_⟩
    dsimp only [wgName, put]
    cases e : due L with
    | nil => exact ⟨fun _ => h1 e, fun z => absurd (of_decide_eq_false z) (fun c => c rfl)⟩
    | cons x X =>
      refine ⟨fun z => ?_, fun _ => ?_⟩
      · have z := of_decide_eq_true z
        rw [List.map_cons, List.length_cons] at z
        omega
      · refine ⟨⟨_, _, rfl⟩, L, W, H', rfl, g, by omega, ⟨_, rfl⟩, _, L2.atI_nat (xs := (x :: X).map t5) (j := 0) (v := t5 x) rfl, by show 3 ≤ 100000; decide, by show 0 ≤ 100000; decide, by show 2 ≤ 100000; decide, h2 x X e⟩
  · exact h.elim
end
end K74
namespace K74
open PySem PySem.Spec PyProof.Rows L2 Evl Lay ErrX DL TE DO ShM PageM CovM BitP FlC
section
variable {P : Program} {w : World} {K : PySem.W.Frag} {mg : Str → Option Value} {base : Heap} {CS : Addr}
def S_whole : List D → (D → Prop) → Prop := fun ds Q => match ds with
  | [x] => plainD x = true ∧ Q (.b (isIntD x))
  | _ => False
theorem len_whole : ∀ ds P, S_whole ds P → ds.length = P_whole.length := fun ds P h => by
  unfold S_whole at h
  split at h <;> first | rfl | exact h.elim
theorem d_whole (Df : DefIn K mg "_law_whole" s_whole P_whole) (T : Txt mg) : DOk P w K mg base "_law_whole" s_whole 1 P_whole S_whole := by
  have SC := sc_whole
  refine dok (k := 0) Df sc_whole (len_whole) (body := fun f cdv A outer s H E hr hg => ⟨_, _, (pss_one (ps_ret (pe_and (pe_callB (kx_isi K) (by rfl) T.z_isinstance (by decide +kernel) (pa_cons (pv 0) (pa_cons (pe_gty T.z_int PyProof.Rows.Boot.«int») pa_nil))) (pe_one (pe_not (pe_callB (kx_isi K) (by rfl) T.z_isinstance (by decide +kernel) (pa_cons (pv 0) (pa_cons (pe_gty T.z_bool PyProof.Rows.Boot.«bool») pa_nil)))))))), (s_ret (e_andV (e_isi (fun _ _ => tab_int) e_var) (e_notV (e_isi (fun _ _ => tab_bool) e_var)))), ?_⟩)
  clear hr hg
  intro ds Q h
  unfold S_whole at h
  split at h
  · rename_i x
    obtain ⟨nv, h⟩ := h
    cases x with
    | i v => exact ⟨fun _ => h, fun z => nomatch z⟩
    | b v => exact ⟨fun _ => h, fun z => nomatch z⟩
    | o _ _ _ => cases nv
    | j => cases nv
    | p _ => cases nv
    | c _ => cases nv
    | T _ => cases nv
    | _ => exact ⟨(fun z => nomatch z), fun _ => h⟩
  · exact h.elim
def S_left : List D → (D → Prop) → Prop := fun ds Q => match ds with
  | [.t [.i w, .i s, .i h], .t [.i x, .i y]] => IsLat w s h ∧ Q (pt (rest w s h (x, y)))
  | _ => False
theorem len_left : ∀ ds P, S_left ds P → ds.length = P_left.length := fun ds P h => by
  unfold S_left at h
  split at h <;> first | rfl | exact h.elim
theorem d_left (Df : DefIn K mg "_law_left" s_left P_left) (T : Txt mg) : DOk P w K mg base "_law_left" s_left 1 P_left S_left := by
  have SC := sc_left
  refine dok (k := 0) Df sc_left (len_left) (body := fun f cdv A outer s H E hr hg => ⟨_, _, (pss_cons (ps_asg (pv 0) (kx_pgTup (n := 3) K rfl (pgs_cons (pg_name (i := 2) SC.nd rfl (Or.inl rfl)) (pgs_cons (pg_name (i := 3) SC.nd rfl (Or.inl rfl)) (pgs_cons (pg_name (i := 4) SC.nd rfl (Or.inl rfl)) pgs_nil))) (by rfl))) (pss_cons (ps_set (i := 5) SC.nd rfl (Or.inl rfl) (pe_op op_fdiv (pe_op op_sub (pe_ix (kx_ixT K) (pv 1) pe_int (fun _ _ => rfl)) (pe_op op_mod (pe_callTy call_int1 (by rfl) T.z_int (by decide +kernel) (pa_cons (pe_ix (kx_ixT K) (pv 1) pe_int (fun _ _ => rfl)) pa_nil)) (pv 4))) (pv 4))) (pss_one (ps_ret (pe_tup (pa_cons (pe_op op_mod (pe_callTy call_int1 (by rfl) T.z_int (by decide +kernel) (pa_cons (pe_op op_sub (pe_ix (kx_ixT K) (pv 1) pe_int (fun _ _ => rfl)) (pe_op op_mul (pv 5) (pv 3))) pa_nil)) (pv 2)) (pa_cons (pe_op op_mod (pe_callTy call_int1 (by rfl) T.z_int (by decide +kernel) (pa_cons (pe_ix (kx_ixT K) (pv 1) pe_int (fun _ _ => rfl)) pa_nil)) (pv 4)) pa_nil))))))), (s_seq (s_asg e_var (g_tup (gs_cons g_name (gs_cons g_name (gs_cons g_name gs_nil))))) (s_seq (s_asg (e_op o_fdiv (e_op o_sub (e_op o_ixT e_var e_int) (e_op o_mod (e_cb c_int1 (a_cons (e_op o_ixT e_var e_int) a_nil)) e_var)) e_var) g_name) (s_ret (e_tup (a_cons (e_op o_mod (e_cb c_int1 (a_cons (e_op o_sub (e_op o_ixT e_var e_int) (e_op o_mul e_var e_var)) a_nil)) e_var) (a_cons (e_op o_mod (e_cb c_int1 (a_cons (e_op o_ixT e_var e_int) a_nil)) e_var) a_nil)))))), ?_⟩)
  clear hr hg
  intro ds Q h
  unfold S_left at h
  split at h
  · rename_i w s h' x y
    obtain ⟨⟨h1, h2, h3, h4, h5, h6⟩, h⟩ := h
    rw [show startG N_left.length [.t [.i w, .i s, .i h'], .t [.i x, .i y]] = [.d (.t [.i w, .i s, .i h']), .d (.t [.i x, .i y]), .u, .u, .u, .u] from rfl]
    refine ⟨rfl, ?_⟩
    dsimp only [wgName, put]
    refine ⟨_, rfl, _, rfl, h5, ⟨h5, by omega⟩, ?_⟩
    dsimp only [wgName, put]
    refine ⟨_, rfl, .inr ⟨by omega, by omega⟩, h1, _, rfl, h5, by show 2 ≤ 100000; decide, ?_⟩
    have e : (y - y % h') / h' = y / h' := by
      have := Int.mul_ediv_add_emod y h'
      have e2 : y - y % h' = h' * (y / h') := by omega
      rw [e2, Int.mul_ediv_cancel_left _ (by omega)]
    show Q (.t [.i ((x - (y - y % h') / h' * s) % w), .i (y % h')])
    rw [e]
    exact h
  · exact h.elim
theorem nd_by_len {V : List Pr} {U : List (List Int)} (nd : U.Nodup) (mem : ∀ x, x ∈ U ↔ x ∈ V.map fun q => [q.1, q.2]) (l : U.length = V.length) : V.Nodup := by
  refine Classical.byContradiction fun no => ?_
  have sub : U ⊆ (ddq V).map fun q => [q.1, q.2] := fun x hx => by
    obtain ⟨q, hq, rfl⟩ := List.mem_map.mp ((mem x).mp hx)
    exact List.mem_map.mpr ⟨q, mem_ddq.mpr hq, rfl⟩
  have a := List.Nodup.length_le_of_subset nd sub
  rw [List.length_map] at a
  exact no (nd_of_ddq (by omega))
def S_is_grid : List D → (D → Prop) → Prop := fun ds Q => match ds with
  | [.t [.i w, .i s, .i h], .i top] => (w ≤ 1000 ∧ h ≤ 1000 ∧ 1000 ≤ top) ∧ Q (.b (decide (0 < w ∧ 0 ≤ s ∧ s < w ∧ 0 < h)))
  | _ => False
theorem len_is_grid : ∀ ds P, S_is_grid ds P → ds.length = P_is_grid.length := fun ds P h => by
  unfold S_is_grid at h
  split at h <;> first | rfl | exact h.elim
theorem d_is_grid (Df : DefIn K mg "_law_is_grid" s_is_grid P_is_grid) (T : Txt mg) (D_whole : DOk P w K mg base "_law_whole" s_whole 1 P_whole S_whole) : DOk P w K mg base "_law_is_grid" s_is_grid 2 P_is_grid S_is_grid := by
  have SC := sc_is_grid
  refine dok (k := 1) Df sc_is_grid (len_is_grid) (body := fun f cdv A outer s H E hr hg => ⟨_, _, (pss_cons (ps_if (PW.pt (pw_or (pt_not (pt_val (pe_callB (kx_isi K) (by rfl) T.z_isinstance (by decide +kernel) (pa_cons (pv 0) (pa_cons (pe_gty T.z_tuple PyProof.Rows.Boot.«tuple») pa_nil))))) (pw_or (pt_cmpR op_ne (pe_callB (kx_len K) (by rfl) T.z_len (by decide +kernel) (pa_cons (pv 0) pa_nil)) pe_int (nomark _)) (pw_or1 (pt_not (pt_val (pe_callB (kx_all K rfl) (by rfl) T.z_all (by decide +kernel) (pa_cons (pe_lc (own := [("_law_part", 2)]) (g := (gName 2)) (tt := tYes) (by rfl) SC.nd (kx_piTup K (pv 0)) (blkOk_by (own := [("_law_part", 2)]) (N := N_is_grid) (sc := defScope s_is_grid) (by decide +kernel)) (fun _ _ _ _ _ => (pg_name (i := 2) SC.nd rfl (Or.inl rfl))) (fun _ _ _ _ _ => pts_nil) (fun _ _ _ _ _ => (pe_callD D_whole.d (hr.mono (by decide)) hg (pa_cons (pv 2) pa_nil)))) pa_nil)))))))) (pss_one (ps_ret pe_bl)) pss_nil) (pss_one (ps_ret (pe_and (pe_chain op_le op_le pe_int (pe_ix (kx_ixT K) (pv 0) pe_int (fun _ _ => rfl)) (pv 1)) (pe_and (pe_chain op_le op_le pe_int (pe_ix (kx_ixT K) (pv 0) pe_int (fun _ _ => rfl)) (pv 1)) (pe_one (pe_chain op_le op_lt pe_int (pe_ix (kx_ixT K) (pv 0) pe_int (fun _ _ => rfl)) (pe_ix (kx_ixT K) (pv 0) pe_int (fun _ _ => rfl))))))))), (s_seq (s_if (t_or (t_not (t_B (e_isi (fun _ _ => tab_tuple) e_var))) (t_or (t_test (e_op o_neS (e_cb c_len (a_cons e_var a_nil)) e_int)) (t_not (t_B (e_cb c_all (a_cons (e_f (f_lc (i_tup e_var) g_name t_yes (e_call (a_cons e_var a_nil)))) a_nil)))))) (s_ret e_bl) s_next) (s_ret (e_andV (e_chain o_le o_le e_int (e_op o_ixT e_var e_int) e_var) (e_andV (e_chain o_le o_le e_int (e_op o_ixT e_var e_int) e_var) (e_chain o_le o_lt e_int (e_op o_ixT e_var e_int) (e_op o_ixT e_var e_int)))))), ?_⟩)
  clear hr hg
  intro ds Q h
  unfold S_is_grid at h
  split at h
  · rename_i w s h' top
    obtain ⟨⟨w1, h1, t1⟩, h⟩ := h
    rw [show startG N_is_grid.length [.t [.i w, .i s, .i h'], .i top] = [.d (.t [.i w, .i s, .i h']), .d (.i top), .u] from rfl]
    refine ⟨(fun z => nomatch z), fun _ => ⟨(fun z => nomatch z), fun _ => ?_⟩⟩
    refine ⟨by show 3 ≤ 100000; decide, fun _ => true, fun k d => d = .b true, fun k x hx => ?_, fun ys hs => ?_⟩
    · have hx := List.mem_of_getElem? hx
      simp only [List.mem_cons, List.not_mem_nil, or_false] at hx
      rcases hx with rfl | rfl | rfl <;> exact ⟨rfl, fun _ => ⟨rfl, rfl⟩⟩
    · refine ⟨[true, true, true], hs.map.trans rfl, ⟨(fun z => nomatch z), fun _ => ?_⟩⟩
      have hx : ∀ b : Bool, (b = true ↔ (0 < w ∧ 0 ≤ s ∧ s < w ∧ 0 < h')) → Q (.b b) := fun b hb => by
        rw [Bool.eq_iff_iff.mpr (hb.trans decide_eq_true_iff.symm)]
        exact h
      have no : ¬ (0 < w ∧ 0 ≤ s ∧ s < w ∧ 0 < h') → Q (.b false) := fun n => hx false ⟨(fun z => nomatch z), fun a => absurd a n⟩
      refine ⟨_, rfl, ⟨fun z1 => ⟨fun z2 => ?_, fun z2 => absurd (show w ≤ top by omega) (of_decide_eq_false z2)⟩, fun z1 => ⟨(fun z => nomatch z), fun _ => no fun a => of_decide_eq_false z1 (by have := a.1; omega)⟩⟩⟩
      refine ⟨_, rfl, ⟨fun z3 => ⟨fun z4 => ?_, fun z4 => absurd (show h' ≤ top by omega) (of_decide_eq_false z4)⟩, fun z3 => ⟨(fun z => nomatch z), fun _ => no fun a => of_decide_eq_false z3 (by have := a.2.2.2; omega)⟩⟩⟩
      have z1 := of_decide_eq_true z1
      have z3 := of_decide_eq_true z3
      refine ⟨_, rfl, ⟨fun z5 => ⟨_, rfl, hx _ ⟨fun z6 => ⟨by omega, of_decide_eq_true z5, of_decide_eq_true z6, by omega⟩, fun a => decide_eq_true a.2.2.1⟩⟩, fun z5 => no fun a => of_decide_eq_false z5 a.2.1⟩⟩
  · exact h.elim
def S_is_turned : List D → (D → Prop) → Prop := fun ds Q => match ds with
  | [.t xs, x] => ∃ L : List Pr, xs = L.map pt ∧ L.length ≤ 24 ∧ NV x ∧ Sm5 x ∧ Q (.b (floorD L x))
  | _ => False
theorem len_is_turned : ∀ ds P, S_is_turned ds P → ds.length = P_is_turned.length := fun ds P h => by
  unfold S_is_turned at h
  split at h <;> first | rfl | exact h.elim
theorem d_is_turned (Df : DefIn K mg "_law_is_turned" s_is_turned P_is_turned) (T : Txt mg) (D_whole : DOk P w K mg base "_law_whole" s_whole 1 P_whole S_whole) (D_is_grid : DOk P w K mg base "_law_is_grid" s_is_grid 2 P_is_grid S_is_grid) (D_left : DOk P w K mg base "_law_left" s_left 1 P_left S_left) : DOk P w K mg base "_law_is_turned" s_is_turned 3 P_is_turned S_is_turned := by
  have SC := sc_is_turned
  refine dok (k := 2) Df sc_is_turned (len_is_turned) (body := fun f cdv A outer s H E hr hg => ⟨_, _, (pss_cons (ps_if (PW.pt (pw_or (pt_not (pt_val (pe_callB (kx_isi K) (by rfl) T.z_isinstance (by decide +kernel) (pa_cons (pv 1) (pa_cons (pe_gty T.z_tuple PyProof.Rows.Boot.«tuple») pa_nil))))) (pw_or (pt_cmpR op_ne (pe_callB (kx_len K) (by rfl) T.z_len (by decide +kernel) (pa_cons (pv 1) pa_nil)) pe_int (nomark _)) (pw_or1 (pt_not (pt_val (pe_callB (kx_all K rfl) (by rfl) T.z_all (by decide +kernel) (pa_cons (pe_lc (own := [("_law_part", 2)]) (g := (gName 2)) (tt := tYes) (by rfl) SC.nd (kx_piTup K (pv 1)) (blkOk_by (own := [("_law_part", 2)]) (N := N_is_turned) (sc := defScope s_is_turned) (by decide +kernel)) (fun _ _ _ _ _ => (pg_name (i := 2) SC.nd rfl (Or.inl rfl))) (fun _ _ _ _ _ => pts_nil) (fun _ _ _ _ _ => (pe_callD D_whole.d (hr.mono (by decide)) hg (pa_cons (pv 2) pa_nil)))) pa_nil)))))))) (pss_one (ps_ret pe_bl)) pss_nil) (pss_cons (ps_asg (pe_tup (pa_cons (pe_slice (DO.kx_slA K) (pv 1) po_none (po_some pe_int)) (pa_cons (pe_ix (kx_ixT K) (pv 1) pe_int (fun _ _ => rfl)) (pa_cons (pe_ix (kx_ixT K) (pv 1) pe_int (fun _ _ => rfl)) pa_nil)))) (kx_pgTup (n := 3) K rfl (pgs_cons (pg_name (i := 3) SC.nd rfl (Or.inr rfl)) (pgs_cons (pg_name (i := 4) SC.nd rfl (Or.inr rfl)) (pgs_cons (pg_name (i := 5) SC.nd rfl (Or.inr rfl)) pgs_nil))) (by rfl))) (pss_cons (ps_if (PW.pt (pw_or (pt_not (pt_val (pe_callD D_is_grid.d (hr.mono (by decide)) hg (pa_cons (pv 3) (pa_cons (pe_op op_pow pe_int pe_int) pa_nil))))) (pw_or1 (pt_cmpR op_ne (pe_op op_mul (pe_ix (kx_ixT K) (pv 3) pe_int (fun _ _ => rfl)) (pe_ix (kx_ixT K) (pv 3) pe_int (fun _ _ => rfl))) (pe_op op_mul pe_int (pe_callB (kx_len K) (by rfl) T.z_len (by decide +kernel) (pa_cons (pv 0) pa_nil))) (nomark _))))) (pss_one (ps_ret pe_bl)) pss_nil) (pss_cons (ps_if (PW.pt (pw_or (pt_not (pt_chain op_le op_lt pe_int (pv 4) (pe_ix (kx_ixT K) (pv 3) pe_int (fun _ _ => rfl)))) (pw_or1 (pt_not (pt_chain op_le op_lt pe_int (pv 5) (pe_ix (kx_ixT K) (pv 3) pe_int (fun _ _ => rfl))))))) (pss_one (ps_ret pe_bl)) pss_nil) (pss_cons (ps_set (i := 6) SC.nd rfl (Or.inl rfl) (pe_op op_cat (pe_callTy (DO.kx_listOf K) (by rfl) T.z_list (by decide +kernel) (pa_cons (pv 0) pa_nil)) (pe_lc (own := [("_law_x", 7), ("_law_y", 8)]) (g := (gTup K 2 (gCons (gName 7) (gCons (gName 8) gNil)))) (tt := tYes) (by rfl) SC.nd (kx_piTup K (pv 0)) (blkOk_by (own := [("_law_x", 7), ("_law_y", 8)]) (N := N_is_turned) (sc := defScope s_is_turned) (by decide +kernel)) (fun _ _ _ _ _ => (kx_pgTup (n := 2) K rfl (pgs_cons (pg_name (i := 7) SC.nd rfl (Or.inl rfl)) (pgs_cons (pg_name (i := 8) SC.nd rfl (Or.inl rfl)) pgs_nil)) (by rfl))) (fun _ _ _ _ _ => pts_nil) (fun _ _ _ _ _ => (pe_tup (pa_cons (pe_op op_sub (pv 4) (pv 7)) (pa_cons (pe_op op_sub (pv 5) (pv 8)) pa_nil))))))) (pss_one (ps_ret (pe_cmpR op_eq (pe_callB (DO.kx_lenN P w) (by rfl) T.z_len (by decide +kernel) (pa_cons (pe_callTy (DO.cr_setFew rfl hr.units) (by rfl) T.z_set (by decide +kernel) (pa_cons (pe_lc (own := [("_law_spot", 9)]) (g := (gName 9)) (tt := tYes) (by rfl) SC.nd (kx_piList K (pv 6)) (blkOk_by (own := [("_law_spot", 9)]) (N := N_is_turned) (sc := defScope s_is_turned) (by decide +kernel)) (fun _ _ _ _ _ => (pg_name (i := 9) SC.nd rfl (Or.inl rfl))) (fun _ _ _ _ _ => pts_nil) (fun _ _ _ _ _ => (pe_callD D_left.d (hr.mono (by decide)) hg (pa_cons (pv 3) (pa_cons (pv 9) pa_nil))))) pa_nil)) pa_nil)) (pe_callB (kx_len K) (by rfl) T.z_len (by decide +kernel) (pa_cons (pv 6) pa_nil)) (nomark _))))))))), (s_seq (s_if (t_or (t_not (t_B (e_isi (fun _ _ => tab_tuple) e_var))) (t_or (t_test (e_op o_neS (e_cb c_len (a_cons e_var a_nil)) e_int)) (t_not (t_B (e_cb c_all (a_cons (e_f (f_lc (i_tup e_var) g_name t_yes (e_call (a_cons e_var a_nil)))) a_nil)))))) (s_ret e_bl) s_next) (s_seq (s_asg (e_tup (a_cons (DO.e_slA e_var p_none (p_some e_int)) (a_cons (e_op o_ixT e_var e_int) (a_cons (e_op o_ixT e_var e_int) a_nil)))) (g_tup (gs_cons g_name (gs_cons g_name (gs_cons g_name gs_nil))))) (s_seq (s_if (t_or (t_not (t_B (e_call (a_cons e_var (a_cons (e_op o_pow e_int e_int) a_nil))))) (t_test (e_op o_neS (e_op o_mul (e_op o_ixT e_var e_int) (e_op o_ixT e_var e_int)) (e_op o_mul e_int (e_cb c_len (a_cons e_var a_nil)))))) (s_ret e_bl) s_next) (s_seq (s_if (t_or (t_not (t_test (e_chain o_le o_lt e_int e_var (e_op o_ixT e_var e_int)))) (t_not (t_test (e_chain o_le o_lt e_int e_var (e_op o_ixT e_var e_int))))) (s_ret e_bl) s_next) (s_seq (s_asg (e_f (f_cat (e_f (DO.f_listOf (a_cons e_var a_nil))) (e_f (f_lc (i_tup e_var) (g_tup (gs_cons g_name (gs_cons g_name gs_nil))) t_yes (e_tup (a_cons (e_op o_sub e_var e_var) (a_cons (e_op o_sub e_var e_var) a_nil))))))) g_name) (s_ret (e_op o_eqS (DO.e_lsetF (e_f (f_lc (i_list e_var) g_name t_yes (e_call (a_cons e_var (a_cons e_var a_nil)))))) (e_cb c_len (a_cons e_var a_nil))))))))), ?_⟩)
  clear hr hg
  intro ds Q h
  unfold S_is_turned at h
  split at h
  · rename_i xs x
    obtain ⟨L, rfl, l1, nv, sm, h⟩ := h
    rw [show startG N_is_turned.length [.t (L.map pt), x] = [.d (.t (L.map pt)), .d x, .u, .u, .u, .u, .u, .u, .u, .u] from rfl]
    cases nv with
    | @t xs l nv =>
      have no : floorD L (.t xs) ≠ true → Q (.b false) := fun n => by
        rw [Bool.eq_false_iff.mpr n] at h
        exact h
      refine ⟨(fun z => nomatch z), fun _ => ?_⟩
      show ((!decide (((xs.length : Nat) : Int) = 5)) = true → _) ∧ ((!decide (((xs.length : Nat) : Int) = 5)) = false → _)
      refine ⟨fun z => ⟨fun _ => no fun f => ?_, fun z => nomatch z⟩, fun z => ?_⟩
      · obtain ⟨_, _, _, _, _, e, _⟩ := floor_five f
        injection e with e
        rw [e, Bool.not_eq_true'] at z
        exact of_decide_eq_false z rfl
      have l5 : ((xs.length : Nat) : Int) = 5 := by
        rw [Bool.not_eq_false'] at z
        exact of_decide_eq_true z
      refine ⟨by omega, fun _ => true, fun k d => d = .b (isIntD (xs.getD k .n)), fun k x hx => ?_, fun ys hs => ?_⟩
      · have e : xs.getD k .n = x := by rw [List.getD_eq_getElem?_getD, hx]; rfl
        refine ⟨rfl, fun _ => ⟨rd_plain (nv x (List.mem_of_getElem? hx)), ?_⟩⟩
        show D.b (isIntD x) = D.b (isIntD (xs.getD k .n))
        rw [e]
      have e2 : ys = (xs.map isIntD).map D.b := by
        rw [hs.map, List.map_map]
        refine List.ext_getElem (by simp) fun k h1 h2 => ?_
        rw [List.length_map] at h2
        rw [List.getElem_map, List.getElem_map, List.getElem_range, List.getD_eq_getElem?_getD, List.getElem?_eq_getElem h2]
        rfl
      refine ⟨xs.map isIntD, e2, ?_⟩
      rw [List.all_map]
      show ((!xs.all isIntD) = true → _) ∧ ((!xs.all isIntD) = false → _)
      refine ⟨fun z2 => no fun f => ?_, fun z2 => ?_⟩
      · rw [Bool.not_eq_true'] at z2
        obtain ⟨_, _, _, _, _, e, _⟩ := floor_five f
        injection e with e
        rw [e] at z2
        cases z2
      rw [Bool.not_eq_false'] at z2
      obtain ⟨w, s, h', c, d, e⟩ := ints5 (x := .t xs) (by show (decide (((xs.length : Nat) : Int) = 5) && xs.all isIntD) = true; rw [decide_eq_true l5, z2]; rfl)
      injection e with e
      subst e
      obtain ⟨sm1, sm2, sm3⟩ := sm _ _ _ _ _ rfl
      have no : ¬ okF L w s h' c d → Q (.b false) := fun n => no fun f => n (of_decide_eq_true f)
      clear hs e2 z2 l5 z ys
      show wSeq _ _ _ _
      refine ⟨_, rfl, _, rfl, by show 3 ≤ 100000; decide, rfl, ?_⟩
      have ec : DL.cutD [.i w, .i s, .i h', .i c, .i d] none (some (3 : Int)) = [.i w, .i s, .i h'] := rfl
      rw [ec]
      dsimp only [wgName, put]
      refine ⟨⟨by decide, by decide, by decide⟩, ⟨sm2, sm3, by decide⟩, ⟨fun z => ⟨fun _ => no fun f => ?_, fun z => nomatch z⟩, fun z => ?_⟩⟩
      · rw [Bool.not_eq_true'] at z
        obtain ⟨⟨f1, f2, f3, f4, f5, f6, f7⟩, _⟩ := f
        exact of_decide_eq_false z ⟨by omega, f1, f2, by omega⟩
      rw [Bool.not_eq_false'] at z
      obtain ⟨w0, s0, s1, h0⟩ := of_decide_eq_true z
      have I : IsL w s h' := ⟨w0, s0, s1, h0⟩
      refine ⟨_, rfl, _, rfl, .inl ⟨by omega, by omega⟩, .inl ⟨by decide, by decide⟩, ?_⟩
      show ((!decide (w * h' = 2 * (((L.map pt).length : Nat) : Int))) = true → _) ∧ ((!decide (w * h' = 2 * (((L.map pt).length : Nat) : Int))) = false → _)
      rw [List.length_map]
      refine ⟨fun z => no fun f => ?_, fun z => ?_⟩
      · rw [Bool.not_eq_true'] at z
        have := f.2.1
        rw [dbl_len] at this
        exact of_decide_eq_false z (by omega)
      rw [Bool.not_eq_false'] at z
      have wh := of_decide_eq_true z
      have w48 : w ≤ 48 := by
        have := Int.mul_le_mul_of_nonneg_left (show 1 ≤ h' by omega) (Int.le_of_lt w0)
        omega
      have h48 : h' ≤ 48 := by
        have := Int.mul_le_mul_of_nonneg_right (show 1 ≤ w by omega) (Int.le_of_lt h0)
        omega
      show wSeq _ _ _ _
      refine ⟨fun z3 => ⟨_, rfl, ⟨fun z4 => ⟨fun _ => no fun f => ?_, fun z => nomatch z⟩, fun z4 => ?_⟩⟩, fun z3 => ⟨fun _ => ⟨fun _ => no fun f => of_decide_eq_false z3 f.1.2.2.2.1, fun z => nomatch z⟩, fun z => nomatch z⟩⟩
      · rw [Bool.not_eq_true'] at z4
        exact of_decide_eq_false z4 f.1.2.2.2.2.1
      rw [Bool.not_eq_false'] at z4
      have c0 := of_decide_eq_true z3
      have c1 := of_decide_eq_true z4
      refine ⟨fun z5 => ⟨_, rfl, ⟨fun z6 => no fun f => ?_, fun z6 => ?_⟩⟩, fun z5 => ⟨fun _ => no fun f => of_decide_eq_false z5 f.1.2.2.2.2.2.1, fun z => nomatch z⟩⟩
      · rw [Bool.not_eq_true'] at z6
        exact of_decide_eq_false z6 f.1.2.2.2.2.2.2
      rw [Bool.not_eq_false'] at z6
      have d0 := of_decide_eq_true z5
      have d1 := of_decide_eq_true z6
      have ld := dbl_len c d L
      rw [show floorD L (.t [.i w, .i s, .i h', .i c, .i d]) = decide (((dbl c d L).map (rest w s h')).Nodup) from by
        show decide (okF L w s h' c d) = _
        rw [decide_eq_decide]
        exact ⟨fun z => z.2.2, fun z => ⟨⟨s0, s1, by omega, c0, c1, d0, d1⟩, by rw [ld]; omega, z⟩⟩] at h
      show wSeq _ _ _ _
      refine ⟨by rw [List.length_map]; omega, fun _ => true, fun k x => x = pt (c - (L.getD k (0, 0)).1, d - (L.getD k (0, 0)).2), fun k x hx => ?_, fun ys hs => ?_⟩
      · obtain ⟨hk, rfl⟩ := getpt hx
        exact ⟨rfl, rfl, fun _ => ⟨by show 2 ≤ 100000; decide, rfl⟩⟩
      have e1 := selmap (f := fun p => pt (c - p.1, d - p.2)) hs (by rw [List.length_map])
      subst e1
      have cat : L.map pt ++ (L.map fun p => pt (c - p.1, d - p.2)) = (dbl c d L).map pt := by
        unfold dbl
        rw [List.map_append, List.map_map]
        rfl
      refine ⟨by rw [List.length_map, List.length_map]; omega, ?_⟩
      dsimp only [wgName, put]
      rw [cat]
      generalize dbl c d L = N at *
      show wRet _ _ _
      refine ⟨by rw [List.length_map]; omega, fun _ => true, fun k x => x = pt (rest w s h' (N.getD k (0, 0))), fun k x hx => ?_, fun ys hs => ?_⟩
      · obtain ⟨hk, rfl⟩ := getpt hx
        exact ⟨rfl, fun _ => ⟨⟨w0, by omega, s0, s1, h0, by omega⟩, rfl⟩⟩
      have e1 := selmap (f := fun p => pt (rest w s h' p)) hs (by rw [List.length_map])
      subst e1
      refine ⟨N.map fun p => [(rest w s h' p).1, (rest w s h' p).2], by rw [List.map_map]; rfl, fun U nd sub => ?_, fun U nd mem => ?_⟩
      · have := List.Nodup.length_le_of_subset nd sub
        rw [List.length_map] at this
        omega
      · show Q (.b (decide (((U.length : Nat) : Int) = (((N.map pt).length : Nat) : Int))))
        rw [List.length_map]
        have key : ((U.length : Nat) : Int) = ((N.length : Nat) : Int) ↔ (N.map (rest w s h')).Nodup := by
          have m2 : (N.map fun p => [(rest w s h' p).1, (rest w s h' p).2]) = (N.map (rest w s h')).map fun q => [q.1, q.2] := by
            rw [List.map_map]
            rfl
          rw [m2] at mem
          constructor
          · intro e
            exact nd_by_len (V := N.map (rest w s h')) nd mem (by rw [List.length_map]; omega)
          · intro nn
            have inj : ((N.map (rest w s h')).map fun q => [q.1, q.2]).Nodup := by
              rw [List.nodup_iff_pairwise_ne, List.pairwise_map]
              refine (List.nodup_iff_pairwise_ne.mp nn).imp fun {a b} ne e => ne ?_
              injection e with e1 e2
              injection e2 with e2 _
              exact Prod.ext e1 e2
            have := ((List.perm_ext_iff_of_nodup nd inj).mpr mem).length_eq
            rw [List.length_map, List.length_map] at this
            omega
        rw [decide_eq_decide.mpr key]
        exact h
    | _ => exact ⟨fun _ => ⟨fun _ => h, fun z => nomatch z⟩, fun z => nomatch z⟩
  · exact h.elim
theorem cell_len {w s h c : Int} : (cellN w s h c).length = h.toNat := by
  unfold cellN
  rw [List.length_map, List.length_range]
theorem row_len5 {w s h : Int} : (rowN w s h).length ≤ w.toNat * h.toNat := by
  unfold rowN
  have := fm_len (l := List.range w.toNat) (f := fun (c : Nat) => cellN w s h c) (b := h.toNat) fun c _ => by rw [cell_len]; exact Nat.le_refl _
  rw [List.length_range] at this
  exact this
theorem range_fm {α : Type} {f : Nat → List α} {k : Nat} : (List.range (k + 1)).flatMap f = (List.range k).flatMap f ++ f k := by
  rw [List.range_succ, List.flatMap_append]
  simp
def S_grids : List D → (D → Prop) → Prop := fun ds Q => match ds with
  | [.i n] => (1 ≤ n ∧ n ≤ 18) ∧ Q (.l (latsD n))
  | _ => False
theorem len_grids : ∀ ds P, S_grids ds P → ds.length = P_grids.length := fun ds P h => by
  unfold S_grids at h
  split at h <;> first | rfl | exact h.elim
theorem d_grids (Df : DefIn K mg "_law_grids" s_grids P_grids) (T : Txt mg) : DOk P w K mg base "_law_grids" s_grids 1 P_grids S_grids := by
  have SC := sc_grids
  refine dok (k := 0) Df sc_grids (len_grids) (body := fun f cdv A outer s H E hr hg => ⟨_, _, (pss_cons (ps_set (i := 1) SC.nd rfl (Or.inl rfl) (pe_lst pa_nil)) (pss_cons (ps_for PassesOwn.never rfl (pi_range2 (by rfl) T.z_range (pa_cons pe_int (pa_cons (pe_op op_add (pv 0) pe_int) pa_nil))) (pg_name (i := 2) SC.nd rfl (Or.inr rfl)) (pss_one (ps_if (pt_cmpR op_eq (pe_op op_mod (pe_callTy call_int1 (by rfl) T.z_int (by decide +kernel) (pa_cons (pv 0) pa_nil)) (pv 2)) pe_int (nomark _)) (pss_one (ps_set (i := 1) SC.nd rfl (Or.inl rfl) (pe_op op_cat (pv 1) (pe_lc (own := [("_law_s", 3)]) (g := (gName 3)) (tt := tYes) (by rfl) SC.nd (pi_range1 (by rfl) T.z_range (pa_cons (pv 2) pa_nil)) (blkOk_by (own := [("_law_s", 3)]) (N := N_grids) (sc := defScope s_grids) (by decide +kernel)) (fun _ _ _ _ _ => (pg_name (i := 3) SC.nd rfl (Or.inl rfl))) (fun _ _ _ _ _ => pts_nil) (fun _ _ _ _ _ => (pe_tup (pa_cons (pv 2) (pa_cons (pv 3) (pa_cons (pe_op op_fdiv (pv 0) (pv 2)) pa_nil))))))))) pss_nil))) (pss_one (ps_ret (pv 1))))), (s_seq (s_asg (e_f (f_lst a_nil)) g_name) (s_seq (s_for (i_rng2 (a_cons e_int (a_cons (e_op o_add e_var e_int) a_nil))) g_name (s_if (t_test (e_op o_eqS (e_op o_mod (e_cb c_int1 (a_cons e_var a_nil)) e_var) e_int)) (s_asg (e_f (f_cat e_var (e_f (f_lc (i_rng1 (a_cons e_var a_nil)) g_name t_yes (e_tup (a_cons e_var (a_cons e_var (a_cons (e_op o_fdiv e_var e_var) a_nil)))))))) g_name) s_next)) (s_ret e_var))), ?_⟩)
  clear hr hg
  intro ds Q h
  unfold S_grids at h
  split at h
  · rename_i n
    obtain ⟨⟨n1, n2⟩, h⟩ := h
    rw [show startG N_grids.length [.i n] = [.d (.i n), .u, .u, .u] from rfl]
    refine ⟨by show 0 ≤ 100000; decide, ?_⟩
    dsimp only [wgName, put]
    refine ⟨⟨by decide, by decide, by omega, by omega⟩, fun k Γ => ∃ a2 a3, Γ = [.d (.i n), .d (.l (((List.range k).map (rowD n)).flatten)), a2, a3], ⟨_, _, rfl⟩, ?_, ?_⟩
    · rintro k x Γ' hx ⟨a2, a3, rfl⟩
      obtain ⟨hk, rfl⟩ := rngD_get' hx
      have ll := lats_len (n := n) k (by omega)
      have ls := lats_succ (n := n) (k := k)
      generalize ((List.range k).map (rowD n)).flatten = A at ll ls
      dsimp only [wgName, put]
      refine ⟨by omega, ⟨fun z => ?_, fun z => ?_⟩⟩
      · have z := of_decide_eq_true z
        refine ⟨⟨by omega, by omega⟩, by rw [rngD_len]; omega, fun _ => true, fun j d => d = .t [.i (1 + (k : Int)), .i (j : Int), .i (n / (1 + (k : Int)))], fun j y hy => ?_, fun ys hs => ?_⟩
        · obtain ⟨hj, rfl⟩ := rngD_get' hy
          rw [Int.zero_add]
          exact ⟨rfl, fun _ => ⟨⟨by omega, by omega⟩, by show 3 ≤ 100000; decide, rfl⟩⟩
        · have e := hs.map
          rw [rngD_len] at e
          have e : ys = rowD n k := by
            unfold rowD
            rw [if_pos z, e, show (1 + (k : Int)).toNat = k + 1 by omega]
          subst e
          have rl := row_len (n := n) (k := k)
          refine ⟨by omega, ?_⟩
          dsimp only [wgName, put]
          exact ⟨_, _, by rw [ls]⟩
      · have z := of_decide_eq_false z
        exact ⟨_, _, by rw [ls, show rowD n k = [] by unfold rowD; rw [if_neg z], List.append_nil]⟩
    · rintro Γ' ⟨a2, a3, rfl⟩
      rw [rngD_len, show (n + 1 - 1).toNat = n.toNat by omega]
      exact h
  · exact h.elim
/-- the turned floors of a lattice -/
def foldF (L : List Pr) (x : D) : List D := match x with
  | .t [.i w, .i s, .i h] => ((rowN w s h).filter (okB L)).map t5
  | _ => []
theorem lats_due (L : List Pr) (n : Int) : ((latsD n).map (foldF L)).flatten = ((canon n).filter (okB L)).map t5 := by
  have e : (latsD n).map (foldF L) = ((latsD n).map foldD).map (List.filter (floorD L)) := by
    rw [List.map_map]
    refine List.map_congr_left fun x _ => ?_
    show foldF L x = (foldD x).filter (floorD L)
    unfold foldF foldD
    split
    · rw [List.filter_map]
      rfl
    · rename_i no
      first
        | rfl
        | (split <;> first | rfl | exact (no _ _ _ rfl).elim)
  rw [e, ← List.filter_flatten, lats_fold, List.filter_map]
  rfl
theorem foldF_len {L : List Pr} {n : Int} (n1 : 1 ≤ n) (n8 : n ≤ 8) : ∀ xs : List D, (∀ x ∈ xs, x ∈ latsD n) → ((xs.map (foldF L)).flatten).length ≤ 8 * xs.length
  | [], _ => by simp
  | x :: xs, h => by
    have := foldF_len (L := L) n1 n8 xs fun y hy => h y (List.mem_cons_of_mem _ hy)
    rw [List.map_cons, List.flatten_cons, List.length_append, List.length_cons]
    obtain ⟨w, s, h', rfl, I, e, w8, h8⟩ := lats_mem n1 (by omega) (h x (List.mem_cons_self ..))
    have a : (foldF L (.t [.i w, .i s, .i h'])).length ≤ w.toNat * h'.toNat := by
      show (((rowN w s h').filter (okB L)).map t5).length ≤ _
      rw [List.length_map]
      exact Nat.le_trans (List.length_filter_le _ _) row_len5
    have b := toNat_mul I.1 I.2.2.2.2.1
    omega
def S_all_turned : List D → (D → Prop) → Prop := fun ds Q => match ds with
  | [.t xs] => ∃ L : List Pr, xs = L.map pt ∧ 0 < L.length ∧ L.length ≤ 4 ∧ Q (.t ((due L).map t5))
  | _ => False
theorem len_all_turned : ∀ ds P, S_all_turned ds P → ds.length = P_all_turned.length := fun ds P h => by
  unfold S_all_turned at h
  split at h <;> first | rfl | exact h.elim
theorem d_all_turned (Df : DefIn K mg "_law_all_turned" s_all_turned P_all_turned) (T : Txt mg) (D_grids : DOk P w K mg base "_law_grids" s_grids 1 P_grids S_grids) (D_is_turned : DOk P w K mg base "_law_is_turned" s_is_turned 3 P_is_turned S_is_turned) : DOk P w K mg base "_law_all_turned" s_all_turned 4 P_all_turned S_all_turned := by
  have SC := sc_all_turned
  refine dok (k := 3) Df sc_all_turned (len_all_turned) (body := fun f cdv A outer s H E hr hg => ⟨_, _, (pss_cons (ps_set (i := 1) SC.nd rfl (Or.inl rfl) (pe_lst pa_nil)) (pss_cons (ps_for PassesOwn.never rfl (kx_piList K (pe_callD D_grids.d (hr.mono (by decide)) hg (pa_cons (pe_op op_mul pe_int (pe_callB (kx_len K) (by rfl) T.z_len (by decide +kernel) (pa_cons (pv 0) pa_nil))) pa_nil))) (pg_name (i := 2) SC.nd rfl (Or.inr rfl)) (pss_one (ps_for PassesOwn.never rfl (pi_range1 (by rfl) T.z_range (pa_cons (pe_ix (kx_ixT K) (pv 2) pe_int (fun _ _ => rfl)) pa_nil)) (pg_name (i := 3) SC.nd rfl (Or.inr rfl)) (pss_cons (ps_setLc (i := 4) (own := [("_law_d", 5)]) (g := (gName 5)) (tt := tYes) (by rfl) SC.nd rfl rfl (sw_true rfl rfl rfl (by decide +kernel)) (pi_range1 (by rfl) T.z_range (pa_cons (pe_ix (kx_ixT K) (pv 2) pe_int (fun _ _ => rfl)) pa_nil)) (blkOk_by (own := [("_law_d", 5)]) (N := N_all_turned) (sc := defScope s_all_turned) (by decide +kernel)) (fun _ _ _ _ _ => (pg_name (i := 5) SC.nd rfl (Or.inl rfl))) (fun _ _ _ _ _ => pts_nil) (fun _ _ _ _ _ => (pe_op (DO.kx_catT K) (pv 2) (pe_tup (pa_cons (pv 3) (pa_cons (pv 5) pa_nil)))))) (pss_one (ps_set (i := 1) SC.nd rfl (Or.inl rfl) (pe_op op_cat (pv 1) (pe_lc (own := [("_law_each", 6)]) (g := (gName 6)) (by rfl) SC.nd (kx_piList K (pv 4)) (blkOk_by (own := [("_law_each", 6)]) (N := N_all_turned) (sc := defScope s_all_turned) (by decide +kernel)) (fun _ _ _ _ _ => (pg_name (i := 6) SC.nd rfl (Or.inl rfl))) (fun _ _ _ _ _ => (pts_one (pt_val (pe_callD D_is_turned.d (hr.mono (by decide)) hg (pa_cons (pv 0) (pa_cons (pv 6) pa_nil)))))) (fun _ _ _ _ _ => (pv 6)))))))))) (pss_one (ps_ret (pe_callTy (kx_tupleOf K) (by rfl) T.z_tuple (by decide +kernel) (pa_cons (pv 1) pa_nil)))))), (s_seq (s_asg (e_f (f_lst a_nil)) g_name) (s_seq (s_for (i_list (e_call (a_cons (e_op o_mul e_int (e_cb c_len (a_cons e_var a_nil))) a_nil))) g_name (s_for (i_rng1 (a_cons (e_op o_ixT e_var e_int) a_nil)) g_name (s_seq (s_asg (e_f (f_lc (i_rng1 (a_cons (e_op o_ixT e_var e_int) a_nil)) g_name t_yes (e_op DO.o_catT e_var (e_tup (a_cons e_var (a_cons e_var a_nil)))))) g_name) (s_asg (e_f (f_cat e_var (e_f (f_lc (i_list e_var) g_name (t_B (e_call (a_cons e_var (a_cons e_var a_nil)))) e_var)))) g_name)))) (s_ret (e_cb c_tupleOf (a_cons e_var a_nil))))), ?_⟩)
  clear hr hg
  intro ds Q h
  unfold S_all_turned at h
  split at h
  · rename_i xs
    obtain ⟨L, rfl, l0, l4, h⟩ := h
    rw [show startG N_all_turned.length [.t (L.map pt)] = [.d (.t (L.map pt)), .u, .u, .u, .u, .u, .u] from rfl]
    refine ⟨by show 0 ≤ 100000; decide, ?_⟩
    dsimp only [wgName, put]
    refine ⟨.inl ⟨by decide, by decide⟩, ?_⟩
    show S_grids [.i (2 * (((L.map pt).length : Nat) : Int))] _
    rw [List.length_map]
    refine ⟨⟨by omega, by omega⟩, ?_⟩
    obtain ⟨n, hn⟩ : ∃ n : Int, 2 * (L.length : Int) = n := ⟨_, rfl⟩
    rw [hn]
    have lat := fun x hx => lats_mem (n := n) (x := x) (by omega) (by omega) hx
    have tot := lats_len (n := n) n.toNat (by omega)
    rw [show ((List.range n.toNat).map (rowD n)).flatten = latsD n from rfl] at tot
    refine ⟨fun k Γ => ∃ a2 a3 a4 a5 a6, Γ = [.d (.t (L.map pt)), .d (.l ((((latsD n).take k).map (foldF L)).flatten)), a2, a3, a4, a5, a6], ⟨_, _, _, _, _, rfl⟩, ?_, ?_⟩
    · rintro k x Γ' hx ⟨a2, a3, a4, a5, a6, rfl⟩
      obtain ⟨kl, ek⟩ := List.getElem?_eq_some_iff.mp hx
      have al := foldF_len (L := L) (n := n) (by omega) (by omega) ((latsD n).take k) fun y hy => List.mem_of_mem_take hy
      have al2 : ((latsD n).take k).length ≤ k := List.length_take_le _ _
      have tk : (((latsD n).take (k + 1)).map (foldF L)).flatten = (((latsD n).take k).map (foldF L)).flatten ++ foldF L x := by
        rw [List.take_succ_eq_append_getElem kl, ek, List.map_append, List.flatten_append]
        simp
      obtain ⟨w, s, h', rfl, I, e, w8, h8⟩ := lat x (List.mem_of_getElem? hx)
      have w0 := I.1
      have h0 := I.2.2.2.2.1
      have wl : w ≤ 8 := by
        have := Int.mul_le_mul_of_nonneg_left (show 1 ≤ h' by omega) (Int.le_of_lt w0)
        omega
      have hl : h' ≤ 8 := by
        have := Int.mul_le_mul_of_nonneg_right (show 1 ≤ w by omega) (Int.le_of_lt h0)
        omega
      generalize (((latsD n).take k).map (foldF L)).flatten = A at al tk
      have tk : (((latsD n).take (k + 1)).map (foldF L)).flatten = A ++ ((rowN w s h').filter (okB L)).map t5 := tk
      dsimp only [wgName, put]
      refine ⟨_, rfl, ⟨by omega, by omega⟩, fun j Γ => ∃ a3 a4 a5 a6, Γ = [.d (.t (L.map pt)), .d (.l (A ++ (((List.range j).flatMap fun (c : Nat) => cellN w s h' c).filter (okB L)).map t5)), .d (.t [.i w, .i s, .i h']), a3, a4, a5, a6], ⟨_, _, _, _, by rw [show (A ++ (((List.range 0).flatMap fun (c : Nat) => cellN w s h' c).filter (okB L)).map t5) = A from List.append_nil A]⟩, ?_, ?_⟩
      · rintro j x Γ' hj ⟨a3, a4, a5, a6, rfl⟩
        obtain ⟨hjl, rfl⟩ := rngD_get' hj
        rw [Int.zero_add]
        have bl : (A ++ (((List.range j).flatMap fun (c : Nat) => cellN w s h' c).filter (okB L)).map t5).length ≤ 10000 := by
          have cl := fm_len (l := List.range j) (f := fun (c : Nat) => cellN w s h' c) (b := h'.toNat) fun c _ => by rw [cell_len]; exact Nat.le_refl _
          rw [List.length_range] at cl
          have cl2 : j * h'.toNat ≤ 8 * 8 := Nat.mul_le_mul (by omega) (by omega)
          have fl := List.length_filter_le (okB L) ((List.range j).flatMap fun (c : Nat) => cellN w s h' c)
          rw [List.length_append, List.length_map]
          omega
        have nx : (A ++ (((List.range (j + 1)).flatMap fun (c : Nat) => cellN w s h' c).filter (okB L)).map t5) = (A ++ (((List.range j).flatMap fun (c : Nat) => cellN w s h' c).filter (okB L)).map t5) ++ ((cellN w s h' j).filter (okB L)).map t5 := by
          rw [range_fm, List.filter_append, List.map_append, ← List.append_assoc]
        generalize (A ++ (((List.range j).flatMap fun (c : Nat) => cellN w s h' c).filter (okB L)).map t5) = B at bl nx
        dsimp only [wgName, put]
        refine ⟨_, rfl, ⟨by omega, by omega⟩, by rw [rngD_len]; omega, fun _ => true, fun m z => z = t5 (w, s, h', (j : Int), (m : Int)), fun m z hz => ?_, fun zs hs => ?_⟩
        · obtain ⟨hm, rfl⟩ := rngD_get' hz
          rw [Int.zero_add]
          exact ⟨rfl, fun _ => ⟨by show 2 ≤ 100000; decide, _, _, rfl, rfl, by show 5 ≤ 100000; decide, rfl⟩⟩
        have e := hs.map
        rw [rngD_len] at e
        have e : zs = (cellN w s h' j).map t5 := by
          rw [e]
          unfold cellN
          rw [List.map_map]
          rfl
        subst e
        have lc : (cellN w s h' j).length ≤ 8 := by rw [cell_len]; omega
        have lf : ((cellN w s h' j).filter (okB L)).length ≤ 8 := Nat.le_trans (List.length_filter_le _ _) lc
        dsimp only [wgName, put]
        refine ⟨by rw [List.length_map]; omega, fun k => okB L ((cellN w s h' j).getD k f0), fun k d => d = t5 ((cellN w s h' j).getD k f0), fun k x hx => ?_, fun us hs2 => ?_⟩
        · obtain ⟨hk, rfl, m⟩ := getG (d0 := f0) hx
          obtain ⟨g, hg⟩ : ∃ g, (cellN w s h' j).getD k f0 = g := ⟨_, rfl⟩
          rw [hg] at m ⊢
          obtain ⟨d, d0, d1, rfl⟩ := cell_mem.mp m
          have s0 := I.2.2.1
          have s1 := I.2.2.2.1
          have sm : ∀ m : Int, 0 ≤ m → m ≤ 8 → RD 4 (.i m) := fun m a b => .small (by omega) (by omega)
          refine ⟨L, rfl, by omega, .t (by show 5 ≤ 1000; decide) (rds_cons (sm w (by omega) (by omega)) (rds_cons (sm s (by omega) (by omega)) (rds_cons (sm h' (by omega) (by omega)) (rds_cons (sm j (by omega) (by omega)) (rds_cons (sm d (by omega) (by omega)) rds_nil))))), ?_, by show _ = okB L _; rw [hg]; rfl, fun _ => by show _ = t5 _; rw [hg]⟩
          intro _ _ _ _ _ e
          unfold t5 at e
          simp only [D.t.injEq, List.cons.injEq, D.i.injEq, and_true] at e
          obtain ⟨rfl, rfl, rfl, rfl, rfl⟩ := e
          exact ⟨by omega, by omega, by omega⟩
        have e := selG (L := cellN w s h' j) (c := okB L) (f := t5) hs2 (by rw [List.length_map])
        subst e
        refine ⟨by rw [List.length_map]; omega, ?_⟩
        dsimp only [wgName, put]
        exact ⟨_, _, _, _, by rw [nx]⟩
      · rintro Γ' ⟨a3, a4, a5, a6, rfl⟩
        rw [rngD_len]
        exact ⟨_, _, _, _, _, by rw [tk]; rfl⟩
    · rintro Γ' ⟨a2, a3, a4, a5, a6, rfl⟩
      rw [List.take_length, lats_due, ← hn]
      exact h
  · exact h.elim
end
end K74
namespace K74
open PySem PySem.Spec PyProof.Rows L2 Evl Lay ErrX DL TE DO ShM PageM CovM BitP FlC
abbrev s_judge : Stmt := top 106
abbrev N_judge : List Str := ["_law_asked", "_law_paper_here", "_law_due", "_law_told_here"]
abbrev P_judge : List Str := ["_law_asked", "_law_paper_here", "_law_due"]
theorem sc_judge : FnScope N_judge P_judge (defScope s_judge) := ⟨rfl, rfl, rfl, by decide +kernel, rfl, by decide +kernel, by decide +kernel⟩
abbrev s_right : Stmt := top 110
abbrev N_right : List Str := ["_law_bag_here", "_law_turn", "_law_spots_here", "_law_mine", "_law_text_here", "_law_good", "_law_due", "_law_again", "_law_some", "_law_w", "_law_h", "_law_own", "_law_told"]
abbrev P_right : List Str := ["_law_bag_here"]
theorem sc_right : FnScope N_right P_right (defScope s_right) := ⟨rfl, rfl, rfl, by decide +kernel, rfl, by decide +kernel, by decide +kernel⟩
abbrev s_law : Stmt := top 111
abbrev N_law : List Str := ["_law_script", "_law_spot"]
abbrev P_law : List Str := ["_law_script"]
theorem sc_law : FnScope N_law P_law (defScope s_law) := ⟨rfl, rfl, rfl, by decide +kernel, rfl, by decide +kernel, by decide +kernel⟩
section
variable {P : Program} {w : World} {K : PySem.W.Frag} {mg : Str → Option Value} {base : Heap} {CS : Addr}
def S_judge (CS : Addr) : List D → (D → Prop) → Prop := fun ds Q => match ds with
  | [x, c, .b true] => (∀ R : D → Prop, R (.b true) → S_accepts CS [x, c] R) ∧ Q (.b true)
  | _ => False
theorem len_judge {CS : Addr} : ∀ ds P, S_judge CS ds P → ds.length = P_judge.length := fun ds P h => by
  unfold S_judge at h
  split at h <;> first | rfl | exact h.elim
theorem d_judge (Df : DefIn K mg "_law_judge" s_judge P_judge) (T : Txt mg) (D_accepts : DOk P w K mg base "accepts" s_accepts 17 P_accepts (S_accepts CS)) : DOk P w K mg base "_law_judge" s_judge 18 P_judge (S_judge CS) := by
  have SC := sc_judge
  refine dok (k := 17) Df sc_judge (len_judge) (body := fun f cdv A outer s H E hr hg => ⟨_, _, (pss_cons (ps_set (i := 3) SC.nd rfl (Or.inl rfl) (pe_lst (pa_cons (pe_callD D_accepts.d (hr.mono (by decide)) hg (pa_cons (pv 0) (pa_cons (pv 1) pa_nil))) (pa_cons (pe_callDK D_accepts (hr.mono (by decide)) hg kb_accepts_10 g21_vals (L2.pk_cons (pv 1) (L2.pk_cons (pv 0) L2.pk_nil))) pa_nil)))) (pss_one (ps_ret (pe_cmpR op_eq (pe_callB (kx_repr K hg hr.units) (by rfl) T.z_repr (by decide +kernel) (pa_cons (pv 3) pa_nil)) (pe_callB (kx_repr K hg hr.units) (by rfl) T.z_repr (by decide +kernel) (pa_cons (pe_lst (pa_cons (pv 2) (pa_cons (pv 2) pa_nil))) pa_nil)) (nomark _))))), (s_seq (s_asg (e_f (f_lst (a_cons (e_call (a_cons e_var (a_cons e_var a_nil))) (a_cons (e_callK RA.g21 (a_cons e_var (a_cons e_var a_nil))) a_nil)))) g_name) (s_ret (e_op o_eqS (e_cb c_repr (a_cons e_var a_nil)) (e_cb c_repr (a_cons (e_f (f_lst (a_cons e_var (a_cons e_var a_nil)))) a_nil))))), ?_⟩)
  clear hr hg
  intro ds Q h
  unfold S_judge at h
  split at h
  · rename_i x c
    obtain ⟨acc, h⟩ := h
    refine acc _ ⟨rfl, acc _ ⟨by show 2 ≤ 100000; decide, ?_⟩⟩
    dsimp only [wgName, put]
    refine reprD (k := 1) (x := .l [.b true, .b true]) (.l fun x hx => ?_) (by show 2 ≤ 8000; decide) ⟨by show 2 ≤ 100000; decide, reprD (k := 1) (x := .l [.b true, .b true]) (.l fun x hx => ?_) (by show 2 ≤ 8000; decide) ?_⟩
    · rcases List.mem_cons.mp hx with rfl | hx
      · exact .b _
      · rw [List.mem_singleton.mp hx]
        exact .b _
    · rcases List.mem_cons.mp hx with rfl | hx
      · exact .b _
      · rw [List.mem_singleton.mp hx]
        exact .b _
    · show Q (.b (decide (shD (.l [.b true, .b true]) = shD (.l [.b true, .b true]))))
      rw [decide_eq_true rfl]
      exact h
  · exact h.elim
theorem jl_mem {c : Nat} : ∀ {xs : List (List Nat)}, c ∈ StrM.jl 10 xs → c = 10 ∨ ∃ x ∈ xs, c ∈ x
  | [], h => by cases h
  | [x], h => .inr ⟨x, List.mem_cons_self .., by simpa [StrM.jl] using h⟩
  | x :: y :: r, h => by
    have h : c ∈ x ++ 10 :: StrM.jl 10 (y :: r) := h
    rcases List.mem_append.mp h with h | h
    · exact .inr ⟨x, List.mem_cons_self .., h⟩
    · rcases List.mem_cons.mp h with h | h
      · exact .inl h
      · rcases jl_mem h with h | ⟨z, hz, h⟩
        · exact .inl h
        · exact .inr ⟨z, List.mem_cons_of_mem _ hz, h⟩
theorem page_ok {L : List Pr} {w h : Nat} : PyData.strOk (pageOf L w h) = true := by
  unfold PyData.strOk
  rw [← Array.all_toList, List.all_eq_true]
  intro c hc
  unfold pageOf at hc
  rw [StrM.join_list] at hc
  have small : c ≤ 46 := by
    rcases jl_mem hc with rfl | ⟨x, hx, h⟩
    · decide
    · obtain ⟨z, hz, rfl⟩ := List.mem_map.mp hx
      unfold rowsS at hz
      obtain ⟨y, _, rfl⟩ := List.mem_map.mp hz
      have h : c ∈ rowL L w (y : Int) := h
      unfold rowL at h
      obtain ⟨x, _, e⟩ := List.mem_map.mp h
      split at e <;> omega
  exact decide_eq_true (by omega)
theorem page_13 {L : List Pr} {w h : Nat} (hw : w ≤ 13) (hh : h ≤ 13) : (pageOf L w h).cps.size ≤ 182 := by
  have e : (pageOf L w h).cps.size = (pageOf L w h).cps.toList.length := by rw [Array.length_toList]
  rw [e]
  unfold pageOf
  rw [StrM.join_list]
  refine Nat.le_trans (len_jl _) ?_
  have s := rows_sum (L := L) (w := w) (h := h)
  rw [List.map_map, List.length_map, rows_len]
  have e2 : ((rowsS L w h).map (List.length ∘ fun x => x.cps.toList)).sum = h * w := by
    rw [← s]
    congr 1
  rw [e2]
  have := Nat.mul_le_mul hh hw
  omega
theorem fillD_rd {w h : Int} (f : Fl w h) {A : List Nat} (lt : ∀ q ∈ A, q < (w * h).toNat) : RD 3 (fillD h A) := .t fun x hx => by
  obtain ⟨q, hq, rfl⟩ := List.mem_map.mp hx
  have := lt q hq
  have ⟨w36, h36, p0⟩ := f.le
  obtain ⟨w0, h0, wh⟩ := id f
  have a := Int.ediv_le_self (a := (q : Int)) h (by omega)
  have b := Int.ediv_nonneg (show 0 ≤ (q : Int) by omega) (show 0 ≤ h by omega)
  have c := Int.emod_nonneg (q : Int) (show h ≠ 0 by omega)
  have d := Int.emod_lt_of_pos (q : Int) h0
  exact .t (rds_cons (.small (by omega) (by omega)) (rds_cons (.small (by omega) (by omega)) rds_nil))
theorem cells_sz (h : Int) : ∀ A : List Nat, szA (A.map (cellD h)) = 3 * A.length
  | [] => rfl
  | a :: A => by
    rw [List.map_cons, List.length_cons]
    show szD (cellD h a) + 1 + szA (A.map (cellD h)) = _
    rw [cells_sz h A]
    show 2 + 1 + 3 * A.length = _
    omega
theorem sz_len : ∀ xs : List D, xs.length ≤ szA xs
  | [] => Nat.zero_le _
  | x :: xs => by
    have := sz_len xs
    simp only [szA, List.length_cons]
    omega
theorem sz_mem : ∀ {xs : List D} {x : D}, x ∈ xs → szD x ≤ szA xs
  | y :: xs, x, h => by
    simp only [szA]
    rcases List.mem_cons.mp h with rfl | h
    · omega
    · have := sz_mem h
      omega
theorem szA_le36 : ∀ {ys : List D}, (∀ e ∈ ys, szD e ≤ 36) → szA ys ≤ 37 * ys.length
  | [], _ => by simp only [szA]; omega
  | y :: ys, h => by
    have := szA_le36 (ys := ys) fun e he => h e (List.mem_cons_of_mem _ he)
    have := h y (List.mem_cons_self ..)
    simp only [szA, List.length_cons]
    omega
theorem rd_pv : ∀ (m : Nat) {k : Nat} {e : D}, RD k e → szD e ≤ 1000 → PV m e
  | 0, _, _, h, _ => rd_plain h
  | m + 1, _, _, h, z => ⟨rd_plain h, fun vs ev => by
    subst ev
    cases h with
    | t h =>
      have z : szA vs ≤ 1000 := z
      exact ⟨Nat.le_trans (sz_len vs) z, fun x hx => rd_pv m (h x hx) (Nat.le_trans (sz_mem hx) z)⟩⟩
/-- what may stand in a paper here -/
def ElOk (e : D) : Prop := RD 3 e ∧ szD e ≤ 36
/-- what is due stands in these bounds -/
theorem due_el {L : List Pr} {w h : Int} (f : Fl w h) (w12 : w * h ≤ 12) (l0 : 0 < L.length) (l1 : L.length ≤ 24) {d : D} (hd : IsDue L w h d) : ∃ xs, d = .t xs ∧ xs.length = (founds L w h).length ∧ xs.length ≤ 100 ∧ (∀ e ∈ xs, ElOk e ∧ WdD 2 e ∧ ∃ ys, e = .t ys ∧ ys.length ≤ 1000) := by
  obtain ⟨w0, h0, _⟩ := id f
  obtain ⟨G, g1, _, rfl⟩ := hd
  have gl : G.length = (founds L w h).length := g1.length_eq
  have fl := founds_len f w12 l0 l1
  refine ⟨_, rfl, by rw [List.length_map, gl], by rw [List.length_map, gl]; exact fl, fun e he => ?_⟩
  obtain ⟨A, hA, rfl⟩ := List.mem_map.mp he
  obtain ⟨P0, pm, E⟩ := founds_mem f (g1.mem_iff.mp hA)
  have lt : ∀ q ∈ A, q < (w * h).toNat := fun q hq => E.lt q (pm.mem_iff.mp hq)
  have el := ec_len heldI_len E
  have al : A.length ≤ 12 := by
    rw [pm.length_eq]
    have := Nat.le_mul_of_pos_right P0.length l0
    omega
  have sz : szA (A.map (cellD h)) = 3 * A.length := cells_sz h A
  refine ⟨⟨fillD_rd f lt, ?_⟩, ⟨_, rfl, by rw [List.length_map]; omega, fun x hx => ?_⟩, _, rfl, by rw [List.length_map]; omega⟩
  · show szA (A.map (cellD h)) ≤ 36
    omega
  · obtain ⟨q, _, rfl⟩ := List.mem_map.mp hx
    refine ⟨_, rfl, by show 2 ≤ 100; decide, fun y hy => ?_⟩
    simp only [List.mem_cons, List.not_mem_nil, or_false] at hy
    rcases hy with rfl | rfl
    · exact ⟨_, rfl⟩
    · exact ⟨_, rfl⟩
theorem seqV {A B : WS} {PP : Po} {Γ : G} {Ok : D → Prop} (Gf : D → G) (f : (∀ v, Ok v → B PP (Gf v)) → wSeq A B PP Γ) (b : ∀ v, Ok v → B PP (Gf v)) : wSeq A B PP Γ := f b
theorem due_small {L : List Pr} (l6 : L.length ≤ 6) {f : F5} (hf : f ∈ due L) : (0 ≤ f.1 ∧ f.1 ≤ 12) ∧ (0 ≤ f.2.1 ∧ f.2.1 ≤ 12) ∧ (0 ≤ f.2.2.1 ∧ f.2.2.1 ≤ 12) ∧ (0 ≤ f.2.2.2.1 ∧ f.2.2.2.1 ≤ 12) ∧ 0 ≤ f.2.2.2.2 ∧ f.2.2.2.2 ≤ 12 := by
  obtain ⟨w, s, c, d, hw, s0, c0, d0, d1, rfl⟩ := canon_mem.mp (List.mem_filter.mp hf).1
  obtain ⟨e1, e2, e3⟩ := divs hw
  dsimp only
  omega
theorem due_rd {L : List Pr} (l6 : L.length ≤ 6) {k : Nat} {f : F5} (hf : f ∈ due L) : RD (k + 1) (t5 f) := by
  obtain ⟨a, b, c, d, e⟩ := due_small l6 hf
  exact .t (rds_cons (.small (by omega) (by omega)) (rds_cons (.small (by omega) (by omega)) (rds_cons (.small (by omega) (by omega)) (rds_cons (.small (by omega) (by omega)) (rds_cons (.small (by omega) (by omega)) rds_nil)))))
/-- what is told of the first turned floor -/
def dueV (L : List Pr) (w h : Nat) : D := match due L with
  | [] => .n
  | x :: _ => .t [.t [.s "turned", .s (pageOf L w h), t5 x], .t []]
theorem cert_T {CS : Addr} {L : List Pr} {w h : Nat} (g : Grid L w h) (l0 : 0 < L.length) (l4 : L.length ≤ 4) {Q : D → Prop} (q : Q (dueV L w h)) : S_certify_turned CS [shp CS L] Q := by
  refine ⟨L, w, h, rfl, g, l0, by omega, fun e => ?_, fun x X e => ?_⟩
  · unfold dueV at q
    rw [e] at q
    exact q
  · unfold dueV at q
    rw [e] at q
    exact q
theorem seqN {A B : WS} {PP : Po} {Γ : G} (f : B PP Γ → wSeq A B PP Γ) (b : B PP Γ) : wSeq A B PP Γ := f b
theorem two_of {k : Nat} {x : D} (r : RD k x) (z : szD x ≤ 3999) : RD (k + 1) (.l [x, x]) ∧ szD (.l [x, x]) ≤ 8000 := by
  refine ⟨.l fun y hy => ?_, ?_⟩
  · rcases List.mem_cons.mp hy with rfl | hy
    · exact r
    · rw [List.mem_singleton.mp hy]
      exact r
  · show szD x + 1 + (szD x + 1 + 0) ≤ 8000
    omega
theorem dueV_rd {L : List Pr} {w h : Nat} (l4 : L.length ≤ 4) (pf : (pageOf L w h).cps.size ≤ 182) : RD 5 (dueV L w h) ∧ szD (dueV L w h) ≤ 3999 := by
  unfold dueV
  cases e : due L with
  | nil => exact ⟨.n, by show 0 ≤ 3999; decide⟩
  | cons x X =>
    have dr := due_rd (L := L) (by omega) (k := 2) (f := x) (by rw [e]; exact List.mem_cons_self ..)
    refine ⟨.t (rds_cons (.t (rds_cons (.s _ (by decide +kernel)) (rds_cons (.s _ page_ok) (rds_cons dr rds_nil)))) (rds_cons (.t fun _ hx => by cases hx) rds_nil)), ?_⟩
    have tz : szD (.s "turned") ≤ 10 := by decide +kernel
    show szD (.s "turned") + 1 + ((pageOf L w h).cps.size + 1 + (5 + 1 + 0)) + 1 + (0 + 1 + 0) ≤ 3999
    omega
def S_right : List D → (D → Prop) → Prop := fun ds Q => match ds with
  | [.p 1] => Q (.b true)
  | _ => False
theorem len_right : ∀ ds P, S_right ds P → ds.length = P_right.length := fun ds P h => by
  unfold S_right at h
  split at h <;> first | rfl | exact h.elim
theorem d_right (Df : DefIn K mg "_law_right" s_right P_right) (T : Txt mg) (D_spots : DOk P w K mg base "_law_spots" s_spots 3 P_spots S_spots) (D_page : DOk P w K mg base "_law_page" s_page 1 P_page S_page) (D_made : DOk P w K mg base "_law_made" s_made 8 P_made (S_made CS)) (D_all_turned : DOk P w K mg base "_law_all_turned" s_all_turned 4 P_all_turned S_all_turned) (D_certify_turned : DOk P w K mg base "certify_turned" s_certify_turned 6 P_certify_turned (S_certify_turned CS)) (D_judge : DOk P w K mg base "_law_judge" s_judge 18 P_judge (S_judge CS)) (D_of : DOk P w K mg base "_law_of" s_of 2 P_of S_of) (D_l_fillings : DOk P w K mg base "_law_fillings" s_l_fillings 1 P_l_fillings S_l_fillings) (D_certify_rolled : DOk P w K mg base "certify_rolled" s_certify_rolled 16 P_certify_rolled (S_certify_rolled CS)) : DOk P w K mg base "_law_right" s_right 19 P_right S_right := by
  have SC := sc_right
  refine dok (k := 18) Df sc_right (len_right) (body := fun f cdv A outer s H E hr hg => ⟨_, _, (pss_cons (ps_for PassesOwn.never rfl (pi_range1 (by rfl) T.z_range (pa_cons pe_int pa_nil)) (pg_name (i := 1) SC.nd rfl (Or.inl rfl)) (pss_cons (ps_set (i := 2) SC.nd rfl (Or.inl rfl) (pe_callD D_spots.d (hr.mono (by decide)) hg (pa_cons (pv 0) (pa_cons pe_int pa_nil)))) (pss_cons (ps_par (i := 3) (j := 4) (by rfl) SC.nd rfl rfl (by decide) rfl rfl (pa_cons (pe_callD D_made.d (hr.mono (by decide)) hg (pa_cons (pv 2) pa_nil)) (pa_cons (pe_callD D_page.d (hr.mono (by decide)) hg (pa_cons (pv 2) pa_nil)) pa_nil)) (by rfl)) (pss_cons (ps_set (i := 5) SC.nd rfl (Or.inl rfl) (pe_callD D_all_turned.d (hr.mono (by decide)) hg (pa_cons (pv 2) pa_nil))) (pss_cons (ps_set (i := 6) SC.nd rfl (Or.inl rfl) (pe_ifExp (pt_cmpR (kx_neD K hr.units) (pv 5) (pe_tup pa_nil) (nomark _)) (pe_tup (pa_cons (pe_tup (pa_cons pe_str (pa_cons (pv 4) (pa_cons (pe_ix (kx_ixT K) (pv 5) pe_int (fun _ _ => rfl)) pa_nil)))) (pa_cons (pe_tup pa_nil) pa_nil))) pe_non)) (pss_cons (ps_if (pt_cmpR op_ne (pe_callB (kx_repr K hg hr.units) (by rfl) T.z_repr (by decide +kernel) (pa_cons (pe_lst (pa_cons (pe_callD D_certify_turned.d (hr.mono (by decide)) hg (pa_cons (pv 3) pa_nil)) (pa_cons (pe_callDK D_certify_turned (hr.mono (by decide)) hg kb_certify_turned_0 g1_vals (L2.pk_cons (pv 3) L2.pk_nil)) pa_nil))) pa_nil)) (pe_callB (kx_repr K hg hr.units) (by rfl) T.z_repr (by decide +kernel) (pa_cons (pe_lst (pa_cons (pv 6) (pa_cons (pv 6) pa_nil))) pa_nil)) (nomark _)) (pss_one (ps_ret pe_bl)) pss_nil) (pss_cons (ps_if (PW.pt (pw_and (pt_cmpR op_notN (pv 6) pe_non (nomark _)) (pw_and1 (pt_not (pt_val (pe_callD D_judge.d (hr.mono (by decide)) hg (pa_cons (pe_ix (kx_ixT K) (pv 6) pe_int (fun _ _ => rfl)) (pa_cons (pe_ix (kx_ixT K) (pv 6) pe_int (fun _ _ => rfl)) (pa_cons pe_bl pa_nil))))))))) (pss_one (ps_ret pe_bl)) pss_nil) (pss_one (ps_for PassesOwn.never rfl (pi_range1 (by rfl) T.z_range (pa_cons pe_int pa_nil)) (pg_name (i := 7) SC.nd rfl (Or.inl rfl)) (pss_cons (ps_set (i := 8) SC.nd rfl (Or.inl rfl) (pe_lst (pa_cons (pe_tup (pa_cons pe_int (pa_cons pe_int pa_nil))) (pa_cons (pe_tup (pa_cons pe_int (pa_cons pe_int pa_nil))) (pa_cons (pe_tup (pa_cons pe_int (pa_cons pe_int pa_nil))) (pa_cons (pe_tup (pa_cons pe_int (pa_cons pe_int pa_nil))) (pa_cons (pe_tup (pa_cons pe_int (pa_cons pe_int pa_nil))) (pa_cons (pe_tup (pa_cons pe_int (pa_cons pe_int pa_nil))) (pa_cons (pe_tup (pa_cons pe_int (pa_cons pe_int pa_nil))) (pa_cons (pe_tup (pa_cons pe_int (pa_cons pe_int pa_nil))) (pa_cons (pe_tup (pa_cons pe_int (pa_cons pe_int pa_nil))) (pa_cons (pe_tup (pa_cons pe_int (pa_cons pe_int pa_nil))) pa_nil)))))))))))) (pss_cons (ps_asg (pe_callD D_of.d (hr.mono (by decide)) hg (pa_cons (pv 0) (pa_cons (pv 8) pa_nil))) (kx_pgTup (n := 2) K rfl (pgs_cons (pg_name (i := 9) SC.nd rfl (Or.inl rfl)) (pgs_cons (pg_name (i := 10) SC.nd rfl (Or.inl rfl)) pgs_nil)) (by rfl))) (pss_cons (ps_set (i := 11) SC.nd rfl (Or.inl rfl) (pe_callD D_l_fillings.d (hr.mono (by decide)) hg (pa_cons (pv 2) (pa_cons (pv 9) (pa_cons (pv 10) pa_nil))))) (pss_cons (ps_set (i := 6) SC.nd rfl (Or.inl rfl) (pe_tup (pa_cons (pe_tup (pa_cons pe_str (pa_cons (pv 4) (pa_cons (pv 9) (pa_cons (pv 10) (pa_cons (pe_callB (kx_len K) (by rfl) T.z_len (by decide +kernel) (pa_cons (pv 11) pa_nil)) pa_nil)))))) (pa_cons (pv 11) pa_nil)))) (pss_cons (ps_set (i := 12) SC.nd rfl (Or.inl rfl) (pe_lst (pa_cons (pe_callD D_certify_rolled.d (hr.mono (by decide)) hg (pa_cons (pv 3) (pa_cons (pv 9) (pa_cons (pv 10) pa_nil)))) (pa_cons (pe_callDK D_certify_rolled (hr.mono (by decide)) hg kb_certify_rolled_210 g210_vals (L2.pk_cons (pv 10) (L2.pk_cons (pv 9) (L2.pk_cons (pv 3) L2.pk_nil)))) pa_nil)))) (pss_one (ps_if (PW.pt (pw_or (pt_cmpR op_ne (pe_callB (kx_repr K hg hr.units) (by rfl) T.z_repr (by decide +kernel) (pa_cons (pv 12) pa_nil)) (pe_callB (kx_repr K hg hr.units) (by rfl) T.z_repr (by decide +kernel) (pa_cons (pe_lst (pa_cons (pv 6) (pa_cons (pv 6) pa_nil))) pa_nil)) (nomark _)) (pw_or1 (pt_not (pt_val (pe_callD D_judge.d (hr.mono (by decide)) hg (pa_cons (pe_ix (kx_ixT K) (pv 6) pe_int (fun _ _ => rfl)) (pa_cons (pe_ix (kx_ixT K) (pv 6) pe_int (fun _ _ => rfl)) (pa_cons pe_bl pa_nil))))))))) (pss_one (ps_ret pe_bl)) pss_nil)))))))))))))))) (pss_one (ps_ret pe_bl))), (s_seq (s_for (i_rng1 (a_cons e_int a_nil)) g_name (s_seq (s_asg (e_call (a_cons e_var (a_cons e_int a_nil))) g_name) (s_seq (s_par (a_cons (e_call (a_cons e_var a_nil)) (a_cons (e_call (a_cons e_var a_nil)) a_nil))) (s_seq (s_asg (e_call (a_cons e_var a_nil)) g_name) (s_seq (s_asg (e_if (t_test (e_op o_neD e_var (e_tup a_nil))) (e_tup (a_cons (e_tup (a_cons e_str (a_cons e_var (a_cons (e_op o_ixT e_var e_int) a_nil)))) (a_cons (e_tup a_nil) a_nil))) e_non) g_name) (s_seq (s_if (t_test (e_op o_neS (e_cb c_repr (a_cons (e_f (f_lst (a_cons (e_call (a_cons e_var a_nil)) (a_cons (e_callK RA.g1 (a_cons e_var a_nil)) a_nil)))) a_nil)) (e_cb c_repr (a_cons (e_f (f_lst (a_cons e_var (a_cons e_var a_nil)))) a_nil)))) (s_ret e_bl) s_next) (s_seq (s_if (t_and (t_test (e_op o_notN e_var e_non)) (t_not (t_B (e_call (a_cons (e_op o_ixT e_var e_int) (a_cons (e_op o_ixT e_var e_int) (a_cons e_bl a_nil))))))) (s_ret e_bl) s_next) (s_for (i_rng1 (a_cons e_int a_nil)) g_name (s_seq (s_asg (e_f (f_lst (a_cons (e_tup (a_cons e_int (a_cons e_int a_nil))) (a_cons (e_tup (a_cons e_int (a_cons e_int a_nil))) (a_cons (e_tup (a_cons e_int (a_cons e_int a_nil))) (a_cons (e_tup (a_cons e_int (a_cons e_int a_nil))) (a_cons (e_tup (a_cons e_int (a_cons e_int a_nil))) (a_cons (e_tup (a_cons e_int (a_cons e_int a_nil))) (a_cons (e_tup (a_cons e_int (a_cons e_int a_nil))) (a_cons (e_tup (a_cons e_int (a_cons e_int a_nil))) (a_cons (e_tup (a_cons e_int (a_cons e_int a_nil))) (a_cons (e_tup (a_cons e_int (a_cons e_int a_nil))) a_nil)))))))))))) g_name) (s_seq (s_asg (e_call (a_cons e_var (a_cons e_var a_nil))) (g_tup (gs_cons g_name (gs_cons g_name gs_nil)))) (s_seq (s_asg (e_call (a_cons e_var (a_cons e_var (a_cons e_var a_nil)))) g_name) (s_seq (s_asg (e_tup (a_cons (e_tup (a_cons e_str (a_cons e_var (a_cons e_var (a_cons e_var (a_cons (e_cb c_len (a_cons e_var a_nil)) a_nil)))))) (a_cons e_var a_nil))) g_name) (s_seq (s_asg (e_f (f_lst (a_cons (e_call (a_cons e_var (a_cons e_var (a_cons e_var a_nil)))) (a_cons (e_callK RA.g210 (a_cons e_var (a_cons e_var (a_cons e_var a_nil)))) a_nil)))) g_name) (s_if (t_or (t_test (e_op o_neS (e_cb c_repr (a_cons e_var a_nil)) (e_cb c_repr (a_cons (e_f (f_lst (a_cons e_var (a_cons e_var a_nil)))) a_nil)))) (t_not (t_B (e_call (a_cons (e_op o_ixT e_var e_int) (a_cons (e_op o_ixT e_var e_int) (a_cons e_bl a_nil))))))) (s_ret e_bl) s_next)))))))))))))) (s_ret e_bl)), ?_⟩)
  clear hr hg
  intro ds Q h
  unfold S_right at h
  split at h
  · rw [show startG N_right.length [.p 1] = [.d (.p 1), .u, .u, .u, .u, .u, .u, .u, .u, .u, .u, .u, .u] from rfl]
    refine ⟨⟨by decide, by decide⟩, fun k Γ => ∃ a1 a2 a3 a4 a5 a6 a7 a8 a9 b1 b2 b3, Γ = [.d (.p 1), a1, a2, a3, a4, a5, a6, a7, a8, a9, b1, b2, b3], ⟨_, _, _, _, _, _, _, _, _, _, _, _, rfl⟩, ?_, fun Γ' _ => h⟩
    rintro k x Γ' hx ⟨a1, a2, a3, a4, a5, a6, a7, a8, a9, b1, b2, b3, rfl⟩
    obtain ⟨hk, rfl⟩ := rngD_get' hx
    dsimp only [wgName, put]
    refine ⟨⟨by decide, by decide⟩, fun L w h' sp => ?_⟩
    obtain ⟨g, nm, l4, b12⟩ := sp
    have l0 : 0 < L.length := List.length_pos_iff.mpr g.ne
    have w13 : w ≤ 13 := by
      obtain ⟨p, hp, e⟩ := g.right
      have := b12 p hp
      omega
    have h13 : h' ≤ 13 := by
      obtain ⟨p, hp, e⟩ := g.low
      have := b12 p hp
      omega
    have pf := page_13 (L := L) w13 h13
    dsimp only [wgName, put]
    refine ⟨L, w, h', rfl, g, nm, by omega, L, w, h', rfl, g, by omega, ?_⟩
    dsimp only [wgName, put]
    refine ⟨L, rfl, l0, l4, ?_⟩
    dsimp only [wgName, put]
    have idD : ID 2 (.t ((due L).map t5)) := .t fun x hx => by
      obtain ⟨f, _, rfl⟩ := List.mem_map.mp hx
      refine .t fun y hy => ?_
      simp only [List.mem_cons, List.not_mem_nil, or_false] at hy
      rcases hy with rfl | rfl | rfl | rfl | rfl <;> exact .i _
    have idE : ID 1 (.t []) := .t fun x hx => by cases hx
    refine seqV (Ok := fun x => x = dueV L w h') (fun x => [.d (.p 1), .d (.i (0 + (k : Int))), .d (.t (L.map pt)), .d (shp CS L), .d (.s (pageOf L w h')), .d (.t ((due L).map t5)), .d x, a7, a8, a9, b1, b2, b3]) (fun nx => ?_) ?_
    · refine ⟨by show 0 ≤ 100000; decide, neD_of idD idE (fun e => ⟨(fun z => nomatch z), fun _ => nx _ ?_⟩) (fun ne => ⟨fun _ => ?_, fun z => nomatch z⟩)⟩
      · injection e with e
        unfold dueV
        rw [List.map_eq_nil_iff.mp e]
      · obtain ⟨x, X, ex⟩ : ∃ x X, due L = x :: X := by
          cases e : due L with
          | nil => exact absurd (by rw [e]; rfl) ne
          | cons x X => exact ⟨x, X, rfl⟩
        exact ⟨t5 x, L2.atI_nat (j := 0) (by rw [ex]; rfl), by show 3 ≤ 100000; decide, by show 0 ≤ 100000; decide, by show 2 ≤ 100000; decide, nx _ (by unfold dueV; rw [ex])⟩
    rintro _ rfl
    obtain ⟨vr, vz⟩ := dueV_rd (w := w) (h := h') l4 pf
    obtain ⟨rr, rz⟩ := two_of vr vz
    have dv : dueV L w h' = .n ∨ ∃ d, dueV L w h' = .t [d, .t []] ∧ ∀ R : D → Prop, R (.b true) → S_accepts CS [d, .t []] R := by
      cases e : due L with
      | nil => exact .inl (by unfold dueV; rw [e])
      | cons x X =>
        have mx : x ∈ due L := by rw [e]; exact List.mem_cons_self ..
        obtain ⟨q1, q2, q3, q4, q5⟩ := due_small (L := L) (by omega) mx
        have ok : floorD L (t5 x) = true := (List.mem_filter.mp mx).2
        refine .inr ⟨.t [.s "turned", .s (pageOf L w h'), t5 x], by unfold dueV; rw [e], fun R hr => .inl ⟨L, w, h', rfl, rfl, g, nm, by omega, .t (by show 5 ≤ 1000; decide) ?_, ?_, ⟨rfl, fun vs ev => ?_⟩, fun b hb => ?_⟩⟩
        · exact rds_cons (.small (by omega) (by omega)) (rds_cons (.small (by omega) (by omega)) (rds_cons (.small (by omega) (by omega)) (rds_cons (.small (by omega) (by omega)) (rds_cons (.small (by omega) (by omega)) rds_nil))))
        · intro _ _ _ _ _ ev
          unfold t5 at ev
          simp only [D.t.injEq, List.cons.injEq, D.i.injEq, and_true] at ev
          omega
        · cases ev
          exact ⟨by show 0 ≤ 1000; decide, fun x hx => by cases hx⟩
        · rw [hb.mpr ⟨ok, rfl⟩]
          exact hr
    refine cert_T g l0 l4 ⟨rfl, cert_T g l0 l4 ⟨by show 2 ≤ 100000; decide, reprD rr rz ⟨by show 2 ≤ 100000; decide, reprD rr rz (neS_same ⟨(fun z => nomatch z), fun _ => ?_⟩)⟩⟩⟩
    clear vr vz rr rz
    generalize dueV L w h' = v at dv
    dsimp only [wNext]
    refine seqN (fun nx => ?_) ?_
    · rcases dv with rfl | ⟨d, rfl, acc⟩
      · exact ⟨(fun z => nomatch z), fun _ => ⟨(fun z => nomatch z), fun _ => nx⟩⟩
      · exact ⟨fun _ => ⟨_, L2.atI_nat (j := 0) rfl, _, L2.atI_nat (j := 1) rfl, acc, ⟨(fun z => nomatch z), fun _ => nx⟩⟩, fun z => nomatch z⟩
    refine ⟨⟨by decide, by decide⟩, fun j Γ => ∃ c6 c7 c8 c9 d1 d2 d3, Γ = [.d (.p 1), .d (.i (0 + (k : Int))), .d (.t (L.map pt)), .d (shp CS L), .d (.s (pageOf L w h')), .d (.t ((due L).map t5)), c6, c7, c8, c9, d1, d2, d3], ⟨_, _, _, _, _, _, _, rfl⟩, ?_, ?_⟩
    · rintro j x Γ' hj ⟨c6, c7, c8, c9, d1, d2, d3, rfl⟩
      obtain ⟨_, rfl⟩ := rngD_get' hj
      dsimp only [wgName, put]
      repeat (first | refine ⟨by show 2 ≤ 100000; decide, ?_⟩ | refine ⟨by show 10 ≤ 100000; decide, ?_⟩)
      refine ⟨⟨by show 0 < 10; decide, by show 10 < 1000000; decide⟩, fun x hx => ?_⟩
      have sizes : ∃ W H2 : Int, x = .t [.i W, .i H2] ∧ Fl W H2 ∧ W * H2 ≤ 12 := by
        simp only [List.mem_cons, List.not_mem_nil, or_false] at hx
        rcases hx with rfl | rfl | rfl | rfl | rfl | rfl | rfl | rfl | rfl | rfl <;> exact ⟨_, _, rfl, ⟨by decide, by decide, by decide⟩, by decide⟩
      obtain ⟨W, H2, rfl, f, w12⟩ := sizes
      refine ⟨rfl, ?_⟩
      dsimp only [wgName, put]
      refine ⟨L, rfl, l0, by omega, f, w12, fun own du => ?_⟩
      obtain ⟨xs, rfl, xl, x100, xel⟩ := due_el f w12 l0 (by omega) du
      dsimp only [wgName, put]
      refine ⟨by show 5 ≤ 100000; decide, by show 2 ≤ 100000; decide, ?_⟩
      dsimp only [wgName, put]
      have cert : ∀ Q : D → Prop, Q (.t [.t [.s "rolled", .s (pageOf L w h'), .i W, .i H2, .i (xs.length : Nat)], .t xs]) → S_certify_rolled CS [shp CS L, .i W, .i H2] Q := fun Q q => ⟨L, w, h', rfl, g, l0, by omega, f, w12, fun c hc => by rw [due_one hc du, ← xl]; exact q⟩
      refine cert _ ⟨rfl, cert _ ⟨by show 2 ≤ 100000; decide, ?_⟩⟩
      dsimp only [wgName, put]
      have one : RD 5 (.t [.t [.s "rolled", .s (pageOf L w h'), .i W, .i H2, .i (xs.length : Nat)], .t xs]) ∧ szD (.t [.t [.s "rolled", .s (pageOf L w h'), .i W, .i H2, .i (xs.length : Nat)], .t xs]) ≤ 3999 := by
        obtain ⟨w36, h36, p0⟩ := f.le
        have W0 := f.1
        have H0 := f.2.1
        have sx := szA_le36 (ys := xs) fun e he => (xel e he).1.2
        have tz : szD (.s "rolled") ≤ 10 := by decide +kernel
        refine ⟨.t (rds_cons (.t (rds_cons (.s _ (by decide +kernel)) (rds_cons (.s _ page_ok) (rds_cons (.small (by omega) (by omega)) (rds_cons (.small (by omega) (by omega)) (rds_cons (.small (by omega) (by omega)) rds_nil)))))) (rds_cons (.t fun x hx => (xel x hx).1.1) rds_nil)), ?_⟩
        show szD (.s "rolled") + 1 + ((pageOf L w h').cps.size + 1 + (0 + 1 + (0 + 1 + (0 + 1 + 0)))) + 1 + (szA xs + 1 + 0) ≤ 3999
        omega
      obtain ⟨rr, rz⟩ := two_of one.1 one.2
      refine reprD rr rz ⟨by show 2 ≤ 100000; decide, reprD rr rz (neS_same ⟨(fun z => nomatch z), fun _ => ?_⟩)⟩
      clear rr rz one
      refine ⟨_, L2.atI_nat (j := 0) rfl, _, L2.atI_nat (j := 1) rfl, fun R hr => .inr ⟨L, w, h', rfl, rfl, g, nm, ⟨l0, by omega, rfl, rfl, rfl, ⟨rfl, fun vs ev => ?_⟩, fun w1 h1 e1 e2 _ => ?_⟩, fun bo hb => ?_⟩, ⟨(fun z => nomatch z), fun _ => ?_⟩⟩
      · cases ev
        exact ⟨by omega, fun x hx => rd_pv 2 (xel x hx).1.1 (Nat.le_trans (xel x hx).1.2 (by decide))⟩
      · cases e1
        cases e2
        exact w12
      · rw [hb.mpr ⟨W, H2, rfl, rfl, f, by rw [xl], du⟩]
        exact hr
      · exact ⟨_, _, _, _, _, _, _, rfl⟩
    · rintro Γ' ⟨c6, c7, c8, c9, d1, d2, d3, rfl⟩
      exact ⟨_, _, _, _, _, _, _, _, _, _, _, _, rfl⟩
  · exact h.elim
def S_law : List D → (D → Prop) → Prop := fun ds Q => match ds with
  | [.c ns] => (ns.length ≤ 63 ∧ ∀ z ∈ ns, Builtin.Int.intBits z ≤ 1048576) ∧ Q (.b true)
  | _ => False
theorem len_law : ∀ ds P, S_law ds P → ds.length = P_law.length := fun ds P h => by
  unfold S_law at h
  split at h <;> first | rfl | exact h.elim
theorem d_law (Df : DefIn K mg "law" s_law P_law) (T : Txt mg) (D_right : DOk P w K mg base "_law_right" s_right 19 P_right S_right) (D_bag : DefOk P w K mg base "_law_bag" 1 P_bag (spD K S_bag)) : DOk P w K mg base "law" s_law 20 P_law S_law := by
  have SC := sc_law
  refine dok (k := 19) Df sc_law (len_law) (body := fun f cdv A outer s H E hr hg => ⟨_, _, (pss_one (ps_ret (pe_callB (kx_all K rfl) (by rfl) T.z_all (by decide +kernel) (pa_cons (pe_lc (own := [("_law_spot", 1)]) (g := (gName 1)) (tt := tYes) (by rfl) SC.nd (pi_range1 (by rfl) T.z_range (pa_cons (pe_callB (call_max2 rfl) (by rfl) T.z_max (by decide +kernel) (pa_cons pe_int (pa_cons (pe_callB (call_min2 rfl) (by rfl) T.z_min (by decide +kernel) (pa_cons (pe_callB (kx_len K) (by rfl) T.z_len (by decide +kernel) (pa_cons (pv 0) pa_nil)) (pa_cons pe_int pa_nil))) pa_nil))) pa_nil)) (blkOk_by (own := [("_law_spot", 1)]) (N := N_law) (sc := defScope s_law) (by decide +kernel)) (fun _ _ _ _ _ => (pg_name (i := 1) SC.nd rfl (Or.inl rfl))) (fun _ _ _ _ _ => pts_nil) (fun _ _ _ _ _ => (pe_callD D_right.d (hr.mono (by decide)) hg (pa_cons (pe_callD D_bag.d (hr.mono (by decide)) hg (pa_cons (pv 0) (pa_cons (pv 1) pa_nil))) pa_nil)))) pa_nil)))), (s_ret (e_cb c_all (a_cons (e_f (f_lc (i_rng1 (a_cons (e_cb c_max2 (a_cons e_int (a_cons (e_cb c_min2 (a_cons (e_cb c_len (a_cons e_var a_nil)) (a_cons e_int a_nil))) a_nil))) a_nil)) g_name t_yes (e_call (a_cons (e_call (a_cons e_var (a_cons e_var a_nil))) a_nil)))) a_nil))), ?_⟩)
  clear hr hg
  intro ds Q h
  unfold S_law at h
  split at h
  · rename_i ns
    obtain ⟨l, h⟩ := h
    have b1 : ∃ n : Int, (if (if (4 : Int) < (ns.length : Int) then (4 : Int) else (ns.length : Int)) > 2 then (if (4 : Int) < (ns.length : Int) then (4 : Int) else (ns.length : Int)) else 2) = n ∧ 0 ≤ n ∧ n ≤ 6 := by
      refine ⟨_, rfl, ?_, ?_⟩
      · split <;> (try split) <;> omega
      · split <;> (try split) <;> omega
    obtain ⟨n, e, n1, n2⟩ := b1
    show ((-1000000 ≤ (if (if (4 : Int) < (ns.length : Int) then (4 : Int) else (ns.length : Int)) > 2 then (if (4 : Int) < (ns.length : Int) then (4 : Int) else (ns.length : Int)) else 2)) ∧ _) ∧ _
    rw [e]
    refine ⟨⟨by omega, by omega⟩, ⟨by rw [rngD_len]; omega, fun _ => true, fun _ d => d = .b true, fun k x hx => ?_, fun ys hs => ?_⟩⟩
    · obtain ⟨hk, rfl⟩ := rngD_get' hx
      exact ⟨rfl, fun _ => ⟨⟨l, by omega, by omega⟩, rfl⟩⟩
    · rw [rngD_len] at hs
      have := hs.map
      subst this
      refine ⟨List.replicate n.toNat true, by simp [List.map_const'], ?_⟩
      rw [show (List.replicate n.toNat true).all id = true from by simp]
      exact h
  · exact h.elim
end
end K74
namespace Lay
open PySem PySem.Spec PyProof.Rows L2 Evl
end Lay
namespace DO
open PySem PySem.Spec PyProof.Rows L2 Evl Lay ErrX DL
open PySem.W (Frag nsIn codeIn keepIn)
structure ShIn (K : Frag) (mg : Str → Option Value) (C : Addr) (x fld pn : Str) (sI sC : Stmt) (q1 q2 : Str) : Prop where
  mg : mg x = some (.ref C)
  cl : Cl K C
  na : NoAttr K C fld
  init : ∃ f fd, Fun K "__init__" q1 sI f fd ∧ Mk K C f
  prop : ∃ p g fd, PropOf K C pn p g ∧ Fun K pn q2 sC g fd
def chkNo (K : Frag) (C : Addr) : Bool := ["NoneType", "bool", "int", "str", "tuple", "list", "dict"].all fun n => PySem.W.kitOne K (.type n) (.ref C) == some false
theorem startB {S : List D → (D → Prop) → Prop} (h : ∀ ns : List Int, ns.length ≤ 63 → (∀ z ∈ ns, Builtin.Int.intBits z ≤ 1048576) → S [.c ns] (fun d => d = .b true)) (K : Frag) (H : Hp) (a : Addr) (ns : List Int) (hl : ns.length ≤ 63) (hb : ∀ z ∈ ns, Builtin.Int.intBits z ≤ 1048576) (hS : SqL K H a (ns.map V.int)) : spD K S [.ref a] H (fun v _ => v = .bl true) E0 :=
  ⟨H, [.c ns], _, Ex.refl H, .cons (.c hS) .nil, h ns hl hb, fun v d F' H' e _ r => by
    subst e
    cases r
    rfl⟩
end DO
namespace HF
open PySem PySem.Spec PyProof.Rows L2 Evl Lay ErrX DL
open PySem.W (Frag nsIn codeIn keepIn findIn)
abbrev FnR : Type := Option ((Str × Str × Addr × Addr) × Arguments × FuncBody × Scope × List (Str × Addr) × Value)
def fnR (K : Frag) (a : Addr) : FnR := match K.lookup a with
  | some ⟨_, _, .func u, _⟩ => some ((u.name, u.qualname, u.globals, u.builtins), u.params, u.body, u.scope, u.closure, u.defaults)
  | _ => none
structure Fd where
  at_ : Frag → Addr
  name : Str
  qual : Str
  st : Stmt
def Fd.val (d : Fd) : FnR := some ((d.name, d.qual, mainGlobals, builtinsNs), defArgs d.st, .stmts (defBody d.st), defScope d.st, [], .none)
def Fd.ok (K : Frag) (d : Fd) : Bool := keepIn K (.ref (d.at_ K)) && (match K.lookup (d.at_ K) with
  | some ⟨_, _, .func u, _⟩ => codeIn K u.code d.qual
  | _ => false)
theorem Fd.fun_ {K : Frag} {d : Fd} (e : fnR K (d.at_ K) = d.val) (c : d.ok K = true) : ∃ fd, Fun K d.name d.qual d.st (d.at_ K) fd := by
  obtain ⟨c1, c2⟩ := Bool.and_eq_true_iff.mp c
  unfold fnR at e
  cases q : K.lookup (d.at_ K) with
  | none =>
    rw [q] at c2
    cases c2
  | some o =>
    obtain ⟨oc, od, dt, osl⟩ := o
    rw [q] at c2 e
    cases dt with
    | func u =>
      obtain ⟨a1, a2, a3, a4, a5, a6, a7, a8, a9, b1, b2, b3, b4, b5, b6⟩ := u
      have e2 : (some ((a1, a2, a6, b6), a3, a4, a5, a7, a8) : FnR) = some ((d.name, d.qual, mainGlobals, builtinsNs), defArgs d.st, .stmts (defBody d.st), defScope d.st, [], .none) := e
      simp only [Option.some.injEq, Prod.mk.injEq] at e2
      obtain ⟨⟨h1, h2, h3, h4⟩, h5, h6, h7, h8, h9⟩ := e2
      subst h1 h2 h3 h4 h5 h6 h7 h8 h9
      exact ⟨_, fun_mk (st := d.st) q c2 c1⟩
    | _ => cases c2
def refs1 : Value → List Addr
  | .ref a => [a]
  | _ => []
def valsAt (g : Addr → Option Obj) (a : Addr) : List Addr := match g a with
  | some ⟨_, _, .dict es _, _⟩ => es.toList.flatMap fun e => refs1 e.val
  | _ => []
def stepAt (g : Addr → Option Obj) (a : Addr) : List Addr := match g a with
  | some ⟨_, _, .func u, _⟩ => refs1 u.code
  | some ⟨_, _, .cls cd, _⟩ => [cd.ns]
  | some ⟨_, _, .fields vs, _⟩ => vs.toList.flatMap refs1
  | _ => []
/-- the module's values, their code and namespaces, what stands in these, its getters and code -/
def asP (g : Addr → Option Obj) : List Addr :=
  let l1 := valsAt g mainGlobals
  let l2 := l1.flatMap (stepAt g)
  let l3 := l2.flatMap (valsAt g)
  let l4 := l3.flatMap (stepAt g)
  let l5 := (l4.filter fun a => match g a with
    | some ⟨_, _, .func _, _⟩ => true
    | _ => false).flatMap (stepAt g)
  mainGlobals :: (l1 ++ (l2 ++ (l3 ++ (l4 ++ l5))))
abbrev AlP : Type := List FnR × (Bool × List (Option (List (Option (Str × Int)))))
def obsP (ds : List Fd) (ex : Frag → Bool) (ts : List He.Tab) (K : Frag) : AlP := (ds.map fun d => fnR K (d.at_ K), (ex K && ds.all (Fd.ok K), ts.map fun t => He.dicW K (t.1 K)))
def valP (ds : List Fd) (ts : List He.Tab) (w : World) : AlP := (ds.map Fd.val, (true, ts.map fun t => some (He.keysIn w.params t.2)))
def obsPG (ds : List Fd) (ex : Frag → Bool) (ts : List He.Tab) (g : Addr → Option Obj) : AlP := obsP ds ex ts (He.frG g (asP g))
def hookP (ds : List Fd) (ex : Frag → Bool) (ts : List He.Tab) : PySem.W.Hook where
  α := AlP
  obs := fun s => obsPG ds ex ts s.heap.get?
  val := valP ds ts
  says := fun w h => ∃ K : Frag, K.In h ∧ obsP ds ex ts K = valP ds ts w
  of := fun _ _ e => ⟨_, He.frG_in, e⟩
  keeps := fun _ _ _ ⟨K, hK, c⟩ k => ⟨K, PySem.W.Frag.In.keeps hK k, c⟩
theorem obsPG_eq {ds : List Fd} {ex : Frag → Bool} {ts : List He.Tab} {g : Addr → Option Obj} {s : Shared} (h : ∀ a, g a = s.heap.get? a) : obsPG ds ex ts g = (hookP ds ex ts).obs s := by
  rw [funext h]
  rfl
section
variable {ds : List Fd} {ex : Frag → Bool} {ts : List He.Tab} {K : Frag} {w : World}
theorem says_ex (c : obsP ds ex ts K = valP ds ts w) : ex K = true := (Bool.and_eq_true_iff.mp (show (ex K && ds.all (Fd.ok K)) = true from congrArg (fun z : AlP => z.2.1) c)).1
theorem says_fn (c : obsP ds ex ts K = valP ds ts w) (i : Nat) {d : Fd} (h : ds[i]? = some d := by rfl) : ∃ fd, Fun K d.name d.qual d.st (d.at_ K) fd := by
  have c2 := (Bool.and_eq_true_iff.mp (show (ex K && ds.all (Fd.ok K)) = true from congrArg (fun z : AlP => z.2.1) c)).2
  have e : ds.map (fun d => fnR K (d.at_ K)) = ds.map Fd.val := congrArg (fun z : AlP => z.1) c
  have e2 := congrArg (fun l => l[i]?) e
  simp only [List.getElem?_map, h, Option.map_some, Option.some.injEq] at e2
  exact Fd.fun_ e2 (List.all_eq_true.mp c2 d (List.mem_of_getElem? h))
theorem says_tab (c : obsP ds ex ts K = valP ds ts w) (i : Nat) {t : He.Tab} (h : ts[i]? = some t := by rfl) : ∃ es n, KDict K w (t.1 K) es n := by
  have e : ts.map (fun t => He.dicW K (t.1 K)) = ts.map fun t => some (He.keysIn w.params t.2) := congrArg (fun z : AlP => z.2.2) c
  have e2 := congrArg (fun l => l[i]?) e
  simp only [List.getElem?_map, h, Option.map_some, Option.some.injEq] at e2
  exact He.dicW_ok e2
end
def gloB (K : Frag) (x : Str) : Bool := match nsIn K mainGlobals x with
  | some (some (.ref _)) => true
  | _ => false
theorem gloB_ok {K : Frag} {x : Str} (c : gloB K x = true) : nsIn K mainGlobals x = some (some (.ref (He.ga K x))) := by
  unfold gloB at c
  unfold He.ga
  split at c
  · rename_i a e
    rw [e]
  · cases c
/-- a def of the module -/
abbrev gFd (x : Str) (st : Stmt) : Fd := ⟨fun K => He.ga K x, x, x, st⟩
theorem defIn_of {K : Frag} {h : Heap} {mg : Str → Option Value} {x : Str} {st : Stmt} {ps : List Str} (X : K.In h) (G : h.Ns mainGlobals mg) (c : gloB K x = true) (F : ∃ fd, Fun K x x st (He.ga K x) fd) (b : ∀ fd, Fun K x x st (He.ga K x) fd → Binds K fd ps []) : DefIn K mg x st ps := by
  obtain ⟨fd, F⟩ := F
  exact ⟨_, fd, F, PySem.W.mg_of X G (gloB_ok c), b fd F⟩
def freeB (K : Frag) (x : Str) : Bool := match nsIn K mainGlobals x with
  | some none => true
  | _ => false
theorem freeB_ok {K : Frag} {x : Str} (c : freeB K x = true) : nsIn K mainGlobals x = some none := by
  unfold freeB at c
  split at c
  · assumption
  · cases c
/-- the method (or the property) m of the class x -/
def methB (K : Frag) (C : Addr) (m : Str) : Bool := match findIn K (.ref C) m with
  | some (some (.ref _)) => true
  | _ => false
theorem methB_ok {K : Frag} {C : Addr} {m : Str} (c : methB K C m = true) : findIn K (.ref C) m = some (some (.ref (He.ma K C m))) := by
  unfold methB at c
  unfold He.ma
  split at c
  · rename_i a e
    rw [e]
  · cases c
def getter (K : Frag) (p : Addr) : Addr := match PySem.W.recIn K p "property" with
  | some (.ref g :: _) => g
  | _ => 0
def recB (K : Frag) (p : Addr) : Bool := match PySem.W.recIn K p "property" with
  | some (.ref _ :: _) => true
  | _ => false
theorem recB_ok {K : Frag} {p : Addr} (c : recB K p = true) : ∃ r, PySem.W.recIn K p "property" = some (.ref (getter K p) :: r) := by
  unfold recB at c
  unfold getter
  split at c
  · rename_i a r e
    exact ⟨r, by rw [e]⟩
  · cases c
def propB (K : Frag) (C : Addr) (m : Str) : Bool := methB K C m && (decide (PySem.W.specialIn K (.ref (He.ma K C m)) "__get__" = some (some (.builtin "property.__get__"))) && (decide (PySem.W.takesIn K (.ref (He.ma K C m)) = some true) && recB K (He.ma K C m)))
theorem propB_ok {K : Frag} {C : Addr} {m : Str} (c : propB K C m = true) : PropOf K C m (He.ma K C m) (getter K (He.ma K C m)) := by
  obtain ⟨c1, c⟩ := Bool.and_eq_true_iff.mp c
  obtain ⟨c2, c⟩ := Bool.and_eq_true_iff.mp c
  obtain ⟨c3, c4⟩ := Bool.and_eq_true_iff.mp c
  exact ⟨methB_ok c1, of_decide_eq_true c2, of_decide_eq_true c3, recB_ok c4⟩
/-- the getter of a property, a method -/
abbrev pFd (x m : Str) (q : Str) (st : Stmt) : Fd := ⟨fun K => getter K (He.ma K (He.ga K x) m), m, q, st⟩
abbrev mFd (x m : Str) (q : Str) (st : Stmt) : Fd := ⟨fun K => He.ma K (He.ga K x) m, m, q, st⟩
/-- what is asked of a class -/
def clsB (K : Frag) (C : Addr) (fld : Str) : Bool :=
  (PySem.W.plainGet K C Str.empty && (PySem.W.hasDictIn K C && (PySem.W.plainOver K C && decide (findIn K (.ref C) "__setattr__" = some (some (.builtin "object.__setattr__")))))) &&
  ((decide (findIn K (.ref C) "__class__" = some (some (.builtin "object.__class__"))) && (decide (PySem.W.specialIn K (.builtin "object.__class__") "__get__" = some (some (.builtin "getset_descriptor.__get__"))) &&
    (decide (PySem.W.takesIn K (.builtin "object.__class__") = some true) && (decide (PySem.W.mroIn K C (.type "object") = some true) && DO.chkNo K C)))) &&
  (decide (findIn K (.ref C) fld = some none) && (PySem.W.makesIn K C && (keepIn K (.ref C) && (methB K C "__init__" && PySem.W.isFn K (.ref (He.ma K C "__init__")))))))
theorem sh_of {K : Frag} {h : Heap} {mg : Str → Option Value} {x fld pn q1 q2 : Str} {sI sC : Stmt} (X : K.In h) (G : h.Ns mainGlobals mg) (g : gloB K x = true) (c : clsB K (He.ga K x) fld = true) (p : propB K (He.ga K x) pn = true) (FI : ∃ fd, Fun K "__init__" q1 sI (He.ma K (He.ga K x) "__init__") fd) (FC : ∃ fd, Fun K pn q2 sC (getter K (He.ma K (He.ga K x) pn)) fd) : DO.ShIn K mg (He.ga K x) x fld pn sI sC q1 q2 := by
  obtain ⟨ca, c⟩ := Bool.and_eq_true_iff.mp c
  obtain ⟨a1, ca⟩ := Bool.and_eq_true_iff.mp ca
  obtain ⟨a2, ca⟩ := Bool.and_eq_true_iff.mp ca
  obtain ⟨a3, a4⟩ := Bool.and_eq_true_iff.mp ca
  obtain ⟨cb, c⟩ := Bool.and_eq_true_iff.mp c
  obtain ⟨b1, cb⟩ := Bool.and_eq_true_iff.mp cb
  obtain ⟨b2, cb⟩ := Bool.and_eq_true_iff.mp cb
  obtain ⟨b3, cb⟩ := Bool.and_eq_true_iff.mp cb
  obtain ⟨b4, b5⟩ := Bool.and_eq_true_iff.mp cb
  obtain ⟨d1, c⟩ := Bool.and_eq_true_iff.mp c
  obtain ⟨d2, c⟩ := Bool.and_eq_true_iff.mp c
  obtain ⟨d3, c⟩ := Bool.and_eq_true_iff.mp c
  obtain ⟨d4, d5⟩ := Bool.and_eq_true_iff.mp c
  obtain ⟨fi, FI⟩ := FI
  obtain ⟨fc, FC⟩ := FC
  refine ⟨PySem.W.mg_of X G (gloB_ok g), ⟨⟨a1, a2, a3, of_decide_eq_true a4⟩, of_decide_eq_true b1, of_decide_eq_true b2, of_decide_eq_true b3, of_decide_eq_true b4, fun n hn => beq_iff_eq.mp (List.all_eq_true.mp b5 n hn)⟩, show findIn K _ fld = some none from of_decide_eq_true d1, ⟨_, fi, FI, ⟨d2, methB_ok d4, d5, d3⟩⟩, ⟨_, _, fc, propB_ok p, FC⟩⟩
/-- a value of a written table -/
def kvB (K : Frag) (a : Addr) (x : Str) (v : V) : Bool := match nsIn K a x with
  | some (some u) => He.relB v u
  | _ => false
theorem kvB_ok {K : Frag} {w : World} {a : Addr} {x : Str} {v : V} {es : Array DictEntry} {n : Nat} (D : KDict K w a es n) (c : kvB K a x v = true) : KDct K w a x v := by
  unfold kvB at c
  split at c
  · rename_i u e
    exact ⟨es, n, u, D.at_, D.lit, e, He.relB_ok c⟩
  · cases c
/-- the goal that the head leaves -/
theorem walk_ofH {l : PySem.W.OpenLaw} {n k : Nat} {q : Program} {loose : List Str} {XP : (Str → Option Value) → Heap → Prop} {YP : World → Heap → Prop} {d : DefRec} {ps : List Str} {sp : Frag → Sp}
    (hn : l.most = some n) (hn2 : n ≤ sizeLine) (hdf : d.params.defaults = []) (hr : Room k callerA) (h1 : ps.length = 1)
    (F : ∀ (w : World) (mg : Str → Option Value) (h : Heap), YP w h → h.Ns mainGlobals mg → ∃ K : Frag, K.In h ∧ ∀ base : Heap, DefOk l.prog w K mg base d.name k ps (sp K))
    (hsp : ∀ (K : Frag) (H : Hp) (a : Addr) (ns : List Int), ns.length ≤ n → (∀ z ∈ ns, Builtin.Int.intBits z ≤ 1048576) → SqL K H a (ns.map V.int) → sp K [.ref a] H (fun v _ => v = .bl true) E0) :
    PySem.W.WalkO q loose XP YP l.row.toRowW d [] (fun f vs => PySem.call f vs) := by
  refine Att.attach_callB hn hdf fun w s₀ s₁ mg mb fa o pm cd doc a vs ns G Y ho hd hcd hmg hobj hints hlen hbits hg => ?_
  obtain ⟨K, KX, D⟩ := F w mg _ Y G.T.g
  refine law_callG (K := K) (ps := ps) (sp := sp K) (k := k) KX G.T.g G.T.b G.T.builtins G.T.nolimit hg hobj hints (Nat.le_trans hlen hn2) hr (fun base kb gb => ?_) fun H hS => hsp _ H a ns hlen hbits hS
  obtain ⟨f0, fd0, F0, m0, kp0, b0⟩ := (D base).ex
  obtain rfl : f0 = fa := by
    rw [hmg] at m0
    cases m0
    rfl
  have bz := b0 s₁ [.ref a] KX (by rw [h1]; rfl)
  rw [List.append_nil] at bz
  exact ⟨fd0, F0, bz⟩
end HF
namespace K74
open PySem PySem.Spec PyProof.Rows L2 Evl Lay ErrX DL TE DO PageM
open PySem.W (Frag nsIn codeIn keepIn)
abbrev s_cells : Stmt := clsFn (top 32) 2
abbrev N_cells : List Str := ["self"]
theorem sc_cells : FnScope N_cells ["self"] (defScope s_cells) := ⟨rfl, rfl, rfl, by decide +kernel, rfl, by decide +kernel, by decide +kernel⟩
theorem bd_init {K : PySem.W.Frag} {f : Addr} (fd : FuncData) (F : Fun K "__init__" "Shape.__init__" s_init f fd) : Binds K fd ["self", "cells"] [] := F.binds (ps := ["self", "cells"]) fun _ _ _ _ _ _ us hl => match us, hl with | [_, _], _ => rfl
theorem bd_cells {K : PySem.W.Frag} {f : Addr} (fd : FuncData) (F : Fun K "cells" "Shape.cells" s_cells f fd) : Binds K fd ["self"] [] := F.binds (ps := ["self"]) fun _ _ _ _ _ _ us hl => match us, hl with | [_], _ => rfl
structure Mths (K : Frag) (C : Addr) : Prop where
  wide : ∃ p g fd, PropOf K C "wide" p g ∧ Fun K "wide" "Shape.wide" s_m_wide g fd
  high : ∃ p g fd, PropOf K C "high" p g ∧ Fun K "high" "Shape.high" s_m_high g fd
  str : ∃ g fd, PySem.W.findIn K (.ref C) "__str__" = some (some (.ref g)) ∧ PySem.W.isFn K (.ref g) = true ∧ Fun K "__str__" "Shape.__str__" s_m_str g fd
  len : ∃ g fd, PySem.W.findIn K (.ref C) "__len__" = some (some (.ref g)) ∧ PySem.W.isFn K (.ref g) = true ∧ Fun K "__len__" "Shape.__len__" s_m_len g fd
structure Ck (K : Frag) (w : World) (mg : Str → Option Value) (A L F0 F1 : Addr) : Prop where
  kC : DO.KdIn K w mg "CHECKS" A
  kL : DO.KdIn K w mg "LENGTHS" L
  f0 : mg "accepts_turned" = some (.ref F0)
  k0 : KDct K w A "turned" (.ref F0)
  l0 : KDct K w L "turned" (.int 1)
  f1 : mg "accepts_rolled" = some (.ref F1)
  k1 : KDct K w A "rolled" (.ref F1)
  l1 : KDct K w L "rolled" (.int 3)
theorem bd_is_int {K : PySem.W.Frag} {f : Addr} (fd : FuncData) (F : Fun K "is_int" "is_int" s_is_int f fd) : Binds K fd P_is_int [] := F.binds (ps := P_is_int) fun _ _ _ _ _ _ us hl => match us, hl with | [_], _ => rfl
theorem bd_is_ints {K : PySem.W.Frag} {f : Addr} (fd : FuncData) (F : Fun K "is_ints" "is_ints" s_is_ints f fd) : Binds K fd P_is_ints [] := F.binds (ps := P_is_ints) fun _ _ _ _ _ _ us hl => match us, hl with | [_, _], _ => rfl
theorem bd_is_pair {K : PySem.W.Frag} {f : Addr} (fd : FuncData) (F : Fun K "is_pair" "is_pair" s_is_pair f fd) : Binds K fd P_is_pair [] := F.binds (ps := P_is_pair) fun _ _ _ _ _ _ us hl => match us, hl with | [_], _ => rfl
theorem bd_is_place {K : PySem.W.Frag} {f : Addr} (fd : FuncData) (F : Fun K "is_place" "is_place" s_is_place f fd) : Binds K fd P_is_place [] := F.binds (ps := P_is_place) fun _ _ _ _ _ _ us hl => match us, hl with | [_], _ => rfl
theorem bd_is_lattice {K : PySem.W.Frag} {f : Addr} (fd : FuncData) (F : Fun K "is_lattice" "is_lattice" s_is_lattice f fd) : Binds K fd P_is_lattice [] := F.binds (ps := P_is_lattice) fun _ _ _ _ _ _ us hl => match us, hl with | [_], _ => rfl
theorem bd_is_within {K : PySem.W.Frag} {f : Addr} (fd : FuncData) (F : Fun K "is_within" "is_within" s_is_within f fd) : Binds K fd P_is_within [] := F.binds (ps := P_is_within) fun _ _ _ _ _ _ us hl => match us, hl with | [_, _, _], _ => rfl
theorem bd_first_wrong {K : PySem.W.Frag} {f : Addr} (fd : FuncData) (F : Fun K "first_wrong" "first_wrong" s_first_wrong f fd) : Binds K fd P_first_wrong [] := F.binds (ps := P_first_wrong) fun _ _ _ _ _ _ us hl => match us, hl with | [_, _], _ => rfl
theorem bd_is_nonempty {K : PySem.W.Frag} {f : Addr} (fd : FuncData) (F : Fun K "is_nonempty" "is_nonempty" s_is_nonempty f fd) : Binds K fd P_is_nonempty [] := F.binds (ps := P_is_nonempty) fun _ _ _ _ _ _ us hl => match us, hl with | [_], _ => rfl
theorem bd_check_cells {K : PySem.W.Frag} {f : Addr} (fd : FuncData) (F : Fun K "check_cells" "check_cells" s_check_cells f fd) : Binds K fd P_check_cells [] := F.binds (ps := P_check_cells) fun _ _ _ _ _ _ us hl => match us, hl with | [_], _ => rfl
theorem bd_check_number {K : PySem.W.Frag} {f : Addr} (fd : FuncData) (F : Fun K "check_number" "check_number" s_check_number f fd) : Binds K fd P_check_number [] := F.binds (ps := P_check_number) fun _ _ _ _ _ _ us hl => match us, hl with | [_, _, _], _ => rfl
theorem bd_from_zero {K : PySem.W.Frag} {f : Addr} (fd : FuncData) (F : Fun K "from_zero" "from_zero" s_from_zero f fd) : Binds K fd P_from_zero [] := F.binds (ps := P_from_zero) fun _ _ _ _ _ _ us hl => match us, hl with | [_], _ => rfl
theorem bd_marked_cells {K : PySem.W.Frag} {f : Addr} (fd : FuncData) (F : Fun K "marked_cells" "marked_cells" s_marked_cells f fd) : Binds K fd P_marked_cells [] := F.binds (ps := P_marked_cells) fun _ _ _ _ _ _ us hl => match us, hl with | [_], _ => rfl
theorem bd_shape_from {K : PySem.W.Frag} {f : Addr} (fd : FuncData) (F : Fun K "shape_from" "shape_from" s_shape_from f fd) : Binds K fd P_shape_from [] := F.binds (ps := P_shape_from) fun _ _ _ _ _ _ us hl => match us, hl with | [_], _ => rfl
theorem bd_shape_with {K : PySem.W.Frag} {f : Addr} (fd : FuncData) (F : Fun K "shape_with" "shape_with" s_shape_with f fd) : Binds K fd P_shape_with [] := F.binds (ps := P_shape_with) fun _ _ _ _ _ _ us hl => match us, hl with | [_], _ => rfl
theorem bd_check_shape {K : PySem.W.Frag} {f : Addr} (fd : FuncData) (F : Fun K "check_shape" "check_shape" s_check_shape f fd) : Binds K fd P_check_shape [] := F.binds (ps := P_check_shape) fun _ _ _ _ _ _ us hl => match us, hl with | [_], _ => rfl
theorem bd_rest_of {K : PySem.W.Frag} {f : Addr} (fd : FuncData) (F : Fun K "rest_of" "rest_of" s_rest_of f fd) : Binds K fd P_rest_of [] := F.binds (ps := P_rest_of) fun _ _ _ _ _ _ us hl => match us, hl with | [_, _], _ => rfl
theorem bd_holds_each_once {K : PySem.W.Frag} {f : Addr} (fd : FuncData) (F : Fun K "holds_each_once" "holds_each_once" s_holds_each_once f fd) : Binds K fd P_holds_each_once [] := F.binds (ps := P_holds_each_once) fun _ _ _ _ _ _ us hl => match us, hl with | [_, _], _ => rfl
theorem bd_lattices_with {K : PySem.W.Frag} {f : Addr} (fd : FuncData) (F : Fun K "lattices_with" "lattices_with" s_lattices_with f fd) : Binds K fd P_lattices_with [] := F.binds (ps := P_lattices_with) fun _ _ _ _ _ _ us hl => match us, hl with | [_], _ => rfl
theorem bd_held_by {K : PySem.W.Frag} {f : Addr} (fd : FuncData) (F : Fun K "held_by" "held_by" s_held_by f fd) : Binds K fd P_held_by [] := F.binds (ps := P_held_by) fun _ _ _ _ _ _ us hl => match us, hl with | [_, _, _, _], _ => rfl
theorem bd_copies_over {K : PySem.W.Frag} {f : Addr} (fd : FuncData) (F : Fun K "copies_over" "copies_over" s_copies_over f fd) : Binds K fd P_copies_over [] := F.binds (ps := P_copies_over) fun _ _ _ _ _ _ us hl => match us, hl with | [_, _, _], _ => rfl
theorem bd_all_free {K : PySem.W.Frag} {f : Addr} (fd : FuncData) (F : Fun K "all_free" "all_free" s_all_free f fd) : Binds K fd P_all_free [] := F.binds (ps := P_all_free) fun _ _ _ _ _ _ us hl => match us, hl with | [_, _], _ => rfl
theorem bd_first_of {K : PySem.W.Frag} {f : Addr} (fd : FuncData) (F : Fun K "first_of" "first_of" s_first_of f fd) : Binds K fd P_first_of [] := F.binds (ps := P_first_of) fun _ _ _ _ _ _ us hl => match us, hl with | [_], _ => rfl
theorem bd_fill {K : PySem.W.Frag} {f : Addr} (fd : FuncData) (F : Fun K "fill" "fill" s_fill f fd) : Binds K fd P_fill [] := F.binds (ps := P_fill) fun _ _ _ _ _ _ us hl => match us, hl with | [_, _, _, _], _ => rfl
theorem bd_fillings {K : PySem.W.Frag} {f : Addr} (fd : FuncData) (F : Fun K "fillings" "fillings" s_fillings f fd) : Binds K fd P_fillings [] := F.binds (ps := P_fillings) fun _ _ _ _ _ _ us hl => match us, hl with | [_, _, _], _ => rfl
theorem bd_both_cells {K : PySem.W.Frag} {f : Addr} (fd : FuncData) (F : Fun K "both_cells" "both_cells" s_both_cells f fd) : Binds K fd P_both_cells [] := F.binds (ps := P_both_cells) fun _ _ _ _ _ _ us hl => match us, hl with | [_, _], _ => rfl
theorem bd_is_floor {K : PySem.W.Frag} {f : Addr} (fd : FuncData) (F : Fun K "is_floor" "is_floor" s_is_floor f fd) : Binds K fd P_is_floor [] := F.binds (ps := P_is_floor) fun _ _ _ _ _ _ us hl => match us, hl with | [_, _], _ => rfl
theorem bd_has_form {K : PySem.W.Frag} {f : Addr} (fd : FuncData) (F : Fun K "has_form" "has_form" s_has_form f fd) : Binds K fd P_has_form [] := F.binds (ps := P_has_form) fun _ _ _ _ _ _ us hl => match us, hl with | [_], _ => rfl
theorem bd_turned_floors {K : PySem.W.Frag} {f : Addr} (fd : FuncData) (F : Fun K "turned_floors" "turned_floors" s_turned_floors f fd) : Binds K fd P_turned_floors [] := F.binds (ps := P_turned_floors) fun _ _ _ _ _ _ us hl => match us, hl with | [_], _ => rfl
theorem bd_is_turned_floor {K : PySem.W.Frag} {f : Addr} (fd : FuncData) (F : Fun K "is_turned_floor" "is_turned_floor" s_is_turned_floor f fd) : Binds K fd P_is_turned_floor [] := F.binds (ps := P_is_turned_floor) fun _ _ _ _ _ _ us hl => match us, hl with | [_, _], _ => rfl
theorem bd_is_same {K : PySem.W.Frag} {f : Addr} (fd : FuncData) (F : Fun K "is_same" "is_same" s_is_same f fd) : Binds K fd P_is_same [] := F.binds (ps := P_is_same) fun _ _ _ _ _ _ us hl => match us, hl with | [_, _], _ => rfl
theorem bd_accepts_turned {K : PySem.W.Frag} {f : Addr} (fd : FuncData) (F : Fun K "accepts_turned" "accepts_turned" s_accepts_turned f fd) : Binds K fd P_accepts_turned [] := F.binds (ps := P_accepts_turned) fun _ _ _ _ _ _ us hl => match us, hl with | [_, _, _], _ => rfl
theorem bd_accepts_rolled {K : PySem.W.Frag} {f : Addr} (fd : FuncData) (F : Fun K "accepts_rolled" "accepts_rolled" s_accepts_rolled f fd) : Binds K fd P_accepts_rolled [] := F.binds (ps := P_accepts_rolled) fun _ _ _ _ _ _ us hl => match us, hl with | [_, _, _], _ => rfl
theorem bd_accepts {K : PySem.W.Frag} {f : Addr} (fd : FuncData) (F : Fun K "accepts" "accepts" s_accepts f fd) : Binds K fd P_accepts [] := F.binds (ps := P_accepts) fun _ _ _ _ _ _ us hl => match us, hl with | [_, _], _ => rfl
theorem bd_certify_turned {K : PySem.W.Frag} {f : Addr} (fd : FuncData) (F : Fun K "certify_turned" "certify_turned" s_certify_turned f fd) : Binds K fd P_certify_turned [] := F.binds (ps := P_certify_turned) fun _ _ _ _ _ _ us hl => match us, hl with | [_], _ => rfl
theorem bd_certify_rolled {K : PySem.W.Frag} {f : Addr} (fd : FuncData) (F : Fun K "certify_rolled" "certify_rolled" s_certify_rolled f fd) : Binds K fd P_certify_rolled [] := F.binds (ps := P_certify_rolled) fun _ _ _ _ _ _ us hl => match us, hl with | [_, _, _], _ => rfl
theorem bd_bag {K : PySem.W.Frag} {f : Addr} (fd : FuncData) (F : Fun K "_law_bag" "_law_bag" s_bag f fd) : Binds K fd P_bag [] := F.binds (ps := P_bag) fun _ _ _ _ _ _ us hl => match us, hl with | [_, _], _ => rfl
theorem bd_take {K : PySem.W.Frag} {f : Addr} (fd : FuncData) (F : Fun K "_law_take" "_law_take" s_take f fd) : Binds K fd P_take [] := F.binds (ps := P_take) fun _ _ _ _ _ _ us hl => match us, hl with | [_, _], _ => rfl
theorem bd_of {K : PySem.W.Frag} {f : Addr} (fd : FuncData) (F : Fun K "_law_of" "_law_of" s_of f fd) : Binds K fd P_of [] := F.binds (ps := P_of) fun _ _ _ _ _ _ us hl => match us, hl with | [_, _], _ => rfl
theorem bd_whole {K : PySem.W.Frag} {f : Addr} (fd : FuncData) (F : Fun K "_law_whole" "_law_whole" s_whole f fd) : Binds K fd P_whole [] := F.binds (ps := P_whole) fun _ _ _ _ _ _ us hl => match us, hl with | [_], _ => rfl
theorem bd_laid {K : PySem.W.Frag} {f : Addr} (fd : FuncData) (F : Fun K "_law_laid" "_law_laid" s_laid f fd) : Binds K fd P_laid [] := F.binds (ps := P_laid) fun _ _ _ _ _ _ us hl => match us, hl with | [_], _ => rfl
theorem bd_spots {K : PySem.W.Frag} {f : Addr} (fd : FuncData) (F : Fun K "_law_spots" "_law_spots" s_spots f fd) : Binds K fd P_spots [] := F.binds (ps := P_spots) fun _ _ _ _ _ _ us hl => match us, hl with | [_, _], _ => rfl
theorem bd_page {K : PySem.W.Frag} {f : Addr} (fd : FuncData) (F : Fun K "_law_page" "_law_page" s_page f fd) : Binds K fd P_page [] := F.binds (ps := P_page) fun _ _ _ _ _ _ us hl => match us, hl with | [_], _ => rfl
theorem bd_left {K : PySem.W.Frag} {f : Addr} (fd : FuncData) (F : Fun K "_law_left" "_law_left" s_left f fd) : Binds K fd P_left [] := F.binds (ps := P_left) fun _ _ _ _ _ _ us hl => match us, hl with | [_, _], _ => rfl
theorem bd_grids {K : PySem.W.Frag} {f : Addr} (fd : FuncData) (F : Fun K "_law_grids" "_law_grids" s_grids f fd) : Binds K fd P_grids [] := F.binds (ps := P_grids) fun _ _ _ _ _ _ us hl => match us, hl with | [_], _ => rfl
theorem bd_made {K : PySem.W.Frag} {f : Addr} (fd : FuncData) (F : Fun K "_law_made" "_law_made" s_made f fd) : Binds K fd P_made [] := F.binds (ps := P_made) fun _ _ _ _ _ _ us hl => match us, hl with | [_], _ => rfl
theorem bd_is_grid {K : PySem.W.Frag} {f : Addr} (fd : FuncData) (F : Fun K "_law_is_grid" "_law_is_grid" s_is_grid f fd) : Binds K fd P_is_grid [] := F.binds (ps := P_is_grid) fun _ _ _ _ _ _ us hl => match us, hl with | [_, _], _ => rfl
theorem bd_judge {K : PySem.W.Frag} {f : Addr} (fd : FuncData) (F : Fun K "_law_judge" "_law_judge" s_judge f fd) : Binds K fd P_judge [] := F.binds (ps := P_judge) fun _ _ _ _ _ _ us hl => match us, hl with | [_, _, _], _ => rfl
theorem bd_is_turned {K : PySem.W.Frag} {f : Addr} (fd : FuncData) (F : Fun K "_law_is_turned" "_law_is_turned" s_is_turned f fd) : Binds K fd P_is_turned [] := F.binds (ps := P_is_turned) fun _ _ _ _ _ _ us hl => match us, hl with | [_, _], _ => rfl
theorem bd_all_turned {K : PySem.W.Frag} {f : Addr} (fd : FuncData) (F : Fun K "_law_all_turned" "_law_all_turned" s_all_turned f fd) : Binds K fd P_all_turned [] := F.binds (ps := P_all_turned) fun _ _ _ _ _ _ us hl => match us, hl with | [_], _ => rfl
theorem bd_l_fillings {K : PySem.W.Frag} {f : Addr} (fd : FuncData) (F : Fun K "_law_fillings" "_law_fillings" s_l_fillings f fd) : Binds K fd P_l_fillings [] := F.binds (ps := P_l_fillings) fun _ _ _ _ _ _ us hl => match us, hl with | [_, _, _], _ => rfl
theorem bd_right {K : PySem.W.Frag} {f : Addr} (fd : FuncData) (F : Fun K "_law_right" "_law_right" s_right f fd) : Binds K fd P_right [] := F.binds (ps := P_right) fun _ _ _ _ _ _ us hl => match us, hl with | [_], _ => rfl
theorem bd_law {K : PySem.W.Frag} {f : Addr} (fd : FuncData) (F : Fun K "law" "law" s_law f fd) : Binds K fd P_law [] := F.binds (ps := P_law) fun _ _ _ _ _ _ us hl => match us, hl with | [_], _ => rfl
theorem bd_m_wide {K : PySem.W.Frag} {f : Addr} (fd : FuncData) (F : Fun K "wide" "Shape.wide" s_m_wide f fd) : Binds K fd ["self"] [] := F.binds (ps := ["self"]) fun _ _ _ _ _ _ us hl => match us, hl with | [_], _ => rfl
theorem bd_m_high {K : PySem.W.Frag} {f : Addr} (fd : FuncData) (F : Fun K "high" "Shape.high" s_m_high f fd) : Binds K fd ["self"] [] := F.binds (ps := ["self"]) fun _ _ _ _ _ _ us hl => match us, hl with | [_], _ => rfl
theorem bd_m_str {K : PySem.W.Frag} {f : Addr} (fd : FuncData) (F : Fun K "__str__" "Shape.__str__" s_m_str f fd) : Binds K fd ["self"] [] := F.binds (ps := ["self"]) fun _ _ _ _ _ _ us hl => match us, hl with | [_], _ => rfl
theorem bd_m_len {K : PySem.W.Frag} {f : Addr} (fd : FuncData) (F : Fun K "__len__" "Shape.__len__" s_m_len f fd) : Binds K fd ["self"] [] := F.binds (ps := ["self"]) fun _ _ _ _ _ _ us hl => match us, hl with | [_], _ => rfl
def zl : List Str := ["abs", "all", "bool", "divmod", "enumerate", "int", "isinstance", "len", "list", "max", "min", "range", "repr", "set", "sorted", "str", "sum", "tuple", "zip"]
def chkT (K : Frag) : Bool := (zl.all (HF.freeB K)) && chkM K "MOST_CELLS" 24 && chkM K "MOST_PLACE" 1000 && chkM K "MOST_ROLLED" 36 && chkM K "MOST_TO_TURN" 12
theorem txt_of {K : Frag} {h : Heap} {mg : Str → Option Value} (X : K.In h) (G : h.Ns mainGlobals mg) (hc : chkT K = true) : Txt mg := by
  unfold chkT at hc
  simp only [Bool.and_eq_true] at hc
  obtain ⟨⟨⟨⟨hz, h0⟩, h1⟩, h2⟩, h3⟩ := hc
  have z : ∀ {n : Str}, n ∈ zl → mg n = none := fun {n} hn => PySem.W.mg_none_of X G (HF.freeB_ok (List.all_eq_true.mp hz n hn))
  exact { z_abs := z (.head _), z_all := z (.tail _ (.head _)), z_bool := z (.tail _ (.tail _ (.head _))), z_divmod := z (.tail _ (.tail _ (.tail _ (.head _)))), z_enumerate := z (.tail _ (.tail _ (.tail _ (.tail _ (.head _))))), z_int := z (.tail _ (.tail _ (.tail _ (.tail _ (.tail _ (.head _)))))), z_isinstance := z (.tail _ (.tail _ (.tail _ (.tail _ (.tail _ (.tail _ (.head _))))))), z_len := z (.tail _ (.tail _ (.tail _ (.tail _ (.tail _ (.tail _ (.tail _ (.head _)))))))), z_list := z (.tail _ (.tail _ (.tail _ (.tail _ (.tail _ (.tail _ (.tail _ (.tail _ (.head _))))))))), z_max := z (.tail _ (.tail _ (.tail _ (.tail _ (.tail _ (.tail _ (.tail _ (.tail _ (.tail _ (.head _)))))))))), z_min := z (.tail _ (.tail _ (.tail _ (.tail _ (.tail _ (.tail _ (.tail _ (.tail _ (.tail _ (.tail _ (.head _))))))))))), z_range := z (.tail _ (.tail _ (.tail _ (.tail _ (.tail _ (.tail _ (.tail _ (.tail _ (.tail _ (.tail _ (.tail _ (.head _)))))))))))), z_repr := z (.tail _ (.tail _ (.tail _ (.tail _ (.tail _ (.tail _ (.tail _ (.tail _ (.tail _ (.tail _ (.tail _ (.tail _ (.head _))))))))))))), z_set := z (.tail _ (.tail _ (.tail _ (.tail _ (.tail _ (.tail _ (.tail _ (.tail _ (.tail _ (.tail _ (.tail _ (.tail _ (.tail _ (.head _)))))))))))))), z_sorted := z (.tail _ (.tail _ (.tail _ (.tail _ (.tail _ (.tail _ (.tail _ (.tail _ (.tail _ (.tail _ (.tail _ (.tail _ (.tail _ (.tail _ (.head _))))))))))))))), z_str := z (.tail _ (.tail _ (.tail _ (.tail _ (.tail _ (.tail _ (.tail _ (.tail _ (.tail _ (.tail _ (.tail _ (.tail _ (.tail _ (.tail _ (.tail _ (.head _)))))))))))))))), z_sum := z (.tail _ (.tail _ (.tail _ (.tail _ (.tail _ (.tail _ (.tail _ (.tail _ (.tail _ (.tail _ (.tail _ (.tail _ (.tail _ (.tail _ (.tail _ (.tail _ (.head _))))))))))))))))), z_tuple := z (.tail _ (.tail _ (.tail _ (.tail _ (.tail _ (.tail _ (.tail _ (.tail _ (.tail _ (.tail _ (.tail _ (.tail _ (.tail _ (.tail _ (.tail _ (.tail _ (.tail _ (.head _)))))))))))))))))), z_zip := z (.tail _ (.tail _ (.tail _ (.tail _ (.tail _ (.tail _ (.tail _ (.tail _ (.tail _ (.tail _ (.tail _ (.tail _ (.tail _ (.tail _ (.tail _ (.tail _ (.tail _ (.tail _ (.head _))))))))))))))))))), m_MOST_CELLS := m_of X G h0, m_MOST_PLACE := m_of X G h1, m_MOST_ROLLED := m_of X G h2, m_MOST_TO_TURN := m_of X G h3 }
theorem all_of {P : Program} {w : World} {K : Frag} {mg : Str → Option Value} (T : Txt mg) {CS : Addr} (Z : DO.ShIn K mg CS "Shape" "_cells" "cells" s_init s_cells "Shape.__init__" "Shape.cells") (Y : Mths K CS) {AC AL F0 F1 : Addr} (Y2 : Ck K w mg AC AL F0 F1) (b_is_int : DefIn K mg "is_int" s_is_int P_is_int) (b_is_ints : DefIn K mg "is_ints" s_is_ints P_is_ints) (b_is_pair : DefIn K mg "is_pair" s_is_pair P_is_pair) (b_is_place : DefIn K mg "is_place" s_is_place P_is_place) (b_is_lattice : DefIn K mg "is_lattice" s_is_lattice P_is_lattice) (b_is_within : DefIn K mg "is_within" s_is_within P_is_within) (b_first_wrong : DefIn K mg "first_wrong" s_first_wrong P_first_wrong) (b_is_nonempty : DefIn K mg "is_nonempty" s_is_nonempty P_is_nonempty) (b_check_cells : DefIn K mg "check_cells" s_check_cells P_check_cells) (b_check_number : DefIn K mg "check_number" s_check_number P_check_number) (b_from_zero : DefIn K mg "from_zero" s_from_zero P_from_zero) (b_marked_cells : DefIn K mg "marked_cells" s_marked_cells P_marked_cells) (b_shape_from : DefIn K mg "shape_from" s_shape_from P_shape_from) (b_shape_with : DefIn K mg "shape_with" s_shape_with P_shape_with) (b_check_shape : DefIn K mg "check_shape" s_check_shape P_check_shape) (b_rest_of : DefIn K mg "rest_of" s_rest_of P_rest_of) (b_holds_each_once : DefIn K mg "holds_each_once" s_holds_each_once P_holds_each_once) (b_lattices_with : DefIn K mg "lattices_with" s_lattices_with P_lattices_with) (b_held_by : DefIn K mg "held_by" s_held_by P_held_by) (b_copies_over : DefIn K mg "copies_over" s_copies_over P_copies_over) (b_all_free : DefIn K mg "all_free" s_all_free P_all_free) (b_first_of : DefIn K mg "first_of" s_first_of P_first_of) (b_fill : DefIn K mg "fill" s_fill P_fill) (b_fillings : DefIn K mg "fillings" s_fillings P_fillings) (b_both_cells : DefIn K mg "both_cells" s_both_cells P_both_cells) (b_is_floor : DefIn K mg "is_floor" s_is_floor P_is_floor) (b_has_form : DefIn K mg "has_form" s_has_form P_has_form) (b_turned_floors : DefIn K mg "turned_floors" s_turned_floors P_turned_floors) (b_is_turned_floor : DefIn K mg "is_turned_floor" s_is_turned_floor P_is_turned_floor) (b_is_same : DefIn K mg "is_same" s_is_same P_is_same) (b_accepts_turned : DefIn K mg "accepts_turned" s_accepts_turned P_accepts_turned) (b_accepts_rolled : DefIn K mg "accepts_rolled" s_accepts_rolled P_accepts_rolled) (b_accepts : DefIn K mg "accepts" s_accepts P_accepts) (b_certify_turned : DefIn K mg "certify_turned" s_certify_turned P_certify_turned) (b_certify_rolled : DefIn K mg "certify_rolled" s_certify_rolled P_certify_rolled) (b_bag : DefIn K mg "_law_bag" s_bag P_bag) (b_take : DefIn K mg "_law_take" s_take P_take) (b_of : DefIn K mg "_law_of" s_of P_of) (b_whole : DefIn K mg "_law_whole" s_whole P_whole) (b_laid : DefIn K mg "_law_laid" s_laid P_laid) (b_spots : DefIn K mg "_law_spots" s_spots P_spots) (b_page : DefIn K mg "_law_page" s_page P_page) (b_left : DefIn K mg "_law_left" s_left P_left) (b_grids : DefIn K mg "_law_grids" s_grids P_grids) (b_made : DefIn K mg "_law_made" s_made P_made) (b_is_grid : DefIn K mg "_law_is_grid" s_is_grid P_is_grid) (b_judge : DefIn K mg "_law_judge" s_judge P_judge) (b_is_turned : DefIn K mg "_law_is_turned" s_is_turned P_is_turned) (b_all_turned : DefIn K mg "_law_all_turned" s_all_turned P_all_turned) (b_l_fillings : DefIn K mg "_law_fillings" s_l_fillings P_l_fillings) (b_right : DefIn K mg "_law_right" s_right P_right) (b_law : DefIn K mg "law" s_law P_law) (base : Heap) : DefOk P w K mg base "law" 20 P_law (spD K S_law) := by
  have CL_Shape := Z.cl
  have mg_Shape := Z.mg
  have PR_cells : DO.PropD P w K mg base CS "cells" "_cells" 1 := by
    obtain ⟨p, g, fd, hp, F⟩ := Z.prop
    exact DO.propD_mk Z.cl.cls Z.na hp F sc_cells rfl rfl (bd_cells fd F)
  have PG_wide : DO.PropG P w K mg base CS "wide" 1 (S_m_wide CS) := by
    obtain ⟨p, g, fd, hp, F⟩ := Y.wide
    exact DO.propG_mk Z.cl.cls hp (d_m_wide F (bd_m_wide fd F) T Z.cl.cls Z.na)
  have PG_high : DO.PropG P w K mg base CS "high" 1 (S_m_high CS) := by
    obtain ⟨p, g, fd, hp, F⟩ := Y.high
    exact DO.propG_mk Z.cl.cls hp (d_m_high F (bd_m_high fd F) T Z.cl.cls Z.na)
  have SG_str : DO.SpG P w K mg base CS "__str__" 3 (S_m_str CS) := by
    obtain ⟨g, fd, hs, hf, F⟩ := Y.str
    exact ⟨g, d_m_str F (bd_m_str fd F) T Z.cl.cls Z.na PG_high PG_wide, hs, hf⟩
  have SG_len : DO.SpG P w K mg base CS "__len__" 1 (S_m_len CS) := by
    obtain ⟨g, fd, hs, hf, F⟩ := Y.len
    exact ⟨g, d_m_len F (bd_m_len fd F) T Z.cl.cls Z.na, hs, hf⟩
  have KD_CHECKS := Y2.kC
  have KD_LENGTHS := Y2.kL
  have e_is_int := d_is_int (P := P) (w := w) (base := base) b_is_int T
  have e_is_ints := d_is_ints (P := P) (w := w) (base := base) b_is_ints T e_is_int
  have e_is_pair := d_is_pair (P := P) (w := w) (base := base) b_is_pair T e_is_int
  have e_is_place := d_is_place (P := P) (w := w) (base := base) b_is_place T e_is_pair
  have e_is_lattice := d_is_lattice (P := P) (w := w) (base := base) b_is_lattice T e_is_ints
  have e_is_within := d_is_within (P := P) (w := w) (base := base) b_is_within T e_is_int
  have e_first_wrong := d_first_wrong (P := P) (w := w) (base := base) b_first_wrong T e_is_place
  have e_is_nonempty := d_is_nonempty (P := P) (w := w) (base := base) b_is_nonempty T
  have e_check_cells := d_check_cells (P := P) (w := w) (base := base) b_check_cells T e_is_nonempty e_first_wrong
  have e_check_number := d_check_number (P := P) (w := w) (base := base) b_check_number T e_is_within
  have e_from_zero := d_from_zero (P := P) (w := w) (base := base) b_from_zero T
  have e_marked_cells := d_marked_cells (P := P) (w := w) (base := base) b_marked_cells T
  have MK_Shape : DO.MkOk P w K mg base "Shape" CS 6 ["self", "cells"] (DO.spMk K CS ["_cells"] S_ini) := by
    obtain ⟨f, fd, F, M⟩ := Z.init
    exact d_init Z.mg M F (bd_init fd F) Z.cl.cls Z.na T e_check_cells e_from_zero
  have e_shape_from := d_shape_from (P := P) (w := w) (base := base) b_shape_from T Z.cl.cls Z.na MK_Shape e_from_zero
  have e_shape_with := d_shape_with (P := P) (w := w) (base := base) b_shape_with T SG_str e_shape_from e_marked_cells
  have e_check_shape := d_check_shape (P := P) (w := w) (base := base) b_check_shape T CL_Shape mg_Shape
  have e_rest_of := d_rest_of (P := P) (w := w) (base := base) b_rest_of T
  have e_holds_each_once := d_holds_each_once (P := P) (w := w) (base := base) b_holds_each_once T e_rest_of
  have e_lattices_with := d_lattices_with (P := P) (w := w) (base := base) b_lattices_with T
  have e_held_by := d_held_by (P := P) (w := w) (base := base) b_held_by T PR_cells
  have e_copies_over := d_copies_over (P := P) (w := w) (base := base) b_copies_over T e_held_by
  have e_all_free := d_all_free (P := P) (w := w) (base := base) b_all_free T
  have e_first_of := d_first_of (P := P) (w := w) (base := base) b_first_of T
  have e_fill := fill_at (P := P) (w := w) (base := base) 13 b_fill T e_first_of
  have e_fillings := d_fillings (P := P) (w := w) (base := base) b_fillings T e_check_shape e_check_number e_copies_over e_all_free e_fill
  have e_both_cells := d_both_cells (P := P) (w := w) (base := base) b_both_cells T PR_cells
  have e_is_floor := d_is_floor (P := P) (w := w) (base := base) b_is_floor T e_holds_each_once e_both_cells
  have e_has_form := d_has_form (P := P) (w := w) (base := base) b_has_form T e_is_lattice e_is_ints
  have e_turned_floors := d_turned_floors (P := P) (w := w) (base := base) b_turned_floors T SG_len e_check_shape e_lattices_with e_is_floor
  have e_is_turned_floor := d_is_turned_floor (P := P) (w := w) (base := base) b_is_turned_floor T e_check_shape e_is_floor e_has_form
  have e0_is_same := DO.dok_bot (P := P) (w := w) (base := base) (k := 1) b_is_same
  have e1_is_same := d_is_same (P := P) (w := w) (base := base) 0 b_is_same T e_is_int e0_is_same
  have e2_is_same := d_is_same (P := P) (w := w) (base := base) 1 b_is_same T e_is_int e1_is_same
  have e3_is_same := d_is_same (P := P) (w := w) (base := base) 2 b_is_same T e_is_int e2_is_same
  have e_is_same := d_is_same (P := P) (w := w) (base := base) 3 b_is_same T e_is_int e3_is_same
  have e_accepts_turned := d_accepts_turned (P := P) (w := w) (base := base) b_accepts_turned T e_is_same e_is_turned_floor
  have e_accepts_rolled := d_accepts_rolled (P := P) (w := w) (base := base) b_accepts_rolled T e_is_within e_fillings e_is_same
  have e_accepts : DOk P w K mg base "accepts" s_accepts 17 P_accepts (S_accepts CS) := (DO.dok_or (d_acceptsT (P := P) (w := w) (base := base) b_accepts T KD_CHECKS KD_LENGTHS Y2.f0 Y2.k0 Y2.l0 e_shape_with e_accepts_turned) (d_acceptsR (P := P) (w := w) (base := base) b_accepts T KD_CHECKS KD_LENGTHS Y2.f1 Y2.k1 Y2.l1 e_shape_with e_accepts_rolled))
  have e_certify_turned := d_certify_turned (P := P) (w := w) (base := base) b_certify_turned T SG_str e_turned_floors
  have e_certify_rolled := d_certify_rolled (P := P) (w := w) (base := base) b_certify_rolled T SG_str e_fillings
  have e_bag := d_bag (P := P) (w := w) (base := base) b_bag T
  have e_take := d_take (P := P) (w := w) (base := base) b_take T
  have e_of := d_of (P := P) (w := w) (base := base) b_of T e_take
  have e_whole := d_whole (P := P) (w := w) (base := base) b_whole T
  have e_laid := d_laid (P := P) (w := w) (base := base) b_laid T
  have e_spots := d_spots (P := P) (w := w) (base := base) b_spots T e_take e_of e_laid
  have e_page := d_page (P := P) (w := w) (base := base) b_page T
  have e_left := d_left (P := P) (w := w) (base := base) b_left T
  have e_grids := d_grids (P := P) (w := w) (base := base) b_grids T
  have e_made := d_made (P := P) (w := w) (base := base) b_made T MK_Shape
  have e_is_grid := d_is_grid (P := P) (w := w) (base := base) b_is_grid T e_whole
  have e_judge := d_judge (P := P) (w := w) (base := base) b_judge T e_accepts
  have e_is_turned := d_is_turned (P := P) (w := w) (base := base) b_is_turned T e_whole e_is_grid e_left
  have e_all_turned := d_all_turned (P := P) (w := w) (base := base) b_all_turned T e_grids e_is_turned
  have e_l_fillings := d_l_fillings (P := P) (w := w) (base := base) b_l_fillings T
  have e_right := d_right (P := P) (w := w) (base := base) b_right T e_spots e_page e_made e_all_turned e_certify_turned e_judge e_of e_l_fillings e_certify_rolled
  exact (d_law (P := P) (w := w) (base := base) b_law T e_right e_bag).d
def names0 : List PySem.Str := ["_wall", "WrongValue", "InvalidText", "InvalidNumber", "InvalidCell", "InvalidCut", "NotAShape", "InvalidCells", "NoAnswer", "NotWhole", "TooGreat", "MOST_CELLS", "MOST_PLACE", "MOST_ROLLED", "is_int", "is_ints", "is_pair", "is_place", "is_lattice", "is_within"]
def names1 : List PySem.Str := ["first_wrong", "is_nonempty", "check_cells", "check_cell", "check_number", "from_zero", "marked_cells", "cells_beside", "is_joined", "Shape", "shape_from", "shape_with", "check_shape", "rest_of", "holds_each_once", "holder", "lattices_with", "MOST_HUES", "neighbours_of", "times_taken"]
def names2 : List PySem.Str := ["steps_from", "tell_apart", "is_hues", "held_by", "copies_over", "all_free", "first_of", "fill", "fillings", "MOST_TO_TURN", "both_cells", "is_floor", "has_form", "turned_floors", "is_turned_floor", "STEPS", "OPPOSITE", "check_whole", "letters_at", "walk_of"]
def names3 : List PySem.Str := ["opposite", "comes_back", "cuts_of", "is_cut", "check_cut", "parts", "is_same", "is_filling", "has_double", "rests_of", "first_parts", "holding_shoves", "accepts_fills", "accepts_stuck", "accepts_cut", "accepts_hues", "accepts_turned", "accepts_rolled", "accepts_apart", "CHECKS"]
def names4 : List PySem.Str := ["LENGTHS", "accepts", "certify_turned", "certify_rolled", "_law_bag", "_law_take", "_law_of", "_law_whole", "_law_laid", "_law_spots", "_law_page", "_law_left", "_law_grids", "_law_made", "_law_is_grid", "_law_judge", "_law_is_turned", "_law_all_turned", "_law_fillings", "_law_right"]
def names : List PySem.Str := names0 ++ (names1 ++ (names2 ++ (names3 ++ (names4))))
def fds0 : List HF.Fd := [HF.gFd "is_int" s_is_int, HF.gFd "is_ints" s_is_ints, HF.gFd "is_pair" s_is_pair, HF.gFd "is_place" s_is_place, HF.gFd "is_lattice" s_is_lattice, HF.gFd "is_within" s_is_within, HF.gFd "first_wrong" s_first_wrong, HF.gFd "is_nonempty" s_is_nonempty, HF.gFd "check_cells" s_check_cells, HF.gFd "check_number" s_check_number, HF.gFd "from_zero" s_from_zero, HF.gFd "marked_cells" s_marked_cells, HF.gFd "shape_from" s_shape_from, HF.gFd "shape_with" s_shape_with, HF.gFd "check_shape" s_check_shape, HF.gFd "rest_of" s_rest_of, HF.gFd "holds_each_once" s_holds_each_once, HF.gFd "lattices_with" s_lattices_with, HF.gFd "held_by" s_held_by, HF.gFd "copies_over" s_copies_over]
def fds1 : List HF.Fd := [HF.gFd "all_free" s_all_free, HF.gFd "first_of" s_first_of, HF.gFd "fill" s_fill, HF.gFd "fillings" s_fillings, HF.gFd "both_cells" s_both_cells, HF.gFd "is_floor" s_is_floor, HF.gFd "has_form" s_has_form, HF.gFd "turned_floors" s_turned_floors, HF.gFd "is_turned_floor" s_is_turned_floor, HF.gFd "is_same" s_is_same, HF.gFd "accepts_turned" s_accepts_turned, HF.gFd "accepts_rolled" s_accepts_rolled, HF.gFd "accepts" s_accepts, HF.gFd "certify_turned" s_certify_turned, HF.gFd "certify_rolled" s_certify_rolled, HF.gFd "_law_bag" s_bag, HF.gFd "_law_take" s_take, HF.gFd "_law_of" s_of, HF.gFd "_law_whole" s_whole, HF.gFd "_law_laid" s_laid]
def fds2 : List HF.Fd := [HF.gFd "_law_spots" s_spots, HF.gFd "_law_page" s_page, HF.gFd "_law_left" s_left, HF.gFd "_law_grids" s_grids, HF.gFd "_law_made" s_made, HF.gFd "_law_is_grid" s_is_grid, HF.gFd "_law_judge" s_judge, HF.gFd "_law_is_turned" s_is_turned, HF.gFd "_law_all_turned" s_all_turned, HF.gFd "_law_fillings" s_l_fillings, HF.gFd "_law_right" s_right, HF.gFd "law" s_law, HF.mFd "Shape" "__init__" "Shape.__init__" s_init, HF.pFd "Shape" "cells" "Shape.cells" s_cells, HF.pFd "Shape" "wide" "Shape.wide" s_m_wide, HF.pFd "Shape" "high" "Shape.high" s_m_high, HF.mFd "Shape" "__str__" "Shape.__str__" s_m_str, HF.mFd "Shape" "__len__" "Shape.__len__" s_m_len]
def fds : List HF.Fd := fds0 ++ (fds1 ++ (fds2))
def gl0 : List Str := ["is_int", "is_ints", "is_pair", "is_place", "is_lattice", "is_within", "first_wrong", "is_nonempty", "check_cells", "check_number", "from_zero", "marked_cells", "shape_from", "shape_with", "check_shape", "rest_of", "holds_each_once", "lattices_with", "held_by", "copies_over"]
def gl1 : List Str := ["all_free", "first_of", "fill", "fillings", "both_cells", "is_floor", "has_form", "turned_floors", "is_turned_floor", "is_same", "accepts_turned", "accepts_rolled", "accepts", "certify_turned", "certify_rolled", "_law_bag", "_law_take", "_law_of", "_law_whole", "_law_laid"]
def gl2 : List Str := ["_law_spots", "_law_page", "_law_left", "_law_grids", "_law_made", "_law_is_grid", "_law_judge", "_law_is_turned", "_law_all_turned", "_law_fillings", "_law_right", "law"]
def gl : List Str := gl0 ++ (gl1 ++ (gl2))
def exB (K : Frag) : Bool := chkT K && ((gl.all (HF.gloB K)) && (HF.gloB K "Shape" && (HF.clsB K (He.ga K "Shape") "_cells" && (HF.propB K (He.ga K "Shape") "cells" && (HF.propB K (He.ga K "Shape") "wide" && (HF.propB K (He.ga K "Shape") "high" && ((HF.methB K (He.ga K "Shape") "__str__" && PySem.W.isFn K (.ref (He.ma K (He.ga K "Shape") "__str__"))) && ((HF.methB K (He.ga K "Shape") "__len__" && PySem.W.isFn K (.ref (He.ma K (He.ga K "Shape") "__len__"))) && (HF.gloB K "CHECKS" && (HF.gloB K "LENGTHS" && (HF.kvB K (He.ga K "CHECKS") "turned" (.ref (He.ga K "accepts_turned")) && (HF.kvB K (He.ga K "LENGTHS") "turned" (.int 1) && (HF.kvB K (He.ga K "CHECKS") "rolled" (.ref (He.ga K "accepts_rolled")) && (HF.kvB K (He.ga K "LENGTHS") "rolled" (.int 3)))))))))))))))
def tabs : List He.Tab := [(fun K => He.ga K "CHECKS", ["fills", "stuck", "cut", "hues", "turned", "rolled", "apart"]), (fun K => He.ga K "LENGTHS", ["fills", "stuck", "cut", "hues", "turned", "rolled", "apart"])]
theorem facts {P : Program} {w : World} {K : Frag} {h : Heap} {mg : Str → Option Value} (X : K.In h) (G : h.Ns mainGlobals mg) (c : HF.obsP fds exB tabs K = HF.valP fds tabs w) (base : Heap) : DefOk P w K mg base "law" 20 P_law (spD K S_law) := by
  have e := HF.says_ex c
  obtain ⟨e0, e⟩ := Bool.and_eq_true_iff.mp e
  obtain ⟨e1, e⟩ := Bool.and_eq_true_iff.mp e
  obtain ⟨e2, e⟩ := Bool.and_eq_true_iff.mp e
  obtain ⟨e3, e⟩ := Bool.and_eq_true_iff.mp e
  obtain ⟨e4, e⟩ := Bool.and_eq_true_iff.mp e
  obtain ⟨e5, e⟩ := Bool.and_eq_true_iff.mp e
  obtain ⟨e6, e⟩ := Bool.and_eq_true_iff.mp e
  obtain ⟨e7, e⟩ := Bool.and_eq_true_iff.mp e
  obtain ⟨e8, e⟩ := Bool.and_eq_true_iff.mp e
  obtain ⟨e9, e⟩ := Bool.and_eq_true_iff.mp e
  obtain ⟨e10, e⟩ := Bool.and_eq_true_iff.mp e
  obtain ⟨e11, e⟩ := Bool.and_eq_true_iff.mp e
  obtain ⟨e12, e⟩ := Bool.and_eq_true_iff.mp e
  obtain ⟨e13, e⟩ := Bool.and_eq_true_iff.mp e
  have e14 := e
  have gg : ∀ i x, gl[i]? = some x → HF.gloB K x = true := fun i x q => List.all_eq_true.mp e1 x (List.mem_of_getElem? q)
  have Z := HF.sh_of (x := "Shape") (fld := "_cells") (pn := "cells") (q1 := "Shape.__init__") (q2 := "Shape.cells") (sI := s_init) (sC := s_cells) X G e2 e3 e4 (HF.says_fn c 52) (HF.says_fn c 53)
  have Y : Mths K (He.ga K "Shape") := by
    obtain ⟨f54, F54⟩ := HF.says_fn c 54
    obtain ⟨f55, F55⟩ := HF.says_fn c 55
    obtain ⟨f56, F56⟩ := HF.says_fn c 56
    obtain ⟨f57, F57⟩ := HF.says_fn c 57
    obtain ⟨i56, j56⟩ := Bool.and_eq_true_iff.mp e7
    obtain ⟨i57, j57⟩ := Bool.and_eq_true_iff.mp e8
    exact ⟨⟨_, _, f54, HF.propB_ok e5, F54⟩, ⟨_, _, f55, HF.propB_ok e6, F55⟩, ⟨_, f56, HF.methB_ok i56, j56, F56⟩, ⟨_, f57, HF.methB_ok i57, j57, F57⟩⟩
  obtain ⟨es1, n1, D1⟩ := HF.says_tab c 0
  obtain ⟨es2, n2, D2⟩ := HF.says_tab c 1
  have Y2 : Ck K w mg (He.ga K "CHECKS") (He.ga K "LENGTHS") (He.ga K "accepts_turned") (He.ga K "accepts_rolled") := ⟨⟨PySem.W.mg_of X G (HF.gloB_ok e9), es1, n1, D1⟩, ⟨PySem.W.mg_of X G (HF.gloB_ok e10), es2, n2, D2⟩, PySem.W.mg_of X G (HF.gloB_ok (gg 30 _ rfl)), HF.kvB_ok D1 e11, HF.kvB_ok D2 e12, PySem.W.mg_of X G (HF.gloB_ok (gg 31 _ rfl)), HF.kvB_ok D1 e13, HF.kvB_ok D2 e14⟩
  exact all_of (txt_of X G e0) Z Y Y2 (HF.defIn_of X G (gg 0 _ rfl) (HF.says_fn c 0) bd_is_int) (HF.defIn_of X G (gg 1 _ rfl) (HF.says_fn c 1) bd_is_ints) (HF.defIn_of X G (gg 2 _ rfl) (HF.says_fn c 2) bd_is_pair) (HF.defIn_of X G (gg 3 _ rfl) (HF.says_fn c 3) bd_is_place) (HF.defIn_of X G (gg 4 _ rfl) (HF.says_fn c 4) bd_is_lattice) (HF.defIn_of X G (gg 5 _ rfl) (HF.says_fn c 5) bd_is_within) (HF.defIn_of X G (gg 6 _ rfl) (HF.says_fn c 6) bd_first_wrong) (HF.defIn_of X G (gg 7 _ rfl) (HF.says_fn c 7) bd_is_nonempty) (HF.defIn_of X G (gg 8 _ rfl) (HF.says_fn c 8) bd_check_cells) (HF.defIn_of X G (gg 9 _ rfl) (HF.says_fn c 9) bd_check_number) (HF.defIn_of X G (gg 10 _ rfl) (HF.says_fn c 10) bd_from_zero) (HF.defIn_of X G (gg 11 _ rfl) (HF.says_fn c 11) bd_marked_cells) (HF.defIn_of X G (gg 12 _ rfl) (HF.says_fn c 12) bd_shape_from) (HF.defIn_of X G (gg 13 _ rfl) (HF.says_fn c 13) bd_shape_with) (HF.defIn_of X G (gg 14 _ rfl) (HF.says_fn c 14) bd_check_shape) (HF.defIn_of X G (gg 15 _ rfl) (HF.says_fn c 15) bd_rest_of) (HF.defIn_of X G (gg 16 _ rfl) (HF.says_fn c 16) bd_holds_each_once) (HF.defIn_of X G (gg 17 _ rfl) (HF.says_fn c 17) bd_lattices_with) (HF.defIn_of X G (gg 18 _ rfl) (HF.says_fn c 18) bd_held_by) (HF.defIn_of X G (gg 19 _ rfl) (HF.says_fn c 19) bd_copies_over) (HF.defIn_of X G (gg 20 _ rfl) (HF.says_fn c 20) bd_all_free) (HF.defIn_of X G (gg 21 _ rfl) (HF.says_fn c 21) bd_first_of) (HF.defIn_of X G (gg 22 _ rfl) (HF.says_fn c 22) bd_fill) (HF.defIn_of X G (gg 23 _ rfl) (HF.says_fn c 23) bd_fillings) (HF.defIn_of X G (gg 24 _ rfl) (HF.says_fn c 24) bd_both_cells) (HF.defIn_of X G (gg 25 _ rfl) (HF.says_fn c 25) bd_is_floor) (HF.defIn_of X G (gg 26 _ rfl) (HF.says_fn c 26) bd_has_form) (HF.defIn_of X G (gg 27 _ rfl) (HF.says_fn c 27) bd_turned_floors) (HF.defIn_of X G (gg 28 _ rfl) (HF.says_fn c 28) bd_is_turned_floor) (HF.defIn_of X G (gg 29 _ rfl) (HF.says_fn c 29) bd_is_same) (HF.defIn_of X G (gg 30 _ rfl) (HF.says_fn c 30) bd_accepts_turned) (HF.defIn_of X G (gg 31 _ rfl) (HF.says_fn c 31) bd_accepts_rolled) (HF.defIn_of X G (gg 32 _ rfl) (HF.says_fn c 32) bd_accepts) (HF.defIn_of X G (gg 33 _ rfl) (HF.says_fn c 33) bd_certify_turned) (HF.defIn_of X G (gg 34 _ rfl) (HF.says_fn c 34) bd_certify_rolled) (HF.defIn_of X G (gg 35 _ rfl) (HF.says_fn c 35) bd_bag) (HF.defIn_of X G (gg 36 _ rfl) (HF.says_fn c 36) bd_take) (HF.defIn_of X G (gg 37 _ rfl) (HF.says_fn c 37) bd_of) (HF.defIn_of X G (gg 38 _ rfl) (HF.says_fn c 38) bd_whole) (HF.defIn_of X G (gg 39 _ rfl) (HF.says_fn c 39) bd_laid) (HF.defIn_of X G (gg 40 _ rfl) (HF.says_fn c 40) bd_spots) (HF.defIn_of X G (gg 41 _ rfl) (HF.says_fn c 41) bd_page) (HF.defIn_of X G (gg 42 _ rfl) (HF.says_fn c 42) bd_left) (HF.defIn_of X G (gg 43 _ rfl) (HF.says_fn c 43) bd_grids) (HF.defIn_of X G (gg 44 _ rfl) (HF.says_fn c 44) bd_made) (HF.defIn_of X G (gg 45 _ rfl) (HF.says_fn c 45) bd_is_grid) (HF.defIn_of X G (gg 46 _ rfl) (HF.says_fn c 46) bd_judge) (HF.defIn_of X G (gg 47 _ rfl) (HF.says_fn c 47) bd_is_turned) (HF.defIn_of X G (gg 48 _ rfl) (HF.says_fn c 48) bd_all_turned) (HF.defIn_of X G (gg 49 _ rfl) (HF.says_fn c 49) bd_l_fillings) (HF.defIn_of X G (gg 50 _ rfl) (HF.says_fn c 50) bd_right) (HF.defIn_of X G (gg 51 _ rfl) (HF.says_fn c 51) bd_law) base
theorem start_law (K : Frag) (H : Hp) (a : Addr) (ns : List Int) (hl : ns.length ≤ 63) (hb : ∀ z ∈ ns, Builtin.Int.intBits z ≤ 1048576) (hS : SqL K H a (ns.map V.int)) : spD K S_law [.ref a] H (fun v _ => v = .bl true) E0 := DO.startB (fun ns l b => ⟨⟨l, b⟩, rfl⟩) K H a ns hl hb hS
abbrev RowQ : PySem.W.OpenRow := PySem.W.OpenLaw.row PySem.Challenge.rw_shovefloors_k74_whole_floors_certified
abbrev hk : PySem.W.Hook := HF.hookP fds exB tabs
def ob (s : PySem.W.SharedT) : HF.AlP := HF.obsPG fds exB tabs (HandSHeadRun.getT s)
theorem ob_eq (s : PySem.W.SharedT) : ob s = hk.obs s.abs := HF.obsPG_eq (HandSHeadRun.getT_eq s)
theorem run_f (w : World) : HandSHeadRun.RunEq RowQ (PySem.W.view RowQ.prog [111]) hk ob 9000 names (w.withFollow "special-get-raises" false) := by
  intro os
  kernel_rfl
theorem run_t (w : World) : HandSHeadRun.RunEq RowQ (PySem.W.view RowQ.prog [111]) hk ob 9000 names (w.withFollow "special-get-raises" true) := by
  intro os
  kernel_rfl
theorem run (w : World) : HandSHeadRun.RunEq RowQ (PySem.W.view RowQ.prog [111]) hk ob 9000 names w := PySem.W.byRow2 "special-get-raises" (P := fun w => HandSHeadRun.RunEq RowQ (PySem.W.view RowQ.prog [111]) hk ob 9000 names w) run_f run_t w
end K74
open PySem PySem.W PySem.Calls PyProof.Rows
theorem PySem.Challenge.cw_shovefloors_k74_whole_floors_certified_holds : PySem.Challenge.rw_shovefloors_k74_whole_floors_certified.Holds := by
  w_on; o_law
  refine HandSHeadRun.head_any (r := OpenLaw.row PySem.Challenge.rw_shovefloors_k74_whole_floors_certified) (q := view (OpenLaw.row PySem.Challenge.rw_shovefloors_k74_whole_floors_certified).prog [111]) (H := K74.hk) (ob := K74.ob) (M := 9000) (loose := K74.names) (d := HandSHeadRun.topDef (OpenLaw.row PySem.Challenge.rw_shovefloors_k74_whole_floors_certified).prog 111) (kwd := []) K74.ob_eq
    (by kernel_rfl) (fun s => by kernel_rfl) K74.run (by kernel_rfl) (by kernel_rfl) (by kernel_rfl) (by rfl) (by first | assumption | decide +kernel) (by decide +kernel) ⟨rfl, rfl, rfl, rfl, rfl, by decide +kernel⟩ ?hw ?hc
  case hw => w_witness2
  case hc =>
    refine HF.walk_ofH (l := PySem.Challenge.rw_shovefloors_k74_whole_floors_certified) (n := 63) (k := 20) (ps := K74.P_law) (sp := fun K => DL.spD K K74.S_law) rfl (by decide) (by kernel_rfl) ⟨rfl, by decide, by decide⟩ rfl ?F (fun K H a ns hl hb hS => K74.start_law K H a ns hl hb hS)
    rintro w mg h ⟨K, KX, c⟩ G
    refine ⟨K, KX, fun base => ?_⟩
    have e : (HandSHeadRun.topDef (OpenLaw.row PySem.Challenge.rw_shovefloors_k74_whole_floors_certified).prog 111).name = ("law" : PySem.Str) := by kernel_rfl
    rw [e]
    exact K74.facts KX G c base
#print axioms PySem.Challenge.cw_shovefloors_k74_whole_floors_certified_holds
