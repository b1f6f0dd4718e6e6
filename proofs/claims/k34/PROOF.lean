import PyProof.Rows.All
import Wide.All
import OpenK.AllK
import Wide.FinOn
import HandS.ForMost
import HandS.Wide
import PyProof.ReprRoads
import HandS.Property
import HandS.ClsMeth
import HandS.MakeKwOnly
import HandS.IsInst
import HandS.Evl
import HandS.Style
import HandS.Walk
import PyProof.InstNe
import HandS.Defaults
import PyProof.ReprLen
import HandS.CallLocal
import HandS.Exc
import HandS.ExcOwn
import HandS.ExcIs
import HandS.ExcField
import HandS.ExcValue
import KE.KExcIs
import HandS.ExcInit
import HandS.FStr
import KE.KExcSuper
import HandS.EndTab
import HandS.Star
import HandS.MethStar
import HandS.DictComp
import HandS.ListItems
import HandS.Conv
import HandS.More
import HandS.Strs
import HandS.Zip
import PyProof.Rows.SortStr
import HandS.SortRule
import HandS.NamedTupSort
import HandS.GenList
import HandS.GenYield
import KE.SortKeyHeap
import KE.KDictList
import HandS.Lambda
import KE.KNestM
import HandS.Words
import HandS.DictEq
import HandS.DeepEq
import HandS.OwnEq
import HandS.Iter
import PyProof.WalksMore
import KE.DataMinMax
import KE.KSortTupAny
import KE.SortData
import HandS.WordsExc
import PySem.Challenge.RW_askranges_k34_candidates
set_option Elab.async false
set_option linter.all false
set_option maxRecDepth 100000
set_option maxHeartbeats 2000000
/-! repr of data -/
namespace Ask
open PySem L2
open PyProof.Rows

/-- repr(x), x any data without a dict in it -/
def rRepr (K : PySem.W.Frag) : List V → Hp → VK → Prop := fun xs H Q =>
  ∃ (v : V) (d : PyData), xs = [v] ∧ Dp K H v d ∧ d.showable = true ∧ d.hasDict = false ∧ d.depth ≤ 60 ∧ d.shown.length ≤ sizeLine ∧ Q (.str d.shown) H
theorem cr_repr {X : Cx} (hg : X.A.guards = some []) (hu : X.A.units + 64 < cLine) :
    CallR X (.builtin "repr") (rRepr X.K) := by
  intro pins s σ H xs us Q I r h
  obtain ⟨v, d, rfl, hd, h1, h2, h3, h4, q⟩ := h
  obtain ⟨u, rfl, rx⟩ := vals1 r
  obtain ⟨as, rd⟩ := Dp.reads I d v u hd rx
  cases hd with
  | non =>
    cases rx
    exact P.repr_of_none ⟨.str _, H, I.tok _, ⟨_, rfl⟩, q⟩
  | bl b =>
    cases rx
    exact P.repr_of_bool ⟨.str _, H, I.tok _, ⟨_, rfl⟩, by cases b <;> exact q⟩
  | int i =>
    obtain ⟨t, rfl⟩ := rx
    have hz : i.natAbs.log2 < 1920 := by
      simpa [PyData.showable] using h1
    exact P.repr_of_int hz ⟨.str _, H, I.tok _, ⟨_, rfl⟩, q⟩
  | str x =>
    obtain ⟨t, rfl⟩ := rx
    exact P.repr_of_str ⟨.str _, H, I.tok _, ⟨_, rfl⟩, q⟩ h4
  | lst a b =>
    cases rx
    refine repr_of_reads' rd h1 (fun z => by rw [h2] at z; cases z) hg (by omega) (fun _ _ e => e) (fun h' u tk hk => ?_) h4
    exact ⟨.str _, H, I.kept hk, ⟨_, rfl⟩, q⟩
  | tup a b =>
    cases rx
    refine repr_of_reads' rd h1 (fun z => by rw [h2] at z; cases z) hg (by omega) (fun _ _ e => e) (fun h' u tk hk => ?_) h4
    exact ⟨.str _, H, I.kept hk, ⟨_, rfl⟩, q⟩
end Ask

set_option Elab.async false
set_option linter.all false
set_option maxRecDepth 100000
set_option maxHeartbeats 2000000
/-! the law's own def: run where no repr is under way -/
namespace Ask
open PySem L2
open PyProof.Rows

/-- a promise kept at calls around which no repr is under way -/
structure GOk (P : Program) (w : World) (K : PySem.W.Frag) (mg : Str → Option Value)
    (base : Heap) (CX : CXT) (k : Nat) (f : Addr) (fd : FuncData) (ps : List Str) (sp : Sp) : Prop where
  len : ∀ vs H Q E, sp vs H Q E → vs.length = ps.length
  run : ∀ (A : Around) (outer : List Env) (s : Shared) (H : Hp) (args : Args)
    (us : List Value) (vs : List V) (Q : VK) (E : XK), Room k A → A.guards = some [] →
    Env0 P w K mg base A outer s H → BindsTo s fd args (ps.zip us) → Vals vs us → sp vs H Q E →
    codeAny (model P w) A (.call (.ref f) args) (CR CX outer P w H s Q E) s

/-- such a def by its body -/
theorem gok_of {CX : CXT} {P : Program} {w : World} {K : PySem.W.Frag} {mg : Str → Option Value}
    {base : Heap} {k : Nat} {f : Addr} {name qual : Str} {params : Arguments} {body : List Stmt}
    {scope : Scope} {dV kV doc pm cdv ct oc : Value} {an od : Option Addr} {osl : Array (Option Value)}
    {N ps : List Str} {sp : Sp}
    (lk : K.lookup f = some ⟨oc, od, .func (PySem.W.fnOf name qual params body scope dV kV doc pm an cdv ct), osl⟩)
    (hcd : PySem.W.codeIn K cdv qual = true) (S : FnScope N ps scope)
    (len : ∀ vs H Q E, sp vs H Q E → vs.length = ps.length)
    (hbody : ∀ (A : Around) (outer : List Env) (s : Shared) (H : Hp) (vs : List V) (Q : VK) (E : XK),
      Room k (A.deeper (envOfC qual scope s.heap.objs.size f cdv)) →
      (A.deeper (envOfC qual scope s.heap.objs.size f cdv)).guards = some [] → sp vs H Q E →
      ∃ t, PSs (cxOf CX P w K mg base N qual scope f cdv A outer s H E) body t ∧
        t { nx := fun _ H' => Q .non H', rt := Q } (start N vs) H) :
    GOk P w K mg base CX (k + 1) f
      (PySem.W.fnOf name qual params body scope dV kV doc pm an cdv ct) ps sp where
  len := len
  run := by
    intro A outer s H args us vs Q E hr hgd e0 hb r hsp
    have hl := len _ _ _ _ hsp
    have KX : K.In s.heap := e0.mod.kin.keeps fun b o e => (e0.bs b o e).1
    have lim := e0.mod.nolimit.keeps fun b o e => (e0.bs b o e).1
    refine codeAny_call_function hr.depth (KX _ _ lk) rfl S.co S.gen rfl
      (PySem.W.codeRec_of KX hcd) (hb _ _ _ _ ?_)
    refine wpAny_newFunctionEnv_cells S.kind (fun ⟨n, v⟩ hy => ?_) fun env he s1 x => ?_
    · rcases S.par n (List.of_mem_zip hy).1 with q | q
      · exact Or.inl q
      · exact Or.inr ⟨q, PySem.W.cellsFrom_some _ _ _ (Or.inl q)⟩
    subst he
    refine ⟨lim.keeps x.toInCall.keep, codeAny_func ?_⟩
    obtain ⟨t, ht, hq⟩ := hbody A outer s H vs Q E (hr.deeper _) hgd hsp
    have I := inv_start (CX := CX) (mg := mg) (base := base) (w := w) (E := E) S hr.hd e0 hl r x
    refine wpAny_mono (ht.run [] s1 (start N vs) H _ I hq) (fun fl s' hs => ?_) fun e s' hs => hs
    cases fl with
    | ret u =>
      obtain ⟨v, σ', H', J, rv, q⟩ := hs
      exact ⟨v, H', J.os, J.bare, J.base, J.hok, rv, q⟩
    | next =>
      obtain ⟨σ', H', J, q⟩ := hs
      exact ⟨V.non, H', J.os, J.bare, J.base, J.hok, rfl, q⟩
    | brk => exact hs.elim fun _ z => z.elim fun _ y => y.2.elim
    | cont => exact hs.elim fun _ z => z.elim fun _ y => y.2.elim

/-- the same by the text's own words -/
theorem gok_fun {P : Program} {w : World} {K : PySem.W.Frag} {mg : Str → Option Value} {base : Heap}
    {CX : CXT} {x qual : Str} {st : Stmt} {f : Addr} {fd : FuncData} {N ps : List Str} {k : Nat} {sp : Sp}
    (F : Fun K x qual st f fd) (S : FnScope N ps (defScope st))
    (len : ∀ vs H Q E, sp vs H Q E → vs.length = ps.length)
    (hbody : ∀ (cdv : Value) (A : Around) (outer : List Env) (s : Shared) (H : Hp) (vs : List V) (Q : VK) (E : XK),
      Room k (A.deeper (envOfC qual (defScope st) s.heap.objs.size f cdv)) →
      (A.deeper (envOfC qual (defScope st) s.heap.objs.size f cdv)).guards = some [] → sp vs H Q E →
      ∃ t, PSs (cxOf CX P w K mg base N qual (defScope st) f cdv A outer s H E).nox (defBody st) t ∧
        t { nx := fun _ H' => Q .non H', rt := Q } (start N vs) H) :
    GOk P w K mg base CX (k + 1) f fd ps sp := by
  obtain ⟨oc, od, kV, doc, pm, an, cdv, ct, osl, rfl, lk, hcd⟩ := F.ex
  refine gok_of lk hcd S len fun A outer s H vs Q E hr hg hsp => ?_
  obtain ⟨t, h, q⟩ := hbody cdv A outer s H vs Q E hr hg hsp
  exact ⟨t, PSs.nox h, q⟩

/-- what of a heap the law's call sees: the script alone -/
def seen (K : PySem.W.Frag) (a : Addr) (vs : List Value) (ns : List Int) : Hp := fun b =>
  match K.lookup a with
  | some _ => none
  | none => if b = a then some (.frz { cls := .type "list", data := .seq vs.toArray } (.lst (ns.map V.int))) else none

theorem law_go {P : Program} {w : World} {K : PySem.W.Frag} {mg mb : Str → Option Value} {k : Nat}
    {fa a : Addr} {fd : FuncData} {x : Str} {sp : Sp} {s₁ : Shared} {vs : List Value} {ns : List Int}
    (KX : K.In s₁.heap) (hns : s₁.heap.Ns mainGlobals mg) (hb : s₁.heap.Ns builtinsNs mb)
    (hbb : ∀ x : Str, x ≠ "__name__" → mb x = bootBuiltins x) (hlim : s₁.heap.NoLimit) (hg : s₁.gens = #[])
    (ha : s₁.heap.get? a = some { cls := .type "list", data := .seq vs.toArray }) (hi : IntsAre vs ns)
    (hl : ns.length ≤ sizeLine) (hr : Room k callerA)
    (F : ∀ base : Heap, K.In base → base.Ns mainGlobals mg → GOk P w K mg base CX0 k fa fd [x] sp)
    (hbind : ∀ (s : Shared) (u : Value), BindsTo s fd ⟨[u], []⟩ [(x, u)])
    (hsp : ∀ H : Hp, Only H → SqL K H a (ns.map V.int) → sp [.ref a] H (fun v _ => v = .bl true) fun _ _ _ => False) :
    codeAny (model P w) callerA (.call (.ref fa) ⟨[.ref a], []⟩)
      (fun r s' => r = .ok (.ret (.bool true)) ∧ OldK s₁.heap s'.heap ∧ s'.os = s₁.os ∧ AllBare s'.gens) s₁ := by
  have rv := vals_ints hi
  have lenV := hi.length
  have hA : ∀ b u, seen K a vs ns b = some u → b = a ∧ K.lookup a = none ∧
      u = .frz { cls := .type "list", data := .seq vs.toArray } (.lst (ns.map V.int)) := by
    intro b u e
    unfold seen at e
    cases q : K.lookup a with
    | some o =>
      rw [q] at e
      cases e
    | none =>
      rw [q] at e
      by_cases hb : b = a
      · have e2 := (if_pos hb).symm.trans e
        exact ⟨hb, rfl, (Option.some.inj e2).symm⟩
      · have e2 := (if_neg hb).symm.trans e
        cases e2
  have hO : Only (seen K a vs ns) := fun b => by
    cases q : seen K a vs ns b with
    | none => exact Or.inl rfl
    | some u =>
      obtain ⟨_, _, e⟩ := hA b u q
      exact Or.inr ⟨_, _, by rw [e]⟩
  have hS : SqL K (seen K a vs ns) a (ns.map V.int) := by
    cases q : K.lookup a with
    | some o =>
      have e := KX a o q
      rw [ha] at e
      cases e
      exact Or.inr ⟨_, vs.toArray, _, q, rfl, rfl, rfl, by rw [List.size_toArray, lenV]; exact hl, by simpa using rv⟩
    | none =>
      refine Or.inl (Or.inr ⟨{ cls := .type "list", data := .seq vs.toArray }, ?_⟩)
      unfold seen
      rw [q]
      exact if_pos rfl
  have hok : HOk P w (seen K a vs ns) s₁.heap := fun b u e => by
    obtain ⟨rfl, _, rfl⟩ := hA b u e
    exact ⟨ha, by rw [List.length_map]; exact hl, vs, _, rv, ha⟩
  have inH : ∀ {b : Addr} {o : Obj}, s₁.heap.get? b = some o → seen K a vs ns b = none →
      (hidT s₁.heap (seen K a vs ns)).get? b = some o := fun e n => hidT_get e n
  have noD : ∀ {b : Addr} {o : Obj} {es : Array DictEntry} {ep : Nat}, s₁.heap.get? b = some o →
      o.data = .dict es ep → seen K a vs ns b = none := by
    intro b o es ep e d
    cases q : seen K a vs ns b with
    | none => rfl
    | some u =>
      obtain ⟨rfl, _, _⟩ := hA b u q
      rw [ha] at e
      cases e
      cases (show Data.seq vs.toArray _ = Data.dict es ep from d)
  have nsH : ∀ {b : Addr} {m : Str → Option Value}, s₁.heap.Ns b m → (hidT s₁.heap (seen K a vs ns)).Ns b m := by
    intro b m ⟨o, es, ep, e, d, r⟩
    exact ⟨o, es, ep, inH e (noD e d), d, r⟩
  have kH : K.In (hidT s₁.heap (seen K a vs ns)) := by
    intro b o e
    refine inH (KX b o e) ?_
    cases q : seen K a vs ns b with
    | none => rfl
    | some u =>
      obtain ⟨rfl, z, _⟩ := hA b u q
      rw [z] at e
      cases e
  have limH : (hidT s₁.heap (seen K a vs ns)).NoLimit := by
    obtain ⟨mc, h1, h2⟩ := hlim
    exact ⟨mc, nsH h1, h2⟩
  have e0 : Env0 P w K mg (hidT s₁.heap (seen K a vs ns)) callerA [] s₁ (seen K a vs ns) := {
    frames := rfl
    mod := ⟨kH, nsH hns, ⟨mb, nsH hb, hbb⟩, limH⟩
    bs := fun b o e => of_hidT e
    bsz := Nat.le_of_eq (hidT_size _ _)
    funs := trivial
    frf := fun b hb => absurd (show b ∈ ([] : List Addr) from hb) (by simp)
    hok := hok
    bare := .of_eq hg }
  have run := (F _ kH (nsH hns)).run callerA [] s₁ (seen K a vs ns) ⟨[.ref a], []⟩ [.ref a] [.ref a]
    _ _ hr rfl e0 (hbind s₁ (.ref a)) (.cons rfl .nil) (hsp _ hO hS)
  refine codeAny_mono run fun r s' h => ?_
  cases r with
  | error e => exact False.elim h
  | ok fl =>
    cases fl with
    | next => exact False.elim h
    | brk => exact False.elim h
    | cont => exact False.elim h
    | ret u =>
      obtain ⟨v, H', os, bare, un, hok', r', q⟩ := h
      obtain rfl : v = V.bl true := q
      obtain rfl : u = Value.bool true := r'
      refine ⟨rfl, OldK.of_keep fun b o e => ?_, os, bare⟩
      cases q : seen K a vs ns b with
      | none => exact un.keep b o e q (fun z => nomatch z) (fun z => nomatch z)
      | some u =>
        obtain ⟨_, _, rfl⟩ := hA b u q
        obtain ⟨e1, _⟩ := hok b _ q
        obtain ⟨e2, _⟩ := hok' b _ (un.frzs b _ _ q)
        rw [e] at e1
        cases e1
        exact e2

/-- the goal that the head leaves, from the law's promise -/
theorem walk_go {l : PySem.W.OpenLaw} {n k : Nat} {q : Program} {loose : List Str}
    {XP : (Str → Option Value) → Heap → Prop} {YP : World → Heap → Prop} {d : DefRec}
    {K : Params → PySem.W.Frag} {sp : World → Sp} {x : Str} (hn : l.most = some n) (hn2 : n ≤ sizeLine)
    (hdf : d.params.defaults = []) (hr : Room k callerA)
    (hY : ∀ (w : World) (h : Heap), YP w h → (K w.params).In h)
    (F : ∀ (w : World) (mg : Str → Option Value) (fa : Addr) (h : Heap), (K w.params).In h →
      h.Ns mainGlobals mg → mg d.name = some (.ref fa) →
      ∃ fd : FuncData, (∀ (s : Shared) (u : Value), BindsTo s fd ⟨[u], []⟩ [(x, u)]) ∧
        ∀ base : Heap, (K w.params).In base → base.Ns mainGlobals mg →
          GOk l.prog w (K w.params) mg base CX0 k fa fd [x] (sp w))
    (hsp : ∀ (w : World) (H : Hp) (a : Addr) (ns : List Int), ns.length ≤ n → Only H →
      SqL (K w.params) H a (ns.map V.int) → sp w [.ref a] H (fun v _ => v = .bl true) fun _ _ _ => False) :
    PySem.W.WalkO q loose XP YP l.row.toRowW d [] (fun f vs => PySem.call f vs) := by
  refine Att.attach_call hn hdf ?_
  intro w s₀ s₁ mg mb fa o pm cd doc a vs ns G Y ho hd hcd hmg hobj hints hlen hg
  have KX := hY w _ Y
  obtain ⟨fd, hb, hF⟩ := F w mg fa _ KX G.T.g hmg
  exact law_go KX G.T.g G.T.b G.T.builtins G.T.nolimit hg hobj hints (Nat.le_trans hlen hn2) hr hF hb
    fun H hO hS => hsp w H a ns hlen hO hS
/-- what a law promises: True, whatever the script -/
def spLaw (K : PySem.W.Frag) : Sp := fun vs H Q _ => ∃ (s : Addr) (ns : List Int), vs = [.ref s] ∧
  SqL K H s (ns.map V.int) ∧ ns.length ≤ 63 ∧ ∀ H', Q (.bl true) H'
/-- the goal that the head leaves, from such a def -/
theorem walk_law {l : PySem.W.OpenLaw} {k : Nat} {q : Program} {loose : List Str}
    {XP : (Str → Option Value) → Heap → Prop} {YP : World → Heap → Prop} {d : DefRec}
    {K : Params → PySem.W.Frag} (hn : l.most = some 63) (hdf : d.params.defaults = []) (hr : Room k callerA)
    (hY : ∀ (w : World) (h : Heap), YP w h → (K w.params).In h)
    (F : ∀ (w : World) (mg : Str → Option Value) (fa : Addr) (h : Heap), (K w.params).In h →
      h.Ns mainGlobals mg → mg d.name = some (.ref fa) →
      ∃ fd : FuncData, (∀ (s : Shared) (u : Value), BindsTo s fd ⟨[u], []⟩ [("script", u)]) ∧
        ∀ base : Heap, (K w.params).In base → base.Ns mainGlobals mg →
          GOk l.prog w (K w.params) mg base CX0 k fa fd ["script"] (spLaw (K w.params))) :
    PySem.W.WalkO q loose XP YP l.row.toRowW d [] (fun f vs => PySem.call f vs) :=
  walk_go (n := 63) (k := k) (x := "script") (sp := fun w => spLaw (K w.params)) hn (by decide) hdf hr hY F
    fun w H a ns hl _ hS => ⟨a, ns, rfl, hS, hl, fun _ => rfl⟩
/-- how the law's one argument binds -/
theorem bind_script {K : PySem.W.Frag} {x qual : Str} {st : Stmt} {f : Addr} {fd : FuncData} (F : Fun K x qual st f fd)
    (h : ∀ (kV doc pm : Value) (an : Option Addr) (cdv ct u : Value),
      bindArgs (PySem.W.fnOf x qual (defArgs st) (defBody st) (defScope st) .none kV doc pm an cdv ct) ⟨[u], []⟩ = pure [((Str.ofString "script"), u)])
    (s : Shared) (u : Value) : BindsTo s fd ⟨[u], []⟩ [(Str.ofString "script", u)] := by
  obtain ⟨oc, od, kV, doc, pm, an, cdv, ct, osl, rfl, _, _⟩ := F.ex
  exact .of_eq (h kV doc pm an cdv ct u)
end Ask

set_option Elab.async false
set_option linter.all false
set_option maxRecDepth 100000
set_option maxHeartbeats 2000000
/-! static methods of a class; own == with both answers, != by it -/
namespace Ask
open PySem L2
open PyProof.Rows

/-! ### C.m(e, ..), m a staticmethod -/
structure SMet (K : PySem.W.Frag) (C : Addr) (mc : Value) (m : Str) (p g : Addr) : Prop where
  at_ : PySem.W.findCls K (.ref C) mc m = some (.get (.builtin "staticmethod.__get__") (.ref p) .none (.ref C))
  rc : ∃ rest, PySem.W.recIn K p "staticmethod" = some (.ref g :: rest)
  kp : PySem.W.keepIn K (.ref g) = true
def tSMeth (C : Addr) (sp : Sp) (E : XK) (ta : TE) (t : TA) : TE := fun σ H Q =>
  ta σ H fun x H1 => x = .ref C ∧ t σ H1 fun vs H2 => sp vs H2 Q E
section
variable {X : Cx} {CX : CXT} {k : Nat} {C p g : Addr} {mc : Value} {sp : Sp} {E : XK} {o e : Expr}
  {es : List Expr} {m : Str} {pos apos : Pos} {ta : TE} {t : TA} {pl : Sem Bool} {fd : FuncData} {ps : List Str}
theorem pe_smeth (he : PE X o ta) (r : ClX.CRead X.K C mc) (c : SMet X.K C mc m p g)
    (F : FnOk X.prog X.w X.K X.mg X.base CX k g fd ps sp) (hr : Room k X.A) (hb : Binds X.K fd ps [])
    (hx : Passes CX X E) (ha : PA X (e :: es) t)
    (hst : starEach (e :: es) X.env = (false, eval e X.env) :: starEach es X.env := by rfl)
    (hpl : (backTo pos (starEach es X.env)).any (·.1) = false := by rfl)
    (ht : eval (.Call (.Attribute o m apos) (e :: es) [] pos) X.env = (do
      let ov ← eval o X.env; standAt apos.atName
      let (f, first) ← holding [ov] (getMethod ov m pl)
      callWith pos f first (backTo pos (starEach (e :: es) X.env)) (backToKw pos (keywordEach [] X.env))) := by rfl) :
    PE X (.Call (.Attribute o m apos) (e :: es) [] pos) (tSMeth C sp E ta t) := by
  refine ⟨fun pins s σ H Q I h => ?_⟩
  refine PySem.W.methodCall_KW (pl := pl) (thn (he.run pins s σ H _ I h) ?_) ht
  rintro u s1 ⟨x, H1, I1, rx, ex, q⟩
  subst ex
  obtain rfl : u = Value.ref C := rx
  obtain ⟨rest, hp⟩ := c.rc
  refine PySem.W.method_cls I1.kIn r.ga (PySem.W.cls_bind I1.kIn r.rd c.at_ ?_)
  have I2 := I1.tok (s1.toks + 1)
  refine wpAny_call (PySem.W.sm_get (s := { s1 with toks := s1.toks + 1 }) I2.kIn hp (PySem.W.handed_on rfl ?_))
  refine PySem.W.callWith_K (h₀ := X.base) I2.ok.mod.kin c.kp (thn (ha.run pos pins _ σ H1 _ I2 q) ?_) hst hpl
  rintro us s2 ⟨vs, H2, I3, rv, q2⟩
  refine ⟨I3.kIn, ?_⟩
  exact run_fn (us := us) F hr hb .nil hx I3 rv (by rw [List.append_nil]; exact q2)
end

/-! ### own == and != -/
/-- the class at C (of object alone) has its own __eq__, the def at f, and no own __ne__ -/
structure EqCls (K : PySem.W.Frag) (C f : Addr) : Prop where
  cls : ∃ (nm q : Str) (N : Addr) (bs : List Value) (hdct : Bool) (sn : List Str) (sub : List Value) (ab : Bool)
    (col : Option Bool) (dd : Option Addr) (k0 k1 k2 k3 k5 : Option Value) (newId : String),
    K.lookup C = some (excClassObj nm q C N bs [.type "object"] hdct sn sub ab col dd k0 k1 k2 k3 k5 newId) ∧
    PySem.W.nsOkIn K N = true ∧ PySem.W.nsIn K N "__eq__" = some (some (.ref f)) ∧ PySem.W.nsIn K N "__ne__" = some none
  at_ : PySem.W.findIn K (.ref C) "__eq__" = some (some (.ref f))
  fn : PySem.W.isFn K (.ref f) = true

/-- kinds of the right side: what == asks of its type -/
def Kind (K : PySem.W.Frag) (C : Addr) (x : V) (H : Hp) : Prop :=
  (x = .non ∧ PySem.W.notFirst K C (.type "NoneType") = true) ∨ (∃ b, x = .bl b ∧ PySem.W.notFirst K C (.type "bool") = true) ∨
  (∃ i, x = .int i ∧ PySem.W.notFirst K C (.type "int") = true) ∨ (∃ t, x = .str t ∧ PySem.W.notFirst K C (.type "str") = true) ∨
  (∃ a xs, x = .ref a ∧ H a = some (.lst xs) ∧ PySem.W.notFirst K C (.type "list") = true) ∨
  (∃ a xs, x = .ref a ∧ H a = some (.tup xs) ∧ PySem.W.notFirst K C (.type "tuple") = true) ∨
  (∃ a xs, x = .ref a ∧ H a = some (.dK xs) ∧ PySem.W.notFirst K C (.type "dict") = true) ∨
  (∃ a D dx fs, x = .ref a ∧ H a = some (.ins D dx fs) ∧ PySem.W.notFirst K C (.ref D) = true)
section
variable {X : Cx} {pins : List (Addr × Obj)} {σ : L2.St} {H : Hp} {s : Shared} {C : Addr}
theorem looks_kind {x : V} {u : Value} (I : Inv X pins σ H s) (rx : RelV x u) (k : Kind X.K C x H) :
    ∃ tb, (∀ M, PySem.W.Looks M s.heap (typeOf u) tb) ∧ PySem.W.notFirst X.K C tb = true := by
  have of_obj : ∀ {a : Addr} {o : Obj}, s.heap.get? a = some o → ∀ M, PySem.W.Looks M s.heap (typeOf (.ref a)) o.cls := by
    intro a o e M
    exact (PySem.W.Looks.ld e).andThen .now
  rcases k with ⟨rfl, n⟩ | ⟨b, rfl, n⟩ | ⟨i, rfl, n⟩ | ⟨t, rfl, n⟩ | ⟨a, xs, rfl, e, n⟩ | ⟨a, xs, rfl, e, n⟩ | ⟨a, xs, rfl, e, n⟩ | ⟨a, D, dx, fs, rfl, e, n⟩
  · cases rx
    exact ⟨_, fun M => PySem.W.Looks.of_pure rfl, n⟩
  · cases rx
    exact ⟨_, fun M => PySem.W.Looks.of_pure rfl, n⟩
  · obtain ⟨t, rfl⟩ := rx
    exact ⟨_, fun M => PySem.W.Looks.of_pure rfl, n⟩
  · obtain ⟨t', rfl⟩ := rx
    exact ⟨_, fun M => PySem.W.Looks.of_pure rfl, n⟩
  · cases rx
    obtain ⟨_, its, m, _, e1⟩ := I.hok a _ e
    exact ⟨_, of_obj e1, n⟩
  · cases rx
    obtain ⟨_, its, _, ob, e1, c, _⟩ := I.hok a _ e
    have z := of_obj e1
    rw [c] at z
    exact ⟨_, z, n⟩
  · cases rx
    obtain ⟨_, _, vs, _, ob, es, ep, e1, c, _⟩ := I.hok a _ e
    have z := of_obj e1
    rw [c.1] at z
    exact ⟨_, z, n⟩
  · cases rx
    obtain ⟨mA, J, _⟩ := ins_get I.hok e
    obtain ⟨od, J, _⟩ := J.look
    exact ⟨_, fun M => J.type, n⟩

/-- x == y, x an instance of the class at C -/
def rEqO (C : Addr) (sp : Sp) (K : PySem.W.Frag) : R2 := fun x y H Q => ∃ a dx fs, x = .ref a ∧ H a = some (.ins C dx fs) ∧ Kind K C y H ∧
  sp [x, y] H (fun v H' => ∃ b, v = .bl b ∧ Q (.bl b) H') E0
def rNeO (C : Addr) (sp : Sp) : R2 := fun x y H Q => ∃ a b dx dy fs gs, x = .ref a ∧ y = .ref b ∧ H a = some (.ins C dx fs) ∧
  H b = some (.ins C dy gs) ∧ sp [x, y] H (fun v H' => ∃ b, v = .bl b ∧ Q (.bl (!b)) H') E0
variable {k : Nat} {f : Addr} {fd : FuncData} {ps : List Str} {sp : Sp}
/-- the call of the own __eq__ -/
theorem run_eq (F : FnOk X.prog X.w X.K X.mg X.base CX0 k f fd ps sp) {A : Around} (hr : Room k A) (hf : A.frames = X.A.frames)
    (hb : Binds X.K fd ps []) (I : Inv X pins σ H s) {x y : V} {u v : Value} (rx : RelV x u) (ry : RelV y v) {Q : VK} {E : Value → Shared → Prop}
    (h : sp [x, y] H Q E0) : wpAny (model X.prog X.w) A (call (.ref f) [u, v]) (EP X pins σ Q) E s := by
  have e0 : Env0 X.prog X.w X.K X.mg X.base A X.stack s H := by
    have e := I.env0
    exact ⟨hf.trans e.frames, e.mod, e.bs, e.bsz, e.funs, e.frf, e.hok, e.bare⟩
  have hl := F.len _ _ _ _ h
  have hbd := hb s [u, v] I.kIn hl
  refine wpAny_call (codeAny_mono (F.run A X.stack s H ⟨[u, v], []⟩ [u, v] [x, y] _ E0 hr e0 hbd (.cons rx (.cons ry .nil)) h) ?_)
  intro r s' hq
  cases r with
  | error e => exact hq.elim
  | ok fl =>
    cases fl with
    | ret w => exact I.after hq
    | next => exact False.elim hq
    | brk => exact False.elim hq
    | cont => exact False.elim hq
theorem op_eqO (F : FnOk X.prog X.w X.K X.mg X.base CX0 k f fd ps sp) (hr : Room k X.A) (c : EqCls X.K C f) (hb : Binds X.K fd ps []) :
    OpR X (compareOp .Eq) (rEqO C sp X.K) := by
  intro pins s σ H x y v u Q I rx ry hq
  obtain ⟨a, dx, fs, rfl, ha, hk, h⟩ := hq
  cases rx
  obtain ⟨tb, ht, hn⟩ := looks_kind I ry hk
  obtain ⟨mA, J, _⟩ := ins_get I.hok ha
  obtain ⟨od, J, _⟩ := J.look
  obtain ⟨m, hF⟩ := I.fr
  show wpAny (model X.prog X.w) X.A (richCompare .Eq (.ref a) u) (EP X pins σ Q) X.xe s
  refine PySem.W.cmp_K (op := .Eq) hr.units0 hF I.ok.mod.kin J (ht _) hn c.at_ c.fn ?_
  refine thn (run_eq F hr rfl hb I (x := .ref a) rfl ry h) ?_
  rintro w s' ⟨z, H', I', rz, b, ez, q⟩
  subst ez
  cases rz
  exact ⟨.bl b, H', I', rfl, q⟩
theorem op_neO (F : FnOk X.prog X.w X.K X.mg X.base CX0 k f fd ps sp) (hr : Room (k + 1) X.A) (c : EqCls X.K C f) (hb : Binds X.K fd ps []) :
    OpR X (compareOp .NotEq) (rNeO C sp) := by
  intro pins s σ H x y v u Q I rx ry hq
  obtain ⟨a, b, dx, dy, fs, gs, rfl, rfl, ha, hb', h⟩ := hq
  cases rx
  cases ry
  obtain ⟨nm, q, N, bs, hdct, sn, sub, ab, col, dd, k0, k1, k2, k3, k5, newId, hC, hN, he, hne⟩ := c.cls
  have KX := I.kIn
  obtain ⟨_, _, _, oa, _⟩ := I.hok a _ ha
  obtain ⟨_, _, _, ob, _⟩ := I.hok b _ hb'
  have hns : s.heap.Ns N (s.heap.nsMap N) := .of_isNs (PySem.W.isNs_of_in KX hN)
  have me : s.heap.nsMap N "__eq__" = some (.ref f) := by
    obtain ⟨o, es, ep, ho, hd, _, hf⟩ := hns
    have z := he
    unfold PySem.W.nsIn at z
    split at z
    · rename_i c' d' es' n' sl' q'
      have w := KX _ _ q'
      rw [ho] at w
      cases w
      cases hd
      split at z
      · rename_i e' he'
        rw [← hf]
        unfold nsFind findBy
        rw [← Array.find?_toList, he']
        exact (Option.some.inj z)
      · split at z <;> cases z
    · cases z
  have mn : s.heap.nsMap N "__ne__" = none := PySem.W.nsMap_none_of_in KX hN hne
  have hfo : ∃ of, s.heap.get? f = some of ∧ of.cls = .type "function" := by
    have z : (X.K.lookup f).map (·.cls) = some (Value.type "function") := beq_iff_eq.mp c.fn
    cases q : X.K.lookup f with
    | none =>
      rw [q] at z
      cases z
    | some o =>
      rw [q] at z
      exact ⟨o, KX _ _ q, Option.some.inj z⟩
  obtain ⟨of, hof, hoc⟩ := hfo
  have OE : s.heap.OwnEqNoNe a C f "object" [.type "object"] :=
    ⟨_, of, nm, q, N, bs, hdct, sn, sub, ab, col, dd, k0, k1, k2, k3, k5, newId, _, _, oa, rfl, KX _ _ hC, hns, me, hof, hoc, PySem.F.cmp_object.mro, PySem.F.cmp_object.eq.lookup, mn⟩
  obtain ⟨hh, g, d, t, os⟩ := s
  refine compareOp_ne_ownEq PySem.F.cmp_object OE ob rfl (by have := hr.un; omega) ?_
  refine wpAny_mono (run_eq F hr.in1 rfl hb I (x := .ref a) (y := .ref b) rfl rfl h) ?_ (fun _ _ e => e)
  rintro w s' ⟨z, H', I', rz, c', ez, q'⟩
  subst ez
  cases rz
  exact ⟨c', rfl, .bl _, H', I', rfl, q'⟩
end
end Ask

set_option Elab.async false
set_option linter.all false
set_option maxRecDepth 100000
set_option maxHeartbeats 2000000
/-! what the written part holds of a def, a method, a class -/
namespace Ask
open PySem L2
open PyProof.Rows
def kinds : List String := ["NoneType", "bool", "int", "str", "list", "tuple", "dict"]
/-- what isinstance asks of the class of an instance, and of other kinds beside it -/
structure InsTy (K : PySem.W.Frag) (C : Addr) : Prop where
  ha : PySem.W.findIn K (.ref C) "__class__" = some (some (.builtin "object.__class__"))
  hn : PySem.W.specialIn K (.builtin "object.__class__") "__get__" = some (some (.builtin "getset_descriptor.__get__"))
  ht : PySem.W.takesIn K (.builtin "object.__class__") = some true
  hm : PySem.W.mroIn K C (.type "object") = some true
  kt : ∀ t ∈ kinds, PySem.W.kitOne K (.type t) (.ref C) = some false
theorem InsTy.of {K : PySem.W.Frag} {C a dx : Addr} {fs : List (Str × V)} {H : Hp} (i : InsTy K C) (c : Cls K C) (e : H a = some (.ins C dx fs)) :
    TyX K H (.ref a) (.ref C) := .base (.ins e c i.ha i.hn i.ht i.hm)
theorem pe_gi {X : Cx} {x : Str} {pos : Pos} {v : V} (hg : Gl X x) (h : ∃ u, X.mg x = some u ∧ RelV v u)
    (hd : (x == ("__debug__" : Str)) = false := by decide) : PE X (.Name x pos) (tC v) := by
  obtain ⟨u, hm, r⟩ := h
  exact pe_glob hg hm r hd
theorem nsOk_of {K : PySem.W.Frag} {N : Addr} {oc : Value} {od : Option Addr} {es : Array DictEntry} {n : Nat} {sl : Array (Option Value)}
    (l : K.lookup N = some ⟨oc, od, .dict es n, sl⟩) (r : (es.toList.all fun e => match e.key with | .str _ _ => true | _ => false) = true) : PySem.W.nsOkIn K N = true := by
  unfold PySem.W.nsOkIn
  rw [l]
  rw [Array.all_toList] at r
  exact r
theorem kit_not {K : PySem.W.Frag} {C : Addr} {t : String} (i : PySem.W.isClsIn K C = true) (ty : PySem.W.typeIn K (.ref C) = some (.type "type"))
    (s : PySem.W.subIn K (.type t) (.ref C) = some false) : PySem.W.kitOne K (.type t) (.ref C) = some false := by
  have i' : (PySem.W.clsIn K C).isSome = true := i
  unfold PySem.W.kitOne
  rw [if_neg (by simp)]
  show (if ((PySem.W.clsIn K C).isSome && PySem.W.typeIn K (.ref C) == some (.type "type")) = true then _ else _) = _
  rw [i', ty]
  exact s
theorem kit_self {K : PySem.W.Frag} {C : Addr} : PySem.W.kitOne K (.ref C) (.ref C) = some true := by
  unfold PySem.W.kitOne
  rw [if_pos (by simp)]
section
variable {K : PySem.W.Frag} {h : Heap} {mg : Str → Option Value} {x qual : Str} {st : Stmt} {f p C : Addr}
  {oc kV doc pm cdv ct mc : Value} {od an : Option Addr} {osl : Array (Option Value)} {rest : List Value}
/-- the def st, with no positional defaults, as the object of K -/
def DefAt (K : PySem.W.Frag) (x qual : Str) (st : Stmt) (f : Addr) (oc : Value) (od : Option Addr) (kV doc pm : Value)
    (an : Option Addr) (cdv ct : Value) (osl : Array (Option Value)) : Prop :=
  K.lookup f = some ⟨oc, od, .func (PySem.W.fnOf x qual (defArgs st) (defBody st) (defScope st) .none kV doc pm an cdv ct), osl⟩
theorem fun_get (X : K.In h) (G : h.Ns mainGlobals mg) (a : PySem.W.nsIn K mainGlobals x = some (some (.ref f)))
    (l : K.lookup f = some ⟨oc, od, .func (PySem.W.fnOf x qual (defArgs st) (defBody st) (defScope st) .none kV doc pm an cdv ct), osl⟩)
    (c : PySem.W.codeIn K cdv qual = true) (k : PySem.W.keepIn K (.ref f) = true) :
    ∃ f fd, Fun K x qual st f fd ∧ mg x = some (.ref f) := ⟨f, _, fun_mk l c k, PySem.W.mg_of X G a⟩
theorem meth_get (X : K.In h) (a : PySem.W.findIn K (.ref C) x = some (some (.ref f))) (i : PySem.W.isFn K (.ref f) = true)
    (l : K.lookup f = some ⟨oc, od, .func (PySem.W.fnOf x qual (defArgs st) (defBody st) (defScope st) .none kV doc pm an cdv ct), osl⟩)
    (c : PySem.W.codeIn K cdv qual = true) (k : PySem.W.keepIn K (.ref f) = true) :
    ∃ f fd, Fun K x qual st f fd ∧ Meth K C x f := ⟨f, _, fun_mk l c k, ⟨a, i, k⟩⟩
theorem prop_get (X : K.In h) (a : PySem.W.findIn K (.ref C) x = some (some (.ref p)))
    (g : PySem.W.specialIn K (.ref p) "__get__" = some (some (.builtin "property.__get__"))) (t : PySem.W.takesIn K (.ref p) = some true)
    (r : PySem.W.recIn K p "property" = some (.ref f :: rest))
    (l : K.lookup f = some ⟨oc, od, .func (PySem.W.fnOf x qual (defArgs st) (defBody st) (defScope st) .none kV doc pm an cdv ct), osl⟩)
    (c : PySem.W.codeIn K cdv qual = true) (k : PySem.W.keepIn K (.ref f) = true) :
    ∃ f fd p, Fun K x qual st f fd ∧ PropOf K C x p f := ⟨f, _, p, fun_mk l c k, ⟨a, g, t, rest, r⟩⟩
theorem stat_get (X : K.In h) (a : PySem.W.findCls K (.ref C) mc x = some (.get (.builtin "staticmethod.__get__") (.ref p) .none (.ref C)))
    (r : PySem.W.recIn K p "staticmethod" = some (.ref f :: rest))
    (l : K.lookup f = some ⟨oc, od, .func (PySem.W.fnOf x qual (defArgs st) (defBody st) (defScope st) .none kV doc pm an cdv ct), osl⟩)
    (c : PySem.W.codeIn K cdv qual = true) (k : PySem.W.keepIn K (.ref f) = true) :
    ∃ f fd p, Fun K x qual st f fd ∧ SMet K C mc x p f := ⟨f, _, p, fun_mk l c k, ⟨a, ⟨rest, r⟩, k⟩⟩
/-- __init__ with one keyword-only parameter of a default that is an int -/
theorem init_get {D : Addr} {y : Str} {i : Int} {t : Tok} (X : K.In h) (mk : PySem.W.makesIn K C = true) (kc : PySem.W.keepIn K (.ref C) = true)
    (a : PySem.W.findIn K (.ref C) "__init__" = some (some (.ref f))) (i1 : PySem.W.isFn K (.ref f) = true)
    (l : K.lookup f = some ⟨oc, od, .func (PySem.W.fnOf "__init__" qual (defArgs st) (defBody st) (defScope st) .none (.ref D) doc pm an cdv ct), osl⟩)
    (c : PySem.W.codeIn K cdv qual = true) (k : PySem.W.keepIn K (.ref f) = true)
    (q : PySem.W.nsIn K D y = some (some (.int i t))) :
    ∃ f fd, FunD K "__init__" qual (defArgs st) (defBody st) (defScope st) [] [(y, V.int i)] f fd ∧ Mk K C f := by
  refine ⟨f, _, ⟨⟨oc, od, .none, .ref D, doc, pm, an, cdv, ct, osl, rfl, l, c, .inl ⟨rfl, rfl⟩, .inr ⟨D, rfl, ?_⟩⟩, k⟩, ⟨mk, a, i1, kc⟩⟩
  intro z hz
  obtain rfl := List.mem_singleton.mp hz
  exact ⟨_, q, t, rfl⟩
theorem init_get0 (X : K.In h) (mk : PySem.W.makesIn K C = true) (kc : PySem.W.keepIn K (.ref C) = true)
    (a : PySem.W.findIn K (.ref C) "__init__" = some (some (.ref f))) (i1 : PySem.W.isFn K (.ref f) = true)
    (l : K.lookup f = some ⟨oc, od, .func (PySem.W.fnOf "__init__" qual (defArgs st) (defBody st) (defScope st) .none kV doc pm an cdv ct), osl⟩)
    (c : PySem.W.codeIn K cdv qual = true) (k : PySem.W.keepIn K (.ref f) = true) :
    ∃ f fd, Fun K "__init__" qual st f fd ∧ Mk K C f := ⟨f, _, fun_mk l c k, ⟨mk, a, i1, kc⟩⟩
theorem cls_get (X : K.In h) (G : h.Ns mainGlobals mg) (a : PySem.W.nsIn K mainGlobals x = some (some (.ref C)))
    (pg : PySem.W.plainGet K C Str.empty = true) (hd : PySem.W.hasDictIn K C = true) (po : PySem.W.plainOver K C = true)
    (sa : PySem.W.findIn K (.ref C) "__setattr__" = some (some (.builtin "object.__setattr__")))
    (rd : PySem.W.readsIn K C (.type "type") = true) (ga : PySem.W.specialIn K (.ref C) "__getattribute__" = some (some (.builtin "type.__getattribute__"))) :
    ∃ C, mg x = some (.ref C) ∧ Cls K C ∧ ClX.CRead K C (.type "type") ∧ PySem.W.nsIn K mainGlobals x = some (some (.ref C)) :=
  ⟨C, PySem.W.mg_of X G a, ⟨pg, hd, po, sa⟩, ⟨rd, ga⟩, a⟩
theorem eq_get {nm q : Str} {N : Addr} {bs : List Value} {hdct : Bool} {sn : List Str} {sub : List Value} {ab : Bool}
    {col : Option Bool} {dd : Option Addr} {k0 k1 k2 k3 k5 : Option Value} {newId : String}
    (l : K.lookup C = some (excClassObj nm q C N bs [.type "object"] hdct sn sub ab col dd k0 k1 k2 k3 k5 newId))
    (n : PySem.W.nsOkIn K N = true) (e : PySem.W.nsIn K N "__eq__" = some (some (.ref f))) (ne : PySem.W.nsIn K N "__ne__" = some none)
    (a : PySem.W.findIn K (.ref C) "__eq__" = some (some (.ref f))) (i : PySem.W.isFn K (.ref f) = true) : EqCls K C f :=
  ⟨⟨nm, q, N, bs, hdct, sn, sub, ab, col, dd, k0, k1, k2, k3, k5, newId, l, n, e, ne⟩, a, i⟩
theorem glob_get {v : V} {u : Value} (X : K.In h) (G : h.Ns mainGlobals mg) (a : PySem.W.nsIn K mainGlobals x = some (some u)) (r : RelV v u) :
    ∃ u, mg x = some u ∧ RelV v u := ⟨u, PySem.W.mg_of X G a, r⟩
/-- the globals that are not bound: built-in names -/
theorem blt_get (X : K.In h) (G : h.Ns mainGlobals mg) (a : PySem.W.nsIn K mainGlobals x = some none) : mg x = none := PySem.W.mg_none_of X G a
end
end Ask

set_option Elab.async false
set_option linter.all false
set_option maxRecDepth 100000
set_option maxHeartbeats 2000000
/-! the pen of a law: its promises; ints as data -/
namespace Ask
open PySem L2
open PyProof.Rows
/-! ### the pen: a list of a list of ints, a place and what is left of the last cell -/
/-- at p stands a pen over the list at l, that has been at i places -/
def Pen (H : Hp) (p : Addr) (n : Nat) : Prop :=
  ∃ (l : Addr) (i v : Int) (ns : List Int), H p = some (.lst [.ref l, .int i, .int v]) ∧
    H l = some (.lst (ns.map V.int)) ∧ 0 ≤ i ∧ i ≤ (n : Int) ∧ 0 ≤ v ∧ ns.length ≤ 100000

/-- all but what stands at p is as it was -/
def But (p : Addr) (H H' : Hp) : Prop := ∀ b o, b ≠ p → H b = some o → H' b = some o
theorem But.refl (p : Addr) (H : Hp) : But p H H := fun _ _ _ e => e
theorem But.trans {p : Addr} {H H1 H2 : Hp} (a : But p H H1) (b : But p H1 H2) : But p H H2 :=
  fun c o h e => b c o h (a c o h e)
theorem But.upd {p : Addr} {H : Hp} {o : HO} : But p H (upd H p o) := fun b u h e => by
  rw [upd_ne h]
  exact e
theorem But.new {p q : Addr} {H : Hp} {o : HO} (h : H q = none) : But p H (L2.upd H q o) := fun b u _ e => by
  rw [upd_ne (ne_of_none e h)]
  exact e
theorem But.seq {K : PySem.W.Frag} {p a : Addr} {H H' : Hp} {xs : List V} (e : But p H H') (hp : a ≠ p)
    (h : SqL K H a xs) : SqL K H' a xs := by
  rcases h with (h | ⟨o, h⟩) | h
  · exact .inl (.inl (e _ _ hp h))
  · exact .inl (.inr ⟨o, e _ _ hp h⟩)
  · exact .inr h

/-- _law_pen(script) -/
def spPen (K : PySem.W.Frag) : Sp := fun vs H Q _ => ∃ (a : Addr) (ns : List Int), vs = [.ref a] ∧
  SqL K H a (ns.map V.int) ∧ ns.length ≤ 63 ∧ ∀ p H', H p = none → But p H H' → Pen H' p 0 → Q (.ref p) H'
/-- _law_next(pen) -/
def spNext : Sp := fun vs H Q _ => ∃ (p : Addr) (n : Nat) (l : Addr) (i v : Int) (ns : List Int), vs = [.ref p] ∧
  H p = some (.lst [.ref l, .int i, .int v]) ∧ H l = some (.lst (ns.map V.int)) ∧ 0 ≤ i ∧ i ≤ (n : Int) ∧ n ≤ 1000000 ∧ ns.length ≤ 100000 ∧
  ∀ z : Int, 0 ≤ z → ∀ H', But p H H' → H' p = some (.lst [.ref l, .int (i + 1), .int v]) → Q (.int z) H'
/-- _law_draw(pen, below) -/
def spDraw : Sp := fun vs H Q _ => ∃ (p : Addr) (n : Nat) (b : Int), vs = [.ref p, .int b] ∧ Pen H p n ∧ n ≤ 1000000 ∧
  0 < b ∧ b < 2 ^ 200 ∧ ∀ (z : Int) H', 0 ≤ z → z < b → But p H H' → Pen H' p (n + 1) → Q (.int z) H'

theorem cut_ints (ns : List Int) (k : Nat) : cutV (ns.map V.int) none (some (k : Int)) = (ns.take k).map V.int := by
  unfold cutV
  rw [HT.sIx_none, HT.sIx_nat, List.drop_zero, List.length_map, Nat.sub_zero, ← List.map_take]
  congr 1
  by_cases h : k ≤ ns.length
  · rw [Nat.min_eq_left h]
  · rw [Nat.min_eq_right (by omega), List.take_of_length_le (Nat.le_refl _), List.take_of_length_le (by omega)]
theorem But.of {p q : Addr} {H H' : Hp} {o : HO} (h : But p H H') (n : H q = none) : But p H (L2.upd H' q o) := fun b u hb e => by
  rw [upd_ne (ne_of_none e n)]
  exact h b u hb e
theorem But.same {p : Addr} {H H' : Hp} (h : But p H H') (n : H p = none) : Same H H' := fun b u e => h b u (ne_of_none e n) e
theorem Same.new {q : Addr} {H : Hp} {o : HO} (h : H q = none) : Same H (L2.upd H q o) := fun b u e => by
  rw [upd_ne (ne_of_none e h)]
  exact e
theorem Same.of {q : Addr} {H H' : Hp} {o : HO} (h : Same H H') (n : H q = none) : Same H (L2.upd H' q o) := fun b u e => by
  rw [upd_ne (ne_of_none e n)]
  exact h b u e
theorem Same.grow {q : Addr} {H H' : Hp} {o : HO} (h : Same H H') (n : H' q = none) : Same H (L2.upd H' q o) := Same.of h (h.free n)
theorem Same.but {p : Addr} {H H' : Hp} (h : Same H H') : But p H H' := fun b u _ e => h b u e
theorem dp_ints {K : PySem.W.Frag} {H : Hp} : ∀ ns : List Int, DpAll K H (ns.map V.int) (ns.map PyData.int)
  | [] => .nil
  | n :: ns => .cons (.int n) (dp_ints ns)
theorem lay_ints : ∀ ns : List Int, PyData.canLayAll0 (ns.map PyData.int) = true
  | [] => rfl
  | n :: ns => by
    rw [List.map_cons]
    unfold PyData.canLayAll0
    rw [lay_ints ns]
    rfl
theorem dep_ints : ∀ ns : List Int, PyData.depthAll (ns.map PyData.int) ≤ 1
  | [] => by decide
  | n :: ns => by
    have := dep_ints ns
    rw [List.map_cons]
    unfold PyData.depthAll
    unfold PyData.depth
    omega
theorem shaped_ints (ns : List Int) : SeqAt.shaped (.list (ns.map PyData.int)) = true := by
  unfold SeqAt.shaped
  unfold PyData.canLay0
  rw [lay_ints]
  have := dep_ints ns
  unfold PyData.depth
  rw [decide_eq_true (by omega)]
  rfl
theorem ne_nil (ns : List Int) : (!PyData.eqv (.list (ns.map PyData.int)) (.list [])) = !ns.isEmpty := by
  cases ns with
  | nil => rfl
  | cons n ns => rfl
theorem ints_at {ns : List Int} {j : Nat} (h : j < ns.length) : ∃ c, (ns.map V.int)[j]? = some (.int c) :=
  ⟨ns[j], by rw [List.getElem?_map, List.getElem?_eq_getElem h]; rfl⟩
theorem mod_below (i : Int) {n : Nat} (hn : 0 < n) : ∃ j : Nat, i % (n : Int) = (j : Int) ∧ j < n := by
  have h1 := Int.emod_nonneg i (show (n : Int) ≠ 0 by omega)
  have h2 := Int.emod_lt_of_pos i (show (0 : Int) < (n : Int) by omega)
  exact ⟨(i % (n : Int)).toNat, by omega, by omega⟩

theorem rd_ixL {K : PySem.W.Frag} {H : Hp} {p : Addr} {xs : List V} {v : V} {R : V → Prop} (j : Nat) (h : H p = some (.lst xs)) (hx : xs[j]? = some v) (k : R v) :
    ∃ p' xs' i v', V.ref p = V.ref p' ∧ V.int (j : Int) = V.int i ∧ SqL K H p' xs' ∧ atI xs' i = some v' ∧ R v' :=
  ⟨p, xs, _, v, rfl, rfl, SqL.of h, atI_nat hx, k⟩
end Ask

set_option Elab.async false
set_option linter.all false
set_option maxRecDepth 100000
set_option maxHeartbeats 2000000
/-! data whose text is short -/
namespace Ask
open PySem L2
open PyProof.Rows
/-- data that can be shown, with a text of at most n signs -/
structure Shows (n : Nat) (d : PyData) : Prop where
  can : d.showable = true
  nod : d.hasDict = false
  dep : d.depth ≤ 20
  len : d.shown.length ≤ n
theorem showAll : ∀ ds : List PyData, (∀ d ∈ ds, d.showable = true) → PyData.showableAll ds = true
  | [], _ => rfl
  | d :: ds, h => by
    unfold PyData.showableAll
    rw [h d List.mem_cons_self, showAll ds fun x hx => h x (List.mem_cons_of_mem _ hx)]
    rfl
theorem nodAll : ∀ ds : List PyData, (∀ d ∈ ds, d.hasDict = false) → PyData.hasDictAll ds = false
  | [], _ => rfl
  | d :: ds, h => by
    unfold PyData.hasDictAll
    rw [h d List.mem_cons_self, nodAll ds fun x hx => h x (List.mem_cons_of_mem _ hx)]
    rfl
theorem depAll {k : Nat} : ∀ ds : List PyData, (∀ d ∈ ds, d.depth ≤ k) → PyData.depthAll ds ≤ k
  | [], _ => by
    unfold PyData.depthAll
    exact Nat.zero_le _
  | d :: ds, h => by
    have h1 := h d List.mem_cons_self
    have h2 := depAll ds fun x hx => h x (List.mem_cons_of_mem _ hx)
    unfold PyData.depthAll
    omega
theorem lenAll {n : Nat} : ∀ ds : List PyData, (∀ d ∈ ds, d.shown.length ≤ n) → ((PyData.shownAll ds).map (·.length)).sum ≤ n * ds.length ∧ (PyData.shownAll ds).length = ds.length
  | [], _ => by
    unfold PyData.shownAll
    exact ⟨Nat.zero_le _, rfl⟩
  | d :: ds, h => by
    have h1 := h d List.mem_cons_self
    have h2 := lenAll ds fun x hx => h x (List.mem_cons_of_mem _ hx)
    unfold PyData.shownAll
    rw [List.map_cons, List.sum_cons, List.length_cons, List.length_cons, Nat.mul_succ]
    exact ⟨by omega, by omega⟩
/-- a list of such -/
theorem shows_list {n k : Nat} {ds : List PyData} (h : ∀ d ∈ ds, Shows n d) (hd : ∀ d ∈ ds, d.depth ≤ 18) (hn : ds.length ≤ k) : Shows (n * k + 2 * k + 3) (.list ds) where
  can := by
    unfold PyData.showable
    exact showAll ds fun d hx => (h d hx).can
  nod := by
    unfold PyData.hasDict
    exact nodAll ds fun d hx => (h d hx).nod
  dep := by
    have z := depAll ds hd
    unfold PyData.depth
    omega
  len := by
    have z := lenAll ds fun d hx => (h d hx).len
    have y := listText_len_le (PyData.shownAll ds)
    have m : n * ds.length ≤ n * k := Nat.mul_le_mul_left n hn
    unfold PyData.shown
    omega
theorem shows_bool (b : Bool) : Shows 5 (.bool b) := by
  refine ⟨rfl, rfl, ?_, ?_⟩
  · unfold PyData.depth
    omega
  · cases b <;> decide +kernel
theorem dp_bls {K : PySem.W.Frag} {H : Hp} : ∀ bs : List Bool, DpAll K H (bs.map V.bl) (bs.map PyData.bool)
  | [] => .nil
  | b :: bs => .cons (.bl b) (dp_bls bs)
theorem dep_bools (bs : List Bool) : ∀ d ∈ bs.map PyData.bool, d.depth ≤ 18 := fun d hd => by
  obtain ⟨b, _, rfl⟩ := List.mem_map.mp hd
  unfold PyData.depth
  omega
theorem shows_bools {k : Nat} (bs : List Bool) (h : bs.length ≤ k) : Shows (5 * k + 2 * k + 3) (.list (bs.map PyData.bool)) :=
  shows_list (fun d hd => by
    obtain ⟨b, _, rfl⟩ := List.mem_map.mp hd
    exact shows_bool b) (dep_bools bs) (by rw [List.length_map]; exact h)
/-- repr of such, as a call asks it -/
theorem repr_ask {K : PySem.W.Frag} {H : Hp} {v : V} {d : PyData} {n : Nat} {Q : VK} (s : Shows n d) (hn : n ≤ sizeLine) (h : Dp K H v d) (q : Q (.str d.shown) H) : rRepr K [v] H Q :=
  ⟨v, d, rfl, h, s.can, s.nod, Nat.le_trans s.dep (by decide), Nat.le_trans s.len hn, q⟩
theorem repr_bools {K : PySem.W.Frag} {H : Hp} {t : Addr} {xs : List V} {R : PyData → Prop} (bs : List Bool) (h : H t = some (.lst xs)) (e : xs = bs.map V.bl) (n : bs.length ≤ 100)
    (q : R (PyData.list (bs.map PyData.bool))) :
    ∃ (v : V) (d : PyData), [V.ref t] = [v] ∧ Dp K H v d ∧ d.showable = true ∧ d.hasDict = false ∧ d.depth ≤ 60 ∧ d.shown.length ≤ sizeLine ∧ R d := by
  subst e
  have s := shows_bools bs n
  exact ⟨_, _, rfl, .lst (SqL.of h) (dp_bls bs), s.can, s.nod, Nat.le_trans s.dep (by decide), Nat.le_trans s.len (by decide), q⟩
end Ask

set_option Elab.async false
set_option linter.all false
set_option maxRecDepth 100000
set_option maxHeartbeats 2000000
/-! a class that a local name holds, made; a classmethod called by keywords -/
namespace Ask
open PySem L2
open PyProof.Rows
/-- the i-th slot holds the class at C -/
def tMakeL (i : Nat) (C : Addr) (sp : Sp) (dvs : List V) (E : XK) (t : TA) : TE := fun σ H Q =>
  σ[i]? = some (some (.ref C)) ∧ tMake C sp dvs E t σ H Q
section
variable {X : Cx} {CX : CXT} {k i : Nat} {C f p q g : Addr} {fd : FuncData} {ps ks : List Str} {sp : Sp} {dvs : List V}
  {ds : List Value} {E : XK} {x m : Str} {pos apos : Pos} {ppos : Pos} {e o : Expr} {es : List Expr} {t tk : TA} {ta : TE}
  {kws : List Keyword} {mc : Value} {pl : Sem Bool} {gg : List Value → List Value → List Value} {gV : List V → List V → List V}
theorem pe_makeL (M : Mk X.K C f) (F : FnOk X.prog X.w X.K X.mg X.base CX k f fd ps sp) (hr : Room (k + 1) X.A)
    (hN : X.N[i]? = some x) (hv : Vis X.env.scope x) (hb : Binds X.K fd ps ds) (hd : Vals dvs ds) (hx : Passes CX X E)
    (ha : PA X (e :: es) t) (hdb : (x == ("__debug__" : Str)) = false := by decide)
    (hcd : (x == ("__classdict__" : Str)) = false := by decide)
    (he : starEach (e :: es) X.env = (false, eval e X.env) :: starEach es X.env := by rfl)
    (hpl : (backTo pos (starEach es X.env)).any (·.1) = false := by rfl) :
    PE X (.Call (.Name x ppos) (e :: es) [] pos) (tMakeL i C sp dvs E t) := by
  refine ⟨fun pins s σ H Q I h => ?_⟩
  obtain ⟨hs, ht⟩ := h
  have hv' := (pe_var (pos := ppos) hN hv hdb hcd).run pins s σ H (fun v H1 => v = .ref C ∧ H1 = H) I ⟨.ref C, hs, rfl, rfl⟩
  refine wpAny_Call_Name_kw (thn hv' ?_)
  rintro u s1 ⟨v, H1, I1, r1, rfl, rfl⟩
  cases r1
  refine PySem.W.callWith_K (h₀ := X.base) I.ok.mod.kin M.kp (thn (ha.run pos pins s1 σ _ _ I1 ht) ?_) he hpl
  rintro us s2 ⟨vs, H2, I2, r, q⟩
  exact ⟨I2.kIn, run_make M F hr hb hd hx I2 r q⟩

/-- o.m(k = v, ..), m a classmethod of the class at C, by keywords alone -/
def tCMethK (C : Addr) (n : Nat) (sp : Sp) (gV : List V → List V → List V) (E : XK) (ta : TE) (tk : TA) : TE := fun σ H Q =>
  ta σ H fun x H1 => x = .ref C ∧ tk σ H1 fun zs H2 => zs.length = n ∧ sp (gV [.ref C] zs) H2 Q E
theorem pe_cmethK (he : PE X o ta) (r : ClX.CRead X.K C mc) (c : ClX.CMet X.K C mc m p g)
    (F : FnOk X.prog X.w X.K X.mg X.base CX k g fd ps sp) (hr : Room k X.A) (hb : KBn X.K fd ps 1 ks gg gV)
    (hx : Passes CX X E) (hkw : PK X kws tk)
    (hall : (backToKw pos (keywordEach kws X.env)).all (·.1.isSome) = true := by rfl)
    (hks : (backToKw pos (keywordEach kws X.env)).filterMap (·.1) = ks := by rfl)
    (hpl : ((backTo pos (starEach [] X.env)).any (·.1) || (backToKw pos (keywordEach kws X.env)).any (·.1.isNone)) = false := by rfl)
    (ht : eval (.Call (.Attribute o m apos) [] kws pos) X.env = (do
      let ov ← eval o X.env; standAt apos.atName
      let (f, first) ← holding [ov] (getMethod ov m pl)
      callWith pos f first (backTo pos (starEach [] X.env)) (backToKw pos (keywordEach kws X.env))) := by rfl) :
    PE X (.Call (.Attribute o m apos) [] kws pos) (tCMethK C ks.length sp gV E ta tk) := by
  refine ⟨fun pins s σ H Q I h => ?_⟩
  refine PySem.W.methodCall_KW (pl := pl) (thn (he.run pins s σ H _ I h) ?_) ht
  rintro u s1 ⟨x, H1, I1, rx, ex, q⟩
  subst ex
  obtain rfl : u = Value.ref C := rx
  refine ClX.getmethcm_ok I1 r c fun s2 I2 => ?_
  have hM : PySem.W.MethP X.K s1.heap.objs.size g (.ref C) s2.heap := ⟨ClX.pin_at I2, I2.kIn⟩
  refine PySem.W.callWith_of (P := PySem.W.MethP X.K s1.heap.objs.size g (.ref C)) hpl (PySem.W.keeps_M c.fi) (PyProof.Rows.evalArgs_kw2_nil hall (thn (hkw.run pos _ s2 σ H1 _ I2 q) ?_))
  rintro ws s3 ⟨zs, H2, I3, rz, l2, q2⟩
  refine ⟨⟨ClX.pin_at I3, I3.kIn⟩, ?_⟩
  rw [hks]
  have r2 : Vals (gV [.ref C] zs) (gg [.ref C] ws) := hb.rel (.cons rfl .nil) rz
  have run := F.run X.A X.stack s3 H2 ⟨[.ref C], ks.zip ws⟩ (gg [.ref C] ws) (gV [.ref C] zs) Q E hr I3.env0
    (hb.to s3 [.ref C] ws I3.kIn rfl (rz.length.symm.trans l2)) r2 q2
  refine wpAny_call (PySem.W.method_call (ClX.pin_at I3) (codeAny_mono run ?_))
  intro r s' hq
  have I4 := ClX.unpin I3
  cases r with
  | error e => exact hx pins σ H2 s3 e s' I4 hq
  | ok fl =>
    cases fl with
    | ret u => exact I4.after hq
    | next => exact False.elim hq
    | brk => exact False.elim hq
    | cont => exact False.elim hq
end
end Ask

set_option Elab.async false
set_option linter.all false
set_option maxRecDepth 100000
set_option maxHeartbeats 2000000
/-! the pen beside other objects; data whose text is short -/
namespace Ask
open PySem L2
open PyProof.Rows
theorem Pen.mono {H : Hp} {p : Addr} {n m : Nat} (h : Pen H p n) (e : n ≤ m) : Pen H p m := by
  obtain ⟨l, i, v, ns, h1, h2, h3, h4, h5⟩ := h
  exact ⟨l, i, v, ns, h1, h2, h3, by omega, h5⟩
/-- a new object beside the pen -/
theorem Pen.new {H : Hp} {p q : Addr} {n : Nat} {o : HO} (h : Pen H p n) (e : H q = none) : Pen (upd H q o) p n := by
  obtain ⟨l, i, v, ns, h1, h2, h3⟩ := h
  exact ⟨l, i, v, ns, by rw [upd_ne (ne_of_none h1 e)]; exact h1, by rw [upd_ne (ne_of_none h2 e)]; exact h2, h3⟩
/-- all kept -/
theorem Pen.same {H H' : Hp} {p : Addr} {n : Nat} (h : Pen H p n) (s : Same H H') : Pen H' p n := by
  obtain ⟨l, i, v, ns, h1, h2, h3⟩ := h
  exact ⟨l, i, v, ns, s _ _ h1, s _ _ h2, h3⟩
theorem Pen.ne {H : Hp} {p q : Addr} {n : Nat} {o : HO} (h : Pen H p n) (e : H q = some o) (ho : ∀ l i v, o ≠ .lst [.ref l, .int i, .int v]) : q ≠ p := by
  obtain ⟨l, i, v, ns, h1, _⟩ := h
  exact ne_of e h1 (ho l i v)
theorem Pen.ne0 {H : Hp} {p q : Addr} {n : Nat} (h : Pen H p n) (e : H q = none) : p ≠ q := by
  obtain ⟨l, i, v, ns, h1, _⟩ := h
  exact ne_of_none h1 e
/-- what stands where the pen does not, is where a new object cannot be -/
theorem But.free {H H' : Hp} {p q : Addr} {n : Nat} (h : But p H H') (hp : Pen H' p n) (e : H' q = none) : H q = none := by
  cases z : H q with
  | none => rfl
  | some o =>
    have y := h q o (Ne.symm (hp.ne0 e)) z
    rw [e] at y
    cases y
/-- an item of a written list at a drawn place -/
theorem at_drawn {xs : List V} {z : Int} {n : Int} (h0 : 0 ≤ z) (h1 : z < n) (hn : n = (xs.length : Int)) : ∃ v, atI xs z = some v ∧ v ∈ xs := by
  obtain ⟨j, rfl⟩ := Int.eq_ofNat_of_zero_le h0
  have hj : j < xs.length := by omega
  exact ⟨xs[j], atI_nat (List.getElem?_eq_getElem hj), List.getElem_mem hj⟩
/-- [e, ..][digit]: the list new at q, one draw, the digit's item -/
theorem Pen.pick {K : PySem.W.Frag} {H0 H H' : Hp} {p q : Addr} {n : Nat} {xs : List V} {z b : Int} (hp : Pen H p n) (hq : H q = none) (bb : But p (upd H q (.lst xs)) H')
    (z0 : 0 ≤ z) (z1 : z < b) (hb : b = (xs.length : Int)) (B : But p H0 H) : ∃ v, atI xs z = some v ∧ v ∈ xs ∧ SqL K H' q xs ∧ But p H0 H' := by
  obtain ⟨v, hv, hm⟩ := at_drawn z0 z1 hb
  exact ⟨v, hv, hm, SqL.of (bb q _ (Ne.symm (hp.ne0 hq)) upd_same), B.trans ((But.new hq).trans bb)⟩
theorem Shows.up {n m : Nat} {d : PyData} (s : Shows n d) (h : n ≤ m) : Shows m d := ⟨s.can, s.nod, s.dep, Nat.le_trans s.len h⟩
theorem shows_int {i : Int} (h : i.natAbs < 10 ^ 12) : Shows 13 (.int i) := by
  refine ⟨?_, rfl, ?_, PyData.shown_int_le h⟩
  · unfold PyData.showable
    exact decide_eq_true (Nat.lt_of_lt_of_le (PySem.Flt.log2_lt_of (by decide : 0 < 40) (Nat.lt_of_lt_of_le h (by decide))) (by decide))
  · unfold PyData.depth
    omega
theorem shows_none : Shows 4 .none := by
  refine ⟨rfl, rfl, ?_, by decide +kernel⟩
  unfold PyData.depth
  omega
/-- the data of a flat value -/
def flatD : V → PyData
  | .bl b => .bool b
  | .int i => .int i
  | .str x => .str x
  | _ => .none
def Flat : V → Prop
  | .non => True
  | .bl _ => True
  | .int i => i.natAbs < 10 ^ 12
  | .str x => Shows 20 (.str x)
  | _ => False
theorem Flat.shows : ∀ {v : V}, Flat v → Shows 20 (flatD v)
  | .non, _ => shows_none.up (by decide)
  | .bl b, _ => (shows_bool b).up (by decide)
  | .int i, h => (shows_int h).up (by decide)
  | .str x, h => h
theorem Flat.dep : ∀ {v : V}, Flat v → (flatD v).depth ≤ 18
  | .non, _ => by
    show PyData.depth _ ≤ 18
    unfold flatD PyData.depth
    omega
  | .bl b, _ => by
    unfold flatD PyData.depth
    omega
  | .int i, h => by
    unfold flatD PyData.depth
    omega
  | .str x, h => by
    unfold flatD PyData.depth
    omega
theorem Flat.dp {K : PySem.W.Frag} {H : Hp} : ∀ {v : V}, Flat v → Dp K H v (flatD v)
  | .non, _ => .non
  | .bl b, _ => .bl b
  | .int i, _ => .int i
  | .str x, _ => .str x
theorem dp_flats {K : PySem.W.Frag} {H : Hp} : ∀ {vs : List V}, (∀ v ∈ vs, Flat v) → DpAll K H vs (vs.map flatD)
  | [], _ => .nil
  | v :: vs, h => .cons (h v List.mem_cons_self).dp (dp_flats fun x hx => h x (List.mem_cons_of_mem _ hx))
theorem repr_flats {K : PySem.W.Frag} {H : Hp} {t : Addr} {R : PyData → Prop} {xs : List V} (h : H t = some (.lst xs)) (hf : ∀ v ∈ xs, Flat v) (n : xs.length ≤ 100)
    (q : R (PyData.list (xs.map flatD))) :
    ∃ (v : V) (d : PyData), [V.ref t] = [v] ∧ Dp K H v d ∧ d.showable = true ∧ d.hasDict = false ∧ d.depth ≤ 60 ∧ d.shown.length ≤ sizeLine ∧ R d := by
  have s := shows_list (n := 20) (k := 100) (ds := xs.map flatD) (fun d hd => by
    obtain ⟨v, hv, rfl⟩ := List.mem_map.mp hd
    exact (hf v hv).shows) (fun d hd => by
    obtain ⟨v, hv, rfl⟩ := List.mem_map.mp hd
    exact (hf v hv).dep) (by rw [List.length_map]; exact n)
  exact ⟨_, _, rfl, .lst (SqL.of h) (dp_flats hf), s.can, s.nod, Nat.le_trans s.dep (by decide), Nat.le_trans s.len (by decide), q⟩
/-- a call by keywords of a def without defaults -/
theorem Fun.kb {K : PySem.W.Frag} {x qual : Str} {st : Stmt} {f : Addr} {fd : FuncData} {ps : List Str} (F : L2.Fun K x qual st f fd) (n : Nat) (ks : List Str) (g : {α : Type} → List α → List α → List α)
    (hrel : ∀ {vs zs : List V} {us ws : List Value}, Vals vs us → Vals zs ws → Vals (g vs zs) (g us ws))
    (h : ∀ (kV doc pm : Value) (an : Option Addr) (cdv ct : Value) (us ws : List Value), us.length = n → ws.length = ks.length →
      bindArgs (PySem.W.fnOf x qual (defArgs st) (defBody st) (defScope st) .none kV doc pm an cdv ct) ⟨us, ks.zip ws⟩ = pure (ps.zip (g us ws))) :
    KBn K fd ps n ks (fun us ws => g us ws) (fun vs zs => g vs zs) := by
  obtain ⟨oc, od, kV, doc, pm, an, cdv, ct, osl, rfl, lk, hcd⟩ := F.ex
  exact ⟨fun s us ws X l1 l2 => BindsTo.of_looks fun M => PySem.W.Looks.of_pure (h kV doc pm an cdv ct us ws l1 l2), fun r1 r2 => hrel r1 r2⟩
theorem vals_drop : ∀ (j : Nat) {vs : List V} {us : List Value}, Vals vs us → Vals (vs.drop j) (us.drop j)
  | 0, _, _, h => h
  | _ + 1, _, _, .nil => .nil
  | j + 1, _, _, .cons _ h => vals_drop j h
theorem vals_take : ∀ (j : Nat) {vs : List V} {us : List Value}, Vals vs us → Vals (vs.take j) (us.take j)
  | 0, _, _, _ => .nil
  | _ + 1, _, _, .nil => .nil
  | j + 1, _, _, .cons a h => .cons a (vals_take j h)
end Ask

set_option Elab.async false
set_option linter.all false
set_option maxRecDepth 100000
set_option maxHeartbeats 2000000
/-! try: .. except x as n: .. n is kept in another name: behind the suite the error is an object of the heap -/
namespace Ask
open PySem PySem.Spec L2
open PyProof.Rows
/-- at a: an error of the class cls, its dict at d -/
def ExK (cls : Value) (d : Option Addr) (a : Addr) : HO := .ext fun h => ∃ (o : Obj) (vs : Array Value),
  h.get? a = some o ∧ Zc cls d o ∧ o.data = .fields vs
theorem exK_ok {P : Program} {w : World} {H : Hp} {h : Heap} {a : Addr} {cls : Value} {d : Option Addr} {o : Obj} {vs : Array Value}
    (e : h.get? a = some o) (z : Zc cls d o) (f : o.data = .fields vs) : ObjOk P w H h a (ExK cls d a) :=
  ⟨⟨o, vs, e, z, f⟩, ⟨o, e⟩, fun _ _ ⟨o1, v1, q, r⟩ k => ⟨o1, v1, k o1 q, r⟩⟩
theorem exK_at {P : Program} {w : World} {H : Hp} {h : Heap} {a : Addr} {cls : Value} {d : Option Addr} (x : ObjOk P w H h a (ExK cls d a)) :
    ∃ (o : Obj) (vs : Array Value), h.get? a = some o ∧ Zc cls d o ∧ o.data = .fields vs := x.1
section
variable {X : Cx} {pins : List (Addr × Obj)} {σ : L2.St} {H : Hp} {s sI s' : Shared} {B : Heap} {a : Addr} {o : HO}
/-- landed, and one new object of it tracked -/
theorem landedK (I : Inv X pins σ H sI) (nb : ∀ b ob, sI.heap.get? b = some ob → b ∉ frs X.stack → B.get? b = some ob)
    (st : B.StaysIn s'.heap) (up : sI.heap.UpToSlots s'.heap) (os : s'.os = sI.os) (ag : AllBare s'.gens)
    (na : H a = none) (nw : sI.heap.get? a = none) (new : ObjOk X.prog X.w (upd H a o) s'.heap a o) : Inv X pins σ (upd H a o) s' := by
  have slot : ∀ b ob, sI.heap.get? b = some ob → b ∈ frs X.stack → ∃ sl, s'.heap.get? b = some { ob with slots := sl } := by
    intro b ob e hm
    obtain ⟨_, o', e', nf⟩ := I.stack.mem hm
    obtain rfl : ob = o' := Option.some.inj (e.symm.trans e')
    exact up b ob e nf
  have U : Un (frs X.stack) [] H (upd H a o) sI.heap s'.heap := by
    refine ⟨fun b ob e _ hm _ => st b ob (nb b ob e hm), fun b ob e _ hm _ => slot b ob e hm, fun b ob e n _ => ?_, fun b ob e _ => ?_, fun b xs e => ?_, fun b u v e => ?_, fun b ps e => ⟨#[], ?_⟩⟩
    · rw [upd_ne (fun z => by rw [z, nw] at e; cases e)]
      exact n
    · by_cases hm : b ∈ frs X.stack
      · obtain ⟨sl, q⟩ := slot b ob e hm
        exact ⟨_, q⟩
      · exact ⟨ob, st b ob (nb b ob e hm)⟩
    · rw [upd_ne (ne_of_none e na)]
      exact e
    · rw [upd_ne (ne_of_none e na)]
      exact e
    · rw [upd_ne (ne_of_none e na), e]
      simp
  have J := I.call (ch := []) (h' := s'.heap) (g' := s'.gens) (t' := s'.toks) (d' := s'.drawn) U
    (HOk.laidN ((I.inGround nb).kept st) (fun _ _ z => z) na new) ag (fun _ z => nomatch z)
  have e : s' = { sI with heap := s'.heap, gens := s'.gens, drawn := s'.drawn, toks := s'.toks } := by
    cases s'
    cases os
    rfl
  rw [e]
  exact J
theorem Inv.inSuite (I : L2.Inv X pins σ H s) (b : Addr) : L2.Inv (X.suite b (X.pn ++ pins)) [] σ H s where
  ok := I.ok.suite b _
  os := I.os
  bare := I.bare
  base := I.base
  loc := I.loc
  cell := I.cell
  free := I.free
  freeC := I.freeC
  pin := fun p hp => I.pin p (by
    have hp' : p ∈ (X.pn ++ pins) ++ [] := hp
    rwa [List.append_nil] at hp')
  hok := I.hok
  len := I.len
theorem Inv.outSuite {b : Addr} {q : List (Addr × Obj)} (ok : X.Ok) (I : L2.Inv (X.suite b (X.pn ++ pins)) q σ H s) : L2.Inv X pins σ H s where
  ok := ok
  os := I.os
  bare := I.bare
  base := I.base
  loc := I.loc
  cell := I.cell
  free := I.free
  freeC := I.freeC
  pin := fun p hp => I.pin p (List.mem_append_left q hp)
  hok := I.hok
  len := I.len
end
/-- the wish of an except clause whose error is tracked from then on -/
def wKeep (K : PySem.W.Frag) (c : Value) (i : Nat) (ts : TS) (W : WX) (D : Ends) : WX := fun cls d σ H => ∃ b, PySem.W.exmOne K cls c = some b ∧ (b = false → W cls d σ H) ∧
  (b = true → ∀ a, H a = none → ts { nx := fun τ G => D.nx (τ.set i none) G, rt := D.rt, bk := fun τ G => D.bk (τ.set i none) G, ct := fun τ G => D.ct (τ.set i none) G } (σ.set i (some (.ref a))) (upd H a (ExK cls d a)))
section
variable {X : Cx} {x n : Str} {c : Value} {i : Nat} {body suite : List Stmt} {b₀ : Stmt} {np pos pos' : Pos} {tb : WX → TS} {ts : TS} {Wout : WX}
theorem ps_try_keep (hs : X.stack = X.env :: X.outer) (hf : X.env.frame = some X.env.locals) (hN : X.N.Nodup) (hi : X.N[i]? = some n)
    (hln : X.env.kindOf n = some .local) (hc : Names X x c) (tk : Takes X Wout)
    (hb : ∀ (W : WX) (pn : List (Addr × Obj)) (xe : Value → Shared → Prop), Takes (X.tr pn xe) W →
      PassesOwn (model X.prog X.w) X.A X.env xe → PSs (X.tr pn xe) body (tb W))
    (hsu : ∀ (a : Addr) (pn : List (Addr × Obj)), PSs (X.suite a pn) (b₀ :: suite) ts) :
    PS X (.Try body [.ExceptHandler (some (.Name x np)) (some n) (b₀ :: suite) pos'] [] [] pos)
      (fun D σ H => tb (wKeep X.K c i ts Wout D) D σ H) := by
  constructor
  intro pins s σ H D I h
  have ok := I.ok
  have hfr : X.A.frames = some (X.env :: X.outer) := ok.frames.trans (congrArg some hs)
  refine wpAny_Try_except ?_
  let hd := [ExceptHandler.ExceptHandler (some (.Name x np)) (some n) (b₀ :: suite) pos']
  let K2 : Value → Shared → Prop := fun e s2 => wpAny (model X.prog X.w) X.A (setFlight e none)
    (fun _ s3 => wpAny (model X.prog X.w) X.A (handleBy e X.env hd) (SP X pins D) X.xe s3) X.xe s2
  let K1 : Value → Shared → Prop := fun e s1 => wpAny (model X.prog X.w) X.A (noteFrame e X.env) (fun _ s2 => K2 e s2) X.xe s1
  have catch_ : Takes (X.tr (X.pn ++ pins) K1) (wKeep X.K c i ts Wout D) := by
    intro u s' xx
    obtain ⟨a, B, sI, pins', σ', H', cls, d, rfl, J', nb, up, sky, na, os, ag, b, hb1, hno, hyes⟩ := xx
    have J : L2.Inv X pins σ' H' sI := J'.ofTry ok
    have sky' : Sky B (X.env :: X.outer) a (Zc cls d) X.env.locals s'.heap := hs ▸ sky
    refine Sky.land Zc.steady hfr hf sky' fun h3 fl3 up3 => ?_
    have J3 : L2.Inv X pins σ' H' { s' with heap := h3 } := J.landed nb fl3.1 (up.trans up3) os ag
    obtain ⟨o3, v3, g3, z3, d3⟩ := fl3.there
    -- a is no frame's
    have noFrame : a ∉ frs (X.env :: X.outer) := by
      intro hm
      obtain ⟨_, o', e', nf⟩ := fl3.2.2.1.mem hm
      obtain rfl : o3 = o' := Option.some.inj (g3.symm.trans e')
      exact nf _ d3
    have nw : sI.heap.get? a = none := by
      cases e : sI.heap.get? a with
      | none => rfl
      | some ob =>
        have q := nb a ob e (hs.symm ▸ noFrame)
        rw [fl3.2.1] at q
        cases q
    have S3 := Ask.Inv.inSuite J3 a
    refine wpAny_handleBy_cons (codeAny_handlers_test ?_) (fun q => by cases q)
    have LT : PySem.W.Looks (model X.prog X.w) h3 (typeOf (.ref a)) cls := fun A' Q' E' s2 k q => wpAny_typeOf_ref (k _ _ g3) (by rw [z3.1]; exact q)
    have LM := PySem.W.exm_one (M := model X.prog X.w) J3.kIn LT hb1
    have clause : ∀ {Q' : Value → Shared → Prop} {E' : Value → Shared → Prop}, Q' c { s' with heap := h3 } →
        wpAny (model X.prog X.w) (X.A.mark (some (.ref a))) (eval (.Name x np) X.env) Q' E' { s' with heap := h3 } := by
      intro Q' E' q
      obtain ⟨hg, hdb, hm | ⟨hm, hv, hn⟩⟩ := hc
      · exact ld_glob (X := X.suite a (X.pn ++ pins)) S3 hg hm q hdb
      · exact ld_blt (X := X.suite a (X.pn ++ pins)) S3 hg hm hv q hn hdb
    refine clause (LM.here ?_)
    cases b with
    | false =>
      show wpAny _ X.A (handleBy (.ref a) X.env []) _ _ _
      refine wpAny_handleBy_nil ?_
      obtain ⟨_, _, _, o5, v5, T5, oT, t5, g5, _, d5, h5, _⟩ := id fl3
      unfold PySem.passOn
      refine wpAny_bind (wpAny_field g5 d5 h5 ?_)
      rw [if_neg (by simp)]
      have fin : wpAny (model X.prog X.w) X.A (setFlight (.ref a) X.env.frame)
          (fun _ s4 => wpAny (model X.prog X.w) X.A (throw (.ref a) : Sem Flow) (SP X pins D) X.xe s4) X.xe { s' with heap := h3 } := by
        rw [hf]
        refine HandSPX.setFlight_upZ fl3 fun h4 hh4 up4 => wpAny_throw (tk _ _ ?_)
        exact ⟨a, B, sI, pins, σ', H', cls, d, rfl, J, nb, (up.trans up3).trans up4, .inr (.inr (hs ▸ hh4)), na, os, ag, hno rfl⟩
      first
        | exact wpAny_bind (wpAny_pure (wpAny_bind fin))
        | exact wpAny_bind fin
    | true =>
      refine codeAny_handlers_suite_as ?_
      refine HandSPX.lands_againZ fl3 fun h4 fl4 up4 => ?_
      obtain ⟨o4, v4, g4, z4, d4⟩ := fl4.there
      have J4 : L2.Inv X pins σ' (upd H' a (ExK cls d a)) { s' with heap := h4 } :=
        landedK J nb fl4.1 ((up.trans up3).trans up4) os ag na nw (exK_ok g4 z4 d4)
      refine store_ok (X := X.suite a (X.pn ++ pins)) (v := .ref a) (Ask.Inv.inSuite J4 a) hN hi (.inl hln) rfl (fun s5 S5 => ?_) (.inr hln)
      refine wpAny_mono ((hsu a (X.pn ++ pins)).run [] s5 _ _ _ S5 (hyes rfl a na)) (fun f s6 hsp => ?_) (fun _ _ z => False.elim z)
      have away : ∀ {τ : L2.St} {G : Hp} {Q' : Shared → Prop}, L2.Inv (X.suite a (X.pn ++ pins)) [] τ G s6 →
          (∀ s7, L2.Inv X pins (τ.set i none) G s7 → Q' s7) →
          wpAny (model X.prog X.w) X.A (do bindName X.env n .none; unbindBehindTheSuite X.env n pos') (fun _ s7 => Q' s7) X.xe s6 :=
        fun S6 q => gone_ok (Ask.Inv.outSuite ok S6) hN hi hln q
      cases f with
      | ret u =>
        obtain ⟨v6, τ, G, S6, r6, q6⟩ := hsp
        exact away S6 fun s7 J7 => ⟨_, _, _, J7, r6, q6⟩
      | next =>
        obtain ⟨τ, G, S6, q6⟩ := hsp
        exact away S6 fun s7 J7 => ⟨_, _, J7, q6⟩
      | brk =>
        obtain ⟨τ, G, S6, q6⟩ := hsp
        exact away S6 fun s7 J7 => ⟨_, _, J7, q6⟩
      | cont =>
        obtain ⟨τ, G, S6, q6⟩ := hsp
        exact away S6 fun s7 J7 => ⟨_, _, J7, q6⟩
  have run := (hb (wKeep X.K c i ts Wout D) (X.pn ++ pins) K1 catch_ PassesOwn.looking).run [] s σ H D (I.toTry _) h
  refine wpAny_mono run (fun f s1 hsp => ?_) (fun e s1 he => he)
  cases f with
  | next =>
    obtain ⟨τ, G, J', q⟩ := hsp
    exact wpAny_execs_nil ⟨τ, G, J'.ofTry ok, q⟩
  | ret u =>
    obtain ⟨v, τ, G, J', r, q⟩ := hsp
    exact ⟨v, τ, G, J'.ofTry ok, r, q⟩
  | brk =>
    obtain ⟨τ, G, J', q⟩ := hsp
    exact ⟨τ, G, J'.ofTry ok, q⟩
  | cont =>
    obtain ⟨τ, G, J', q⟩ := hsp
    exact ⟨τ, G, J'.ofTry ok, q⟩
end
/-! what is asked of such an object -/
theorem instK {X : Cx} {pins : List (Addr × Obj)} {σ : L2.St} {H : Hp} {s : Shared} {a D : Addr} {d : Option Addr} (I : L2.Inv X pins σ H s)
    (ha : H a = some (ExK (.ref D) d a)) (hd : ∀ e, d = some e → ∃ fs, H e = some (.xd fs)) : ∃ (o : Obj) (od : Option Obj), PySem.W.InstAt s.heap a o D od := by
  obtain ⟨⟨oc, od, oda, osl⟩, vs, g, ⟨z1, z2⟩, f⟩ := exK_at (I.hok a _ ha)
  dsimp only at z1 z2 f
  subst z1 z2 f
  cases od with
  | none => exact ⟨_, none, g, rfl, rfl, trivial⟩
  | some e =>
    obtain ⟨fs, he⟩ := hd e rfl
    obtain ⟨mA, hns, _⟩ := (show ObjOk X.prog X.w H s.heap e (.xd fs) from I.hok e _ he)
    obtain ⟨o2, ho2, _⟩ := lookIn_ns hns
    exact ⟨_, some o2, g, rfl, rfl, ho2⟩
/-- isinstance(e, c), e an error kept -/
def rIsK (K : PySem.W.Frag) : List V → Hp → VK → Prop := fun xs H Q => ∃ (a D : Addr) (d : Option Addr) (c : V) (cv : Value) (b : Bool), xs = [.ref a, c] ∧
  H a = some (ExK (.ref D) d a) ∧ (∀ e, d = some e → ∃ fs, H e = some (.xd fs)) ∧ ExcC K D ∧ ClsV c cv ∧ PySem.W.kitOne K (.ref D) cv = some b ∧ Q (.bl b) H
theorem call_isK {X : Cx} : CallR X (.builtin "isinstance") (rIsK X.K) := by
  intro pins s σ H xs us Q I r h
  obtain ⟨a, D, d, c, cv, b, rfl, ha, hd, C, k, e, q⟩ := h
  obtain ⟨u1, u2, rfl, r1, r2⟩ := vals2 r
  obtain rfl : u1 = Value.ref a := r1
  obtain rfl := k.eq r2
  obtain ⟨o, od, J⟩ := instK I ha hd
  have hcl : (PySem.W.clsIn X.K D).isSome = true := by
    obtain ⟨cd, hc, _⟩ := PySem.W.any_some C.hd
    rw [hc]
    rfl
  exact PySem.W.kia_one (PySem.W.kitx_exc (od := od) hcl C.hg C.hk C.hs C.ha C.hn C.ht C.hm) I.kIn J e (fun z => nomatch z) fun tk => ⟨.bl b, H, I.tok tk, rfl, q⟩
/-- e.n, e an error kept: its field -/
def tXk (K : PySem.W.Frag) (n : Str) (te : TE) : TE := fun σ H Q => te σ H fun x H1 => ∃ (a C d : Addr) (fs : List (Str × V)) (v : V), x = .ref a ∧
  H1 a = some (ExK (.ref C) (some d) a) ∧ H1 d = some (.xd fs) ∧ XfC K C ∧ PySem.W.findIn K (.ref C) n = some none ∧ fs.lookup n = some v ∧ Q v H1
theorem pe_xk {X : Cx} {e : Expr} {te : TE} {pos : Pos} {n : Str} (he : PE X e te) (hb : attributeBase e n X.env (eval e X.env) = eval e X.env := by rfl) :
    PE X (.Attribute e n pos) (tXk X.K n te) := by
  refine ⟨fun pins s σ H Q I h => ?_⟩
  refine attr_of hb (thn (he.run pins s σ H _ I h) ?_)
  rintro u s1 ⟨x, H1, I1, rx, a, C, d, fs, v, ex, ha, hd, T, hno, l, q⟩
  subst ex
  obtain rfl : u = Value.ref a := rx
  obtain ⟨⟨oc, od, oda, osl⟩, vs, g, ⟨z1, z2⟩, f⟩ := exK_at (I1.hok a _ ha)
  dsimp only at z1 z2 f
  subst z1 z2 f
  obtain ⟨mA, hns, hr⟩ := (show ObjOk X.prog X.w H1 s1.heap d (.xd fs) from I1.hok d _ hd)
  obtain ⟨o2, ho, hl⟩ := lookIn_ns hns
  obtain ⟨w, hw, rw'⟩ := RelO.some_of (v := v) (o := mA n) (by rw [← l]; exact hr n)
  have J : PySem.W.InstAt s1.heap a ⟨.ref C, some d, .fields vs, osl⟩ C (some o2) := ⟨g, rfl, rfl, ho⟩
  exact HandSPX.exc_get I1.kIn J T.ga T.gg T.exC (PySem.W.findObj_own T.hdC hno rfl (by rw [hl, hw])) (handed_of rw') ⟨v, H1, I1.tok _, rw', q⟩
end Ask

set_option Elab.async false
set_option linter.all false
set_option maxRecDepth 100000
set_option maxHeartbeats 2000000
/-! data with dicts in it: their text; the law's own def where sys.modules is known to stand apart -/
namespace Ask
open PySem PySem.Spec L2
open PyProof.Rows
/-- a flat value and its data -/
def FlatD : V → PyData → Prop
  | .non, d => d = .none
  | .bl b, d => d = .bool b
  | .int i, d => d = .int i
  | .str x, d => d = .str x
  | _, _ => False
def keyD : Key → PyData
  | .inl i => .int i
  | .inr x => .str x
/-- at v: the data d, nested no deeper than n, every object of it at such an address -/
def Dq (fr : Addr → Prop) (H : Hp) : Nat → V → PyData → Prop
  | 0, v, d => FlatD v d
  | n + 1, v, d => FlatD v d ∨ (∃ a xs ds, v = .ref a ∧ d = .list ds ∧ fr a ∧ H a = some (.lst xs) ∧ Paired (Dq fr H n) xs ds) ∨
    (∃ a xs ds, v = .ref a ∧ d = .tuple ds ∧ fr a ∧ H a = some (.tup xs) ∧ Paired (Dq fr H n) xs ds) ∨
    (∃ (a : Addr) (kvs : List (Key × V)) (ds : List PyData), v = .ref a ∧ d = .dict ((kvs.map fun p => keyD p.1).zip ds) ∧ fr a ∧ H a = some (.dK kvs) ∧ Paired (Dq fr H n) (kvs.map (·.2)) ds)
theorem paired_imp {α β : Type} {F G : α → β → Prop} (h : ∀ x y, F x y → G x y) : ∀ {xs : List α} {ys : List β}, Paired F xs ys → Paired G xs ys
  | _, _, .nil => .nil
  | _, _, .cons a r => .cons (h _ _ a) (paired_imp h r)
theorem Dq.imp {fr fr' : Addr → Prop} {H H' : Hp} (hf : ∀ a, fr a → fr' a) (hk : ∀ a o, fr a → H a = some o → H' a = some o) : ∀ (n : Nat) {v : V} {d : PyData}, Dq fr H n v d → Dq fr' H' n v d
  | 0, _, _, h => h
  | n + 1, _, _, h => by
    rcases h with h | ⟨a, xs, ds, e1, e2, f, e, p⟩ | ⟨a, xs, ds, e1, e2, f, e, p⟩ | ⟨a, kvs, ds, e1, e2, f, e, p⟩
    · exact .inl h
    · exact .inr (.inl ⟨a, xs, ds, e1, e2, hf a f, hk a _ f e, paired_imp (fun _ _ => Dq.imp hf hk n) p⟩)
    · exact .inr (.inr (.inl ⟨a, xs, ds, e1, e2, hf a f, hk a _ f e, paired_imp (fun _ _ => Dq.imp hf hk n) p⟩))
    · exact .inr (.inr (.inr ⟨a, kvs, ds, e1, e2, hf a f, hk a _ f e, paired_imp (fun _ _ => Dq.imp hf hk n) p⟩))
theorem Dq.flat {fr : Addr → Prop} {H : Hp} {v : V} {d : PyData} (h : FlatD v d) : ∀ n, Dq fr H n v d
  | 0 => h
  | _ + 1 => .inl h
theorem Dq.up {fr : Addr → Prop} {H : Hp} : ∀ (n : Nat) {v : V} {d : PyData}, Dq fr H n v d → Dq fr H (n + 1) v d
  | 0, _, _, h => .inl h
  | n + 1, _, _, h => by
    rcases h with h | ⟨a, xs, ds, e1, e2, f, e, p⟩ | ⟨a, xs, ds, e1, e2, f, e, p⟩ | ⟨a, kvs, ds, e1, e2, f, e, p⟩
    · exact .inl h
    · exact .inr (.inl ⟨a, xs, ds, e1, e2, f, e, paired_imp (fun _ _ => Dq.up n) p⟩)
    · exact .inr (.inr (.inl ⟨a, xs, ds, e1, e2, f, e, paired_imp (fun _ _ => Dq.up n) p⟩))
    · exact .inr (.inr (.inr ⟨a, kvs, ds, e1, e2, f, e, paired_imp (fun _ _ => Dq.up n) p⟩))
/-- the kind of a value that is data -/
inductive AnyV (H : Hp) : V → String → Prop
  | non : AnyV H .non "NoneType"
  | bl (b : Bool) : AnyV H (.bl b) "bool"
  | int (i : Int) : AnyV H (.int i) "int"
  | str (x : Str) : AnyV H (.str x) "str"
  | lst {a : Addr} {xs : List V} (e : H a = some (.lst xs)) : AnyV H (.ref a) "list"
  | tup {a : Addr} {xs : List V} (e : H a = some (.tup xs)) : AnyV H (.ref a) "tuple"
  | dct {a : Addr} {kvs : List (Key × V)} (e : H a = some (.dK kvs)) : AnyV H (.ref a) "dict"
theorem AnyV.ty {K : PySem.W.Frag} {H : Hp} {v : V} {t : String} (h : AnyV H v t) : TyX K H v (.type t) ∧ t ∈ kinds := by
  cases h with
  | non => exact ⟨.base .non, by decide⟩
  | bl b => exact ⟨.base (.bl b), by decide⟩
  | int i => exact ⟨.base (.int i), by decide⟩
  | str x => exact ⟨.base (.str x), by decide⟩
  | lst e => exact ⟨.base (.lst e), by decide⟩
  | tup e => exact ⟨.base (.tup e), by decide⟩
  | dct e => exact ⟨.base (.dK e), by decide⟩
theorem FlatD.any {H : Hp} : ∀ {v : V} {d : PyData}, FlatD v d → ∃ t, AnyV H v t
  | .non, _, _ => ⟨_, .non⟩
  | .bl b, _, _ => ⟨_, .bl b⟩
  | .int i, _, _ => ⟨_, .int i⟩
  | .str x, _, _ => ⟨_, .str x⟩
theorem Dq.any {fr : Addr → Prop} {H : Hp} : ∀ {n : Nat} {v : V} {d : PyData}, Dq fr H n v d → ∃ t, AnyV H v t
  | 0, _, _, h => FlatD.any h
  | n + 1, _, _, h => by
    rcases h with h | ⟨a, xs, ds, rfl, _, _, e, _⟩ | ⟨a, xs, ds, rfl, _, _, e, _⟩ | ⟨a, kvs, ds, rfl, _, _, e, _⟩
    · exact FlatD.any h
    · exact ⟨_, .lst e⟩
    · exact ⟨_, .tup e⟩
    · exact ⟨_, .dct e⟩
/-! ### as the heap reads it -/
section
variable {X : Cx} {pins : List (Addr × Obj)} {σ : L2.St} {H : Hp} {s : Shared} {fr : Addr → Prop}
theorem flat_reads : ∀ {v : V} {d : PyData} {u : Value}, FlatD v d → RelV v u → Reads s.heap u d []
  | .non, _, _, rfl, rfl => .none
  | .bl b, _, _, rfl, rfl => .bool b
  | .int i, _, _, rfl, ⟨t, rfl⟩ => .int i t
  | .str x, _, _, rfl, ⟨t, rfl⟩ => .str x t
theorem pairs_keys {P : Program} {w : World} : ∀ {es : List DictEntry} {kvs : List (Key × Value)}, Pairs (mixKind P w) es kvs →
    ReadsAll s.heap (es.map (·.key)) (kvs.map fun p => keyD p.1) [] ∧ es.map (·.val) = kvs.map (·.2)
  | _, _, .nil => ⟨.nil, rfl⟩
  | _, _, .cons (e := e) (kv := kv) h1 h2 r => by
    obtain ⟨i1, i2⟩ := pairs_keys (P := P) (w := w) r
    refine ⟨?_, ?_⟩
    · rw [List.map_cons, List.map_cons]
      have z : Reads s.heap e.key (keyD kv.1) [] := by
        rcases keyIs_shape h1 with ⟨i, t, e1, e2⟩ | ⟨x, t, e1, e2⟩
        · rw [e1, e2]
          exact .int i t
        · rw [e1, e2]
          exact .str x t
      exact ReadsAll.cons z i1
    · rw [List.map_cons, List.map_cons, h2, i2]
theorem kv_keys : ∀ {kvs : List (Key × V)} {ws : List (Key × Value)}, KV kvs ws → (ws.map fun p => keyD p.1) = (kvs.map fun p => keyD p.1) ∧ Vals (kvs.map (·.2)) (ws.map (·.2))
  | _, _, .nil => ⟨rfl, .nil⟩
  | _, _, .cons ⟨a, b⟩ r => by
    obtain ⟨i1, i2⟩ := kv_keys r
    refine ⟨?_, .cons b i2⟩
    rw [List.map_cons, List.map_cons, i1, a]
theorem paired_len {α β : Type} {F : α → β → Prop} : ∀ {xs : List α} {ys : List β}, Paired F xs ys → xs.length = ys.length
  | _, _, .nil => rfl
  | _, _, .cons _ r => congrArg (· + 1) (paired_len r)
theorem Dq.reads (I : L2.Inv X pins σ H s) (hfr : ∀ a, fr a → (a == sysModules) = false) : ∀ (n : Nat) {v : V} {d : PyData} {u : Value}, Dq fr H n v d → RelV v u → ∃ as, Reads s.heap u d as ∧ sysModules ∉ as := by
  intro n
  induction n with
  | zero => exact fun h r => ⟨[], flat_reads h r, by simp⟩
  | succ n ih =>
    have all : ∀ {xs : List V} {ds : List PyData} {us : List Value}, Paired (Dq fr H n) xs ds → Vals xs us → ∃ as, ReadsAll s.heap us ds as ∧ sysModules ∉ as := by
      intro xs ds us p
      induction p generalizing us with
      | nil =>
        intro r
        cases r
        exact ⟨[], .nil, by simp⟩
      | cons a _ ih2 =>
        intro r
        cases r with
        | cons r1 r2 =>
          obtain ⟨as, h1, n1⟩ := ih a r1
          obtain ⟨bs, h2, n2⟩ := ih2 r2
          exact ⟨_, ReadsAll.cons h1 h2, fun z => (List.mem_append.mp z).elim n1 n2⟩
    intro v d u h r
    rcases h with h | ⟨a, xs, ds, rfl, rfl, f, e, p⟩ | ⟨a, xs, ds, rfl, rfl, f, e, p⟩ | ⟨a, kvs, ds, rfl, rfl, f, e, p⟩
    · exact ⟨[], flat_reads h r, by simp⟩
    · obtain rfl : u = Value.ref a := r
      obtain ⟨its, rv, ⟨o, k, ho, hc, _, hd⟩, _⟩ := I.list (SqL.of e)
      obtain ⟨as, hr, hn⟩ := all p rv
      refine ⟨_, Reads.list ho hc hd hr, fun z => ?_⟩
      rcases List.mem_cons.mp z with q | q
      · have y := hfr a f
        rw [← q] at y
        simp at y
      · exact hn q
    · obtain rfl : u = Value.ref a := r
      obtain ⟨_, its, rv, o, ho, hc, k, hd⟩ := (show ObjOk X.prog X.w H s.heap a (.tup xs) from I.hok a _ e)
      obtain ⟨as, hr, hn⟩ := all p rv
      exact ⟨_, Reads.tuple ho hc hd hr, hn⟩
    · obtain rfl : u = Value.ref a := r
      obtain ⟨_, low, ws, hkv, o, es, ep, ho, hx, hd, _, hp, _⟩ := (show ObjOk X.prog X.w H s.heap a (.dK kvs) from I.hok a _ e)
      obtain ⟨k1, k2⟩ := kv_keys hkv
      obtain ⟨p1, p2⟩ := pairs_keys (s := s) hp
      obtain ⟨as, hr, hn⟩ := all p k2
      rw [k1] at p1
      rw [← p2] at hr
      have l1 : (kvs.map fun q => keyD q.1).length = ds.length := by
        rw [List.length_map, ← paired_len p, List.length_map]
      refine ⟨_, Reads.dict (as := []) (bs := as) ho hx.1 hd ?_ ?_, fun z => ?_⟩
      · rw [List.map_fst_zip (Nat.le_of_eq l1)]
        exact p1
      · rw [List.map_snd_zip (Nat.le_of_eq l1.symm)]
        exact hr
      · rcases List.mem_cons.mp z with q | q
        · rw [← q] at low
          simp at low
        · exact hn q
end
end Ask

set_option Elab.async false
set_option linter.all false
set_option maxRecDepth 100000
set_option maxHeartbeats 2000000
/-! the text of data with dicts in it; the law's own def where sys.modules is known to stand apart -/
namespace Ask
open PySem PySem.Spec L2
open PyProof.Rows
/-- data that can be shown, nested at most n deep, its text of at most L signs -/
structure Sh (n L : Nat) (d : PyData) : Prop where
  can : d.showable = true
  dep : d.depth ≤ n
  len : d.shown.length ≤ L
theorem Sh.up {n m L M : Nat} {d : PyData} (h : Sh n L d) (a : n ≤ m) (b : L ≤ M) : Sh m M d := ⟨h.can, Nat.le_trans h.dep a, Nat.le_trans h.len b⟩
theorem sh_list {n k L : Nat} {ds : List PyData} (h : ∀ d ∈ ds, Sh n L d) (hk : ds.length ≤ k) : Sh (n + 1) (L * k + 2 * k + 3) (.list ds) where
  can := by
    unfold PyData.showable
    exact showAll ds fun d hx => (h d hx).can
  dep := by
    have z := depAll ds fun d hx => (h d hx).dep
    unfold PyData.depth
    omega
  len := by
    have z := lenAll ds fun d hx => (h d hx).len
    have y := listText_len_le (PyData.shownAll ds)
    have m : L * ds.length ≤ L * k := Nat.mul_le_mul_left L hk
    unfold PyData.shown
    omega
theorem sh_tup {n k L : Nat} {ds : List PyData} (h : ∀ d ∈ ds, Sh n L d) (hk : ds.length ≤ k) : Sh (n + 1) (L * k + 2 * k + 3) (.tuple ds) where
  can := by
    unfold PyData.showable
    exact showAll ds fun d hx => (h d hx).can
  dep := by
    have z := depAll ds fun d hx => (h d hx).dep
    unfold PyData.depth
    omega
  len := by
    have z := lenAll ds fun d hx => (h d hx).len
    have y := tupleText_len_le (PyData.shownAll ds)
    have m : L * ds.length ≤ L * k := Nat.mul_le_mul_left L hk
    unfold PyData.shown
    omega
theorem kvAll {n L : Nat} : ∀ kvs : List (PyData × PyData), (∀ p ∈ kvs, Sh n L p.1 ∧ Sh n L p.2) → PyData.showableKv kvs = true ∧ PyData.depthKv kvs ≤ n ∧
    ((PyData.shownKv kvs).map (·.length)).sum ≤ (2 * L + 2) * kvs.length ∧ (PyData.shownKv kvs).length = kvs.length
  | [], _ => by
    unfold PyData.showableKv PyData.depthKv PyData.shownKv
    exact ⟨rfl, Nat.zero_le _, Nat.zero_le _, rfl⟩
  | (a, b) :: r, h => by
    obtain ⟨ha, hb⟩ := h (a, b) List.mem_cons_self
    obtain ⟨i1, i2, i3, i4⟩ := kvAll r fun p hp => h p (List.mem_cons_of_mem _ hp)
    have e : (a.shown ++ ": " ++ b.shown).length = a.shown.length + 2 + b.shown.length := by
      rw [strLen_append, strLen_append]
      rfl
    have la : a.shown.length ≤ L := ha.len
    have lb : b.shown.length ≤ L := hb.len
    have da : a.depth ≤ n := ha.dep
    have db : b.depth ≤ n := hb.dep
    unfold PyData.showableKv PyData.depthKv PyData.shownKv
    refine ⟨?_, ?_, ?_, ?_⟩
    · rw [ha.can, hb.can, i1]
      rfl
    · omega
    · rw [List.map_cons, List.sum_cons, List.length_cons, Nat.mul_succ]
      omega
    · rw [List.length_cons, List.length_cons, i4]
theorem sh_dict {n k L : Nat} {kvs : List (PyData × PyData)} (h : ∀ p ∈ kvs, Sh n L p.1 ∧ Sh n L p.2) (hk : kvs.length ≤ k) : Sh (n + 1) ((2 * L + 2) * k + 2 * k + 3) (.dict kvs) := by
  obtain ⟨i1, i2, i3, i4⟩ := kvAll kvs h
  refine ⟨?_, ?_, ?_⟩
  · unfold PyData.showable
    exact i1
  · unfold PyData.depth
    omega
  · have y := dictText_len_le (PyData.shownKv kvs)
    have m : (2 * L + 2) * kvs.length ≤ (2 * L + 2) * k := Nat.mul_le_mul_left _ hk
    unfold PyData.shown
    omega
theorem sh_int {i : Int} (h : i.natAbs < 10 ^ 12) : Sh 0 13 (.int i) := ⟨(shows_int h).can, by unfold PyData.depth; omega, (shows_int h).len⟩
theorem sh_none : Sh 0 4 .none := ⟨rfl, by unfold PyData.depth; omega, by decide +kernel⟩
theorem sh_bool (b : Bool) : Sh 0 5 (.bool b) := ⟨rfl, by unfold PyData.depth; omega, by cases b <;> decide +kernel⟩
theorem sh_str {x : Str} {L : Nat} (h : (PyData.str x).shown.length ≤ L) : Sh 0 L (.str x) := ⟨rfl, by unfold PyData.depth; omega, h⟩
/-- repr(x), x any data -/
def rReprD (K : PySem.W.Frag) : List V → Hp → VK → Prop := fun xs H Q =>
  ∃ (fr : Addr → Prop) (n : Nat) (v : V) (d : PyData), xs = [v] ∧ (∀ a, fr a → (a == sysModules) = false) ∧ Dq fr H n v d ∧ Sh 60 sizeLine d ∧ Q (.str d.shown) H
theorem cr_reprD {X : Cx} (hg : X.A.guards = some []) (hu : X.A.units + 64 < cLine) :
    CallR X (.builtin "repr") (rReprD X.K) := by
  intro pins s σ H xs us Q I r h
  obtain ⟨fr, n, v, d, rfl, hfr, hd, hs, q⟩ := h
  obtain ⟨u, rfl, rx⟩ := vals1 r
  obtain ⟨as, rd, hn⟩ := Dq.reads I hfr n hd rx
  have flat : ∀ {v : V} {d : PyData} {u : Value}, FlatD v d → RelV v u → Sh 60 sizeLine d → Q (.str d.shown) H → wpAny (model X.prog X.w) X.A (call (.builtin "repr") [u]) (EP X pins σ Q) X.xe s := by
    intro v d u hf rx hs q
    cases v with
    | non =>
      cases rx
      cases hf
      exact P.repr_of_none ⟨.str _, H, I.tok _, ⟨_, rfl⟩, q⟩
    | bl b =>
      cases rx
      cases hf
      exact P.repr_of_bool ⟨.str _, H, I.tok _, ⟨_, rfl⟩, by cases b <;> exact q⟩
    | int i =>
      obtain ⟨t, rfl⟩ := rx
      cases hf
      have hz : i.natAbs.log2 < 1920 := by
        simpa [PyData.showable] using hs.can
      exact P.repr_of_int hz ⟨.str _, H, I.tok _, ⟨_, rfl⟩, q⟩
    | str x =>
      obtain ⟨t, rfl⟩ := rx
      cases hf
      exact P.repr_of_str ⟨.str _, H, I.tok _, ⟨_, rfl⟩, q⟩ hs.len
    | _ => exact hf.elim
  have dp := hs.dep
  have boxed : ∀ {a : Addr}, v = .ref a → wpAny (model X.prog X.w) X.A (call (.builtin "repr") [u]) (EP X pins σ Q) X.xe s := by
    intro a e
    subst e
    obtain rfl : u = Value.ref a := rx
    refine repr_of_reads' rd hs.can (fun _ => hn) hg (by omega) (fun _ _ e => e) (fun h' u tk hk => ?_) hs.len
    exact ⟨.str _, H, I.kept hk, ⟨_, rfl⟩, q⟩
  cases n with
  | zero => exact flat hd rx hs q
  | succ n =>
    rcases hd with h | ⟨a, xs, ds, e1, _⟩ | ⟨a, xs, ds, e1, _⟩ | ⟨a, kvs, ds, e1, _⟩
    · exact flat h rx hs q
    · exact boxed e1
    · exact boxed e1
    · exact boxed e1
/-! ### the law, sys.modules apart -/
/-- sys.modules stands, and is never one of ours -/
def Sys (H : Hp) : Prop := ∃ o u, H sysModules = some (.frz o u)
theorem Sys.ne {H : Hp} {a : Addr} (h : Sys H) (e : H a = none) : (a == sysModules) = false := by
  obtain ⟨o, u, h⟩ := h
  exact beq_eq_false_iff_ne.mpr fun z => by rw [z, h] at e; cases e
theorem Sys.same {H H' : Hp} (h : Sys H) (s : Same H H') : Sys H' := by
  obtain ⟨o, u, h⟩ := h
  exact ⟨o, u, s _ _ h⟩
theorem Sys.but {H H' : Hp} {p : Addr} {n : Nat} (h : Sys H) (s : But p H H') (hp : Pen H p n) : Sys H' := by
  obtain ⟨o, u, h⟩ := h
  exact ⟨o, u, s _ _ (hp.ne h fun _ _ _ z => by cases z) h⟩
theorem Sys.new {H : Hp} {q : Addr} {o : HO} (h : Sys H) (e : H q = none) : Sys (upd H q o) := h.same (Same.new e)
def seenS (K : PySem.W.Frag) (o1 : Obj) (a : Addr) (vs : List Value) (ns : List Int) : Hp := fun b =>
  if b = sysModules then some (.frz o1 (.own 0)) else seen K a vs ns b
/-- what a law promises: True, whatever the script -/
def spLawS (K : PySem.W.Frag) : Sp := fun vs H Q _ => ∃ (s : Addr) (ns : List Int), vs = [.ref s] ∧
  SqL K H s (ns.map V.int) ∧ ns.length ≤ 63 ∧ Sys H ∧ ∀ H', Q (.bl true) H'
theorem law_goS {P : Program} {w : World} {K : PySem.W.Frag} {mg mb ms : Str → Option Value} {k : Nat}
    {fa a : Addr} {fd : FuncData} {x : Str} {sp : Sp} {s₁ : Shared} {vs : List Value} {ns : List Int}
    (KX : K.In s₁.heap) (hK1 : K.lookup sysModules = none) (hsm : s₁.heap.Ns sysModules ms) (hns : s₁.heap.Ns mainGlobals mg) (hb : s₁.heap.Ns builtinsNs mb)
    (hbb : ∀ x : Str, x ≠ "__name__" → mb x = bootBuiltins x) (hlim : s₁.heap.NoLimit) (hg : s₁.gens = #[])
    (ha : s₁.heap.get? a = some { cls := .type "list", data := .seq vs.toArray }) (hi : IntsAre vs ns)
    (hl : ns.length ≤ sizeLine) (hr : Room k callerA)
    (F : ∀ base : Heap, K.In base → base.Ns mainGlobals mg → GOk P w K mg base CX0 k fa fd [x] sp)
    (hbind : ∀ (s : Shared) (u : Value), BindsTo s fd ⟨[u], []⟩ [(x, u)])
    (hsp : ∀ H : Hp, Sys H → SqL K H a (ns.map V.int) → sp [.ref a] H (fun v _ => v = .bl true) fun _ _ _ => False) :
    codeAny (model P w) callerA (.call (.ref fa) ⟨[.ref a], []⟩)
      (fun r s' => r = .ok (.ret (.bool true)) ∧ OldK s₁.heap s'.heap ∧ s'.os = s₁.os ∧ AllBare s'.gens) s₁ := by
  have rv := vals_ints hi
  have lenV := hi.length
  obtain ⟨o1, es1, ep1, h1, d1, _⟩ := hsm
  have a1 : a ≠ sysModules := fun z => by
    rw [z, h1] at ha
    have y := Option.some.inj ha
    rw [y] at d1
    cases (show Data.seq vs.toArray _ = Data.dict es1 ep1 from d1)
  -- what is tracked
  have hA : ∀ b u, seenS K o1 a vs ns b = some u → (b = sysModules ∧ u = .frz o1 (.own 0)) ∨ (b = a ∧ K.lookup a = none ∧ u = .frz { cls := .type "list", data := .seq vs.toArray } (.lst (ns.map V.int))) := by
    intro b u e
    unfold seenS at e
    by_cases hb1 : b = sysModules
    · rw [if_pos hb1] at e
      exact .inl ⟨hb1, (Option.some.inj e).symm⟩
    · rw [if_neg hb1] at e
      refine .inr ?_
      unfold seen at e
      cases q : K.lookup a with
      | some o =>
        rw [q] at e
        cases e
      | none =>
        rw [q] at e
        by_cases hba : b = a
        · exact ⟨hba, rfl, (Option.some.inj ((if_pos hba).symm.trans e)).symm⟩
        · cases (if_neg hba).symm.trans e
  have hT : ∀ b u, seenS K o1 a vs ns b = some u → ∃ o v, u = .frz o v ∧ s₁.heap.get? b = some o ∧ K.lookup b = none := by
    intro b u e
    rcases hA b u e with ⟨rfl, rfl⟩ | ⟨rfl, z, rfl⟩
    · exact ⟨_, _, rfl, h1, hK1⟩
    · exact ⟨_, _, rfl, ha, z⟩
  have hS : SqL K (seenS K o1 a vs ns) a (ns.map V.int) := by
    cases q : K.lookup a with
    | some o =>
      have e := KX a o q
      rw [ha] at e
      cases e
      exact Or.inr ⟨_, vs.toArray, _, q, rfl, rfl, rfl, by rw [List.size_toArray, lenV]; exact hl, by simpa using rv⟩
    | none =>
      refine Or.inl (Or.inr ⟨{ cls := .type "list", data := .seq vs.toArray }, ?_⟩)
      unfold seenS seen
      rw [if_neg a1, q]
      exact if_pos rfl
  have hok : HOk P w (seenS K o1 a vs ns) s₁.heap := fun b u e => by
    rcases hA b u e with ⟨rfl, rfl⟩ | ⟨rfl, _, rfl⟩
    · exact ⟨h1, o1, h1⟩
    · exact ⟨ha, by rw [List.length_map]; exact hl, vs, _, rv, ha⟩
  have nsH : ∀ {b : Addr} {m : Str → Option Value}, b ≠ sysModules → s₁.heap.Ns b m → (hidT s₁.heap (seenS K o1 a vs ns)).Ns b m := by
    intro b m hb1 ⟨o, es, ep, e, d, r⟩
    refine ⟨o, es, ep, hidT_get e ?_, d, r⟩
    cases q : seenS K o1 a vs ns b with
    | none => rfl
    | some u =>
      rcases hA b u q with ⟨z, _⟩ | ⟨rfl, _, _⟩
      · exact absurd z hb1
      · rw [ha] at e
        cases e
        cases (show Data.seq vs.toArray _ = Data.dict es ep from d)
  have kH : K.In (hidT s₁.heap (seenS K o1 a vs ns)) := by
    intro b o e
    refine hidT_get (KX b o e) ?_
    cases q : seenS K o1 a vs ns b with
    | none => rfl
    | some u =>
      obtain ⟨_, _, _, _, z⟩ := hT b u q
      rw [z] at e
      cases e
  have limH : (hidT s₁.heap (seenS K o1 a vs ns)).NoLimit := by
    obtain ⟨mc, l1, l2⟩ := hlim
    exact ⟨mc, nsH (by decide) l1, l2⟩
  have e0 : Env0 P w K mg (hidT s₁.heap (seenS K o1 a vs ns)) callerA [] s₁ (seenS K o1 a vs ns) := {
    frames := rfl
    mod := ⟨kH, nsH (by decide) hns, ⟨mb, nsH (by decide) hb, hbb⟩, limH⟩
    bs := fun b o e => of_hidT e
    bsz := Nat.le_of_eq (hidT_size _ _)
    funs := trivial
    frf := fun b hb => absurd (show b ∈ ([] : List Addr) from hb) (by simp)
    hok := hok
    bare := .of_eq hg }
  have sys : Sys (seenS K o1 a vs ns) := ⟨o1, .own 0, if_pos rfl⟩
  have run := (F _ kH (nsH (by decide) hns)).run callerA [] s₁ (seenS K o1 a vs ns) ⟨[.ref a], []⟩ [.ref a] [.ref a]
    _ _ hr rfl e0 (hbind s₁ (.ref a)) (.cons rfl .nil) (hsp _ sys hS)
  refine codeAny_mono run fun r s' h => ?_
  cases r with
  | error e => exact False.elim h
  | ok fl =>
    cases fl with
    | next => exact False.elim h
    | brk => exact False.elim h
    | cont => exact False.elim h
    | ret u =>
      obtain ⟨v, H', os, bare, un, hok', r', q⟩ := h
      obtain rfl : v = V.bl true := q
      obtain rfl : u = Value.bool true := r'
      refine ⟨rfl, OldK.of_keep fun b o e => ?_, os, bare⟩
      cases q : seenS K o1 a vs ns b with
      | none => exact un.keep b o e q (fun z => nomatch z) (fun z => nomatch z)
      | some u =>
        obtain ⟨o2, u2, rfl, g2, _⟩ := hT b u q
        obtain ⟨g3, _⟩ := hok' b _ (un.frzs b _ _ q)
        rw [e] at g2
        cases g2
        exact g3
/-- the goal that the head leaves, from such a def -/
theorem walk_lawS {l : PySem.W.OpenLaw} {k : Nat} {q : Program} {loose : List Str}
    {XP : (Str → Option Value) → Heap → Prop} {YP : World → Heap → Prop} {d : DefRec}
    {K : Params → PySem.W.Frag} (hn : l.most = some 63) (hdf : d.params.defaults = []) (hr : Room k callerA)
    (hq : importsNone q = true) (hK1 : ∀ w : World, (K w.params).lookup sysModules = none)
    (hY : ∀ (w : World) (h : Heap), YP w h → (K w.params).In h)
    (F : ∀ (w : World) (mg : Str → Option Value) (fa : Addr) (h : Heap), (K w.params).In h →
      h.Ns mainGlobals mg → mg d.name = some (.ref fa) →
      ∃ fd : FuncData, (∀ (s : Shared) (u : Value), BindsTo s fd ⟨[u], []⟩ [("script", u)]) ∧
        ∀ base : Heap, (K w.params).In base → base.Ns mainGlobals mg →
          GOk l.prog w (K w.params) mg base CX0 k fa fd ["script"] (spLawS (K w.params))) :
    PySem.W.WalkO q loose XP YP l.row.toRowW d [] (fun f vs => PySem.call f vs) := by
  refine Att.attach_call hn hdf ?_
  intro w s₀ s₁ mg mb fa o pm cd doc a vs ns G Y ho hd hcd hmg hobj hints hlen hg
  have KX := hY w _ Y
  obtain ⟨fd, hb, hF⟩ := F w mg fa _ KX G.T.g hmg
  obtain ⟨mm, hsm, _⟩ := (G.T.seer hq).mods
  exact law_goS KX (hK1 w) hsm G.T.g G.T.b G.T.builtins G.T.nolimit hg hobj hints (Nat.le_trans hlen (by decide)) hr hF hb
    fun H hO hS => ⟨a, ns, rfl, hS, hlen, hO, fun _ => rfl⟩
/-- xs[i] where the context is a comprehension's -/
theorem ix_listK {X : Cx} {K : PySem.W.Frag} (h : X.K = K) : IxR X (rIxL K) := by
  subst h
  exact ix_list
theorem dV_int (i j : Int) : decide (V.int i = V.int j) = decide (i = j) := by
  by_cases h : i = j
  · rw [decide_eq_true h, decide_eq_true (congrArg V.int h)]
  · rw [decide_eq_false h, decide_eq_false (fun q => h (V.int.inj q))]
theorem dV_str (i j : Str) : decide (V.str i = V.str j) = decide (i = j) := by
  by_cases h : i = j
  · rw [decide_eq_true h, decide_eq_true (congrArg V.str h)]
  · rw [decide_eq_false h, decide_eq_false (fun q => h (V.str.inj q))]
end Ask

set_option Elab.async false
set_option linter.all false
set_option maxRecDepth 100000
set_option maxHeartbeats 2000000
/-! an error of one field whose __init__ says super().__init__(f'..'), self.n = n -/
namespace Ask
open PySem PySem.Spec L2 PySem.W
open PyProof.Rows PySem.Calls
/-- what is told of the class at C, its __init__ at fI -/
structure ETxt (P : Program) (K : PySem.W.Frag) (C fI : Addr) (n qual : Str) (params : Arguments) (body : List Stmt) (scope : Scope) : Prop where
  cls : ∃ nm q N bs bm sn sub ab col dd k0 k1 k2 k3 k5,
    K.lookup C = some (excClassObj nm q C N bs bm true sn sub ab col dd k0 k1 k2 k3 k5 "ValueError.__new__") ∧ HandSPX.refsVE bm = true
  sa : findIn K (.ref C) "__setattr__" = some (some (.builtin "object.__setattr__"))
  noN : findIn K (.ref C) n = some none
  iC : findIn K (.ref C) "__init__" = some (some (.ref fI))
  tC : typeIn K (.ref fI) = some (.type "function")
  kC : keepIn K (.ref C) = true
  exC : subIn K (.ref C) (.type "BaseException") = some true
  veC : subIn K (.ref C) (.type "ValueError") = some true
  tyC : typeIn K (.ref C) = some (.type "type")
  up : ks_superIn K C C "__init__" = some (some (.builtin "ValueError.__init__"))
  me : mroIn K C (.ref C) = some true
  opq : nsIn K cStatics "thirdparty.any" = some none
  sup : nsIn K mainGlobals "super" = some none
  top : (P.main.scope.names.lookup ("super" : Str)).isSome = false
  fn : ∃ (oc : Value) (od : Option Addr) (doc pm : Value) (an : Option Addr) (ct : Value) (osl : Array (Option Value)) (cc cda : Addr)
    (cl : Value) (cld : Option Addr) (csl : Array (Option Value)) (ccl : Value) (cdd : Option Addr) (vs : Array Value) (ccs : Array (Option Value)) (file : Str) (tf : Tok),
    K.lookup fI = some ⟨oc, od, .func (fnX "__init__" qual params body scope [("__class__", cc)] .none .none doc pm an (.ref cda) ct), osl⟩ ∧
    codeIn K (.ref cda) qual = true ∧ K.lookup cc = some ⟨cl, cld, .cell (some (.ref C)), csl⟩ ∧ K.lookup cda = some ⟨ccl, cdd, .fields vs, ccs⟩ ∧
    vs[2]? = some (.str file tf) ∧ ((P.main.file : Str) == file) = true
/-- what the text of its __init__ must be -/
structure EText (n : Str) (params : Arguments) (body : List Stmt) (scope : Scope) (es : List Expr) (pj : Pos) : Prop where
  bd : ∃ p0 p1 p2 p4 p5 q0 q1 q2 q3, body = [.Expr (.Call (.Attribute (.Call (.Name "super" p0) [] [] p1) "__init__" p2) [.JoinedStr es pj] [] p4) p5, .Assign [.Attribute (.Name "self" q0) n q1] (.Name n q2) q3] ∧ (p2.endLine == p4.line) = true
  self : ∃ ar, (params.posonlyargs ++ params.args).head? = some ar ∧ ar.arg = "self"
  kind : scope.kind = .function
  co : scope.isCoroutine = false
  gen : scope.isGenerator = false
  cell : ∀ x ∈ scope.names, x.2 ≠ .cell
  lself : scope.names.lookup ("self" : Str) = some .local
  ln : scope.names.lookup n = some .local
  lcls : scope.names.lookup ("__class__" : Str) = some .free
  lsup : scope.names.lookup ("super" : Str) = some .globalImplicit
  ndb : (n == ("__debug__" : Str)) = false
  nself : n ≠ "self"
  bind : ∀ (q : Str) (cc : Addr) (doc pm : Value) (an : Option Addr) (cd ct u v : Value),
    bindArgs (fnX "__init__" q params body scope [("__class__", cc)] .none .none doc pm an cd ct) ⟨[u, v], []⟩ = pure [(("self" : Str), u), (n, v)]
  swap : ∀ (q0 q1 q2 q3 : Pos) (env : Env), swapsWith (.Name n q2) (some (.Attribute (.Name "self" q0) n q1)) q3.line env = pure false
theorem super_eq (p0 p1 p2 p4 pj : Pos) (es : List Expr) (env : Env) (hl : (p2.endLine == p4.line) = true) : eval (.Call (.Attribute (.Call (.Name "super" p0) [] [] p1) "__init__" p2) [.JoinedStr es pj] [] p4) env = (do
      let ov ← attributeBase (.Call (.Name "super" p0) [] [] p1) "__init__" env (eval (.Call (.Name "super" p0) [] [] p1) env)
      standAt p2.atName
      let (f, first) ← holding [ov] (getMethod ov "__init__" (do return (← importBound (.Call (.Name "super" p0) [] [] p1) env).getD true))
      callWith p4 f first (backTo p4 (starEach [.JoinedStr es pj] env)) []) := by
  rw [arm_eval_Call]
  have e : ∀ few o, methodCallPos few o env p2 p4 = pure p4 := by
    intro few o
    unfold methodCallPos
    rw [hl, Bool.or_true]
    rfl
  unfold methodCall
  simp only [e]
  rfl
/-- e is a text whatever the frame, read from n alone: nothing of the heap changes -/
def TextOf (P : Program) (w : World) (n : Str) (e : Expr) (v : Value) : Prop :=
  ∀ (A : Around) (env : Env) (m : Str → Option Value) (s : Shared) (Q : Value → Shared → Prop) (E : Value → Shared → Prop), s.heap.Ns env.locals m → m n = some v → env.scope.kind = .function → env.kindOf n = some .local →
    (∀ y t tk, Q (.str y t) { s with toks := tk }) → wpAny (model P w) A (eval e env) Q E s
/-- the parts of such a text -/
inductive Part (n : Str) : Expr → Prop
  | c {m : Str} {j : Nat} {p : Pos} (h : m.length ≤ 100000) : Part n (.Constant (.str m) j p)
  | f {p1 p2 : Pos} : Part n (.FormattedValue (.Name n p1) (-1) none p2)
def TxtV (v : Value) : Prop := (∃ y t, v = .str y t ∧ y.length ≤ 100000) ∨ ∃ i t, v = .int i t ∧ i.natAbs < 10 ^ 12
theorem text_parts {P : Program} {w : World} {n : Str} {v : Value} (hv : TxtV v) (nd : (n == ("__debug__" : Str)) = false) {v1 v2 : Expr} {rest : List Expr} {pos : Pos}
    (hp : ∀ e ∈ v1 :: v2 :: rest, Part n e) (hl : (v1 :: v2 :: rest).length ≤ 20) : TextOf P w n (.JoinedStr (v1 :: v2 :: rest) pos) v := by
  intro A env m s Q E hn hm hk hloc q
  have loop : ∀ (es : List Expr) (acc : Str) (s1 : Shared) (R : Str → Shared → Prop), (∀ e ∈ es, Part n e) → acc.length + 100000 * es.length ≤ 3000000 → s1.heap = s.heap → s1 = { s with toks := s1.toks } →
      (∀ out tk, out.length ≤ 3000000 → R out { s with toks := tk }) → Joins (model P w) A E (evalEach es env) acc R s1 := by
    intro es
    induction es with
    | nil =>
      intro acc s1 R _ hz _ e1 k
      have e0 : evalEach [] env = [] := by first | rfl | simp [evalEach]
      rw [e0, e1]
      exact k acc s1.toks (by simpa using hz)
    | cons e es ih =>
      intro acc s1 R hpe hz eh e1 k
      have e0 : evalEach (e :: es) env = eval e env :: evalEach es env := by first | rfl | simp [evalEach]
      rw [e0]
      rw [List.length_cons] at hz
      have more : ∀ (y : Str) (t : Tok) (tk : Nat), y.length ≤ 100000 → ∃ y' t', Value.str y t = .str y' t' ∧ (acc ++ y').length ≤ sizeLine ∧ Joins (model P w) A E (evalEach es env) (acc ++ y') R { s with toks := tk } := by
        intro y t tk hy
        have la : (acc ++ y).length = acc.length + y.length := strLen_append acc y
        refine ⟨y, t, rfl, ?_, ih (acc ++ y) _ R (fun x hx => hpe x (List.mem_cons_of_mem _ hx)) (by omega) rfl rfl k⟩
        rw [la]
        exact Nat.le_trans (show _ ≤ 3000000 by omega) (by decide)
      rcases hpe e List.mem_cons_self with ⟨hm'⟩ | _
      · rename_i m' j p
        refine wpAny_Constant_str ?_
        rw [e1]
        exact more _ _ _ hm'
      · refine wpAny_FormattedValue_plain (wpAny_Name (wpAny_loadName_local hk hloc (by rw [eh]; exact hn) hm ?_) nd)
        rcases hv with ⟨y, t, rfl, hy⟩ | ⟨i, t, rfl, hi⟩
        · refine wpAny_formatField_str ?_ ?_ (Nat.le_trans hy (by decide))
          · rw [e1]
            exact more _ _ _ hy
          · rw [e1]
            exact more _ _ _ hy
        · have h1 : i.natAbs.log2 < 1920 := Nat.lt_of_lt_of_le (PySem.Flt.log2_lt_of (by decide : 0 < 40) (Nat.lt_of_lt_of_le hi (by decide))) (by decide)
          refine wpAny_formatField_int h1 ?_
          rw [e1]
          refine more _ _ _ (Nat.le_trans (?_ : _ ≤ 13) (by decide))
          exact PyData.shown_int_le hi
  refine wpAny_JoinedStr (loop _ Str.empty s _ hp ?_ rfl rfl fun out tk hz => ⟨Nat.le_trans hz (by decide), q _ _ _⟩)
  show 0 + 100000 * _ ≤ _
  omega
/-- what __init__ leaves of a fresh error at x -/
structure InitAt (h h' : Heap) (x C dx : Addr) (n : Str) (v : Value) : Prop where
  keep : ∀ b o, b ≠ x → h.get? b = some o → h'.get? b = some o
  obj : ∃ t1, h'.get? x = some { cls := .ref C, dict := some dx, data := .fields #[.ref t1, .none, .none, .none, .bool false, .none] }
  big : h.objs.size ≤ dx
  ne : dx ≠ x
  ns : h'.Ns1 dx (fun y => if y = n then some v else none)
/-- ValueError.__init__ bound to x, called -/
theorem call_mw {P : Program} {w : World} {A : Around} {E : Value → Shared → Prop} {Q : Value → Shared → Prop} {h : Heap} {g : Array GenState} {d : Drawn} {t : Nat} {os : OsState}
    {nm q : Str} {C N u x t0 : Addr} {bs bm : List Value} {sn : List Str} {sub : List Value} {ab : Bool} {col : Option Bool} {dd : Option Addr} {k0 k1 k2 k3 k5 : Option Value} {rest : List Value}
    (hC : h.get? C = some (excClassObj nm q C N bs bm true sn sub ab col dd k0 k1 k2 k3 k5 "ValueError.__new__")) (hx : h.get? x = some (HandSPX.excO C t0))
    (hu : h.get? u = some (kxs_mw "ValueError.__init__" x)) (hz : rest.length ≤ sizeLine)
    (k : ∀ h' t1, (∀ b o, b ≠ x → h.get? b = some o → h'.get? b = some o) → h'.get? x = some (HandSPX.excO C t1) → Q .none ⟨h', g, d, t, os⟩) :
    wpAny (model P w) A (call (.ref u) rest) Q E ⟨h, g, d, t, os⟩ := by
  have FB := PySem.F.excBase_ValueError
  refine wpAny_call (codeAny_of_tree ?_)
  show wpAny _ A.in1 (callAny (.ref u) ⟨rest, []⟩) _ _ _
  unfold callAny
  refine wpAny_bind (wpAny_load hu ?_)
  have c1 : (Value.type "method-wrapper" == Value.type "method" || Value.type "method-wrapper" == Value.type "builtin_function_or_method"
      || Value.type "method-wrapper" == Value.type "method-wrapper") = true := by decide
  simp only [kxs_mw, c1, if_true]
  refine KFB.if_so (by decide) ?_
  refine wpAny_bind (check_bound_init FB.toExcCallFacts hC hx rfl ?_)
  refine wpAny_bind (wpAny_pure (wpAny_pure ⟨plainId_quiet FB.init.plain _, codeAny_builtin FB.initEntry ?_⟩))
  exact exc_init_tree (cls := .ref C) (t0 := t0) (dv := none) (c2 := .none) (c3 := .none) (b4 := .bool false) hx hz fun h' k' e' _ => k h' _ k' e'
section
variable {P : Program} {w : World} {A : Around} {R : Result → Shared → Prop} {s : Shared} {K : PySem.W.Frag} {mg mb : Str → Option Value} {C fI x t0 : Addr} {n qual : Str} {params : Arguments} {body : List Stmt} {scope : Scope} {es : List Expr} {pj : Pos} {v : Value}
theorem init_sup (T : ETxt P K C fI n qual params body scope) (S : EText n params body scope es pj) (te : TextOf P w n (.JoinedStr es pj) v) (X : K.In s.heap) (hg : s.heap.Ns mainGlobals mg) (hbt : s.heap.Ns builtinsNs mb)
    (hbb : ∀ x : Str, x ≠ "__name__" → mb x = bootBuiltins x) (hlim : s.heap.NoLimit) (hx : s.heap.get? x = some (HandSPX.excO C t0)) (hnx : K.lookup x = none) (hroom : A.depth < recursionLimit)
    (hq : ∀ h' tk dx, InitAt s.heap h' x C dx n v → R (.ok (.ret .none)) { s with heap := h', toks := tk }) :
    codeAny (model P w) A (.call (.ref fI) ⟨[.ref x, v], []⟩) R s := by
  obtain ⟨oc, od, doc, pm, an, ct, osl, cc, cda, cl, cld, csl, ccl, cdd, vs, ccs, file, tf, hf, hcd, hcc, hcda, hvs, hfile⟩ := T.fn
  obtain ⟨nm, q, N, bs, bm, sn, sub, ab, col, dd, k0, k1, k2, k3, k5, hC, hbm⟩ := T.cls
  obtain ⟨p0, p1, p2, p4, p5, q0, q1, q2, q3, hbd, hline⟩ := S.bd
  obtain ⟨ar, har, hself⟩ := S.self
  have hcl : clsIn K C = some { name := nm, bases := bs, mro := .ref C :: bm, ns := N, qualname := q, hasDict := true, slotNames := sn, subclasses := sub, abstract := ab, collection := col, hasDel := false } := by
    unfold clsIn
    rw [hC]
  have hxC : x ≠ C := by
    intro z
    rw [z, X _ _ hC] at hx
    cases hx
  refine ks_codeAny_call_defAt (binds := [(("self" : Str), .ref x), (n, v)]) hroom (X _ _ hf) rfl hlim (codeRec_of X hcd) rfl (BindsTo.of_eq (S.bind _ _ _ _ _ _ _ _ _)) S.cell ?_ (fun h₁ hn k => ?_) S.co S.gen S.kind
  · intro y hy
    simp only [List.mem_cons, List.not_mem_nil, or_false] at hy
    rcases hy with rfl | rfl
    · exact S.lself
    · exact S.ln
  have X1 : K.In h₁ := X.keeps k
  have hx1 := k _ _ hx
  have lself : ([(("self" : Str), Value.ref x), (n, v)].reverse.lookup ("self" : Str)) = some (.ref x) := by
    have z : ((("self" : Str)) == n) = false := by simpa using (Ne.symm S.nself)
    simp [List.lookup, z]
  have ln : ([(("self" : Str), Value.ref x), (n, v)].reverse.lookup n) = some v := by
    simp [List.lookup]
  subst hbd
  have hin : ∀ (fd : FuncData) (L b : Addr), fd.scope = scope → interactive (callEnv fd L b) = false := by
    intro fd L b e
    unfold interactive
    have z : (callEnv fd L b).scope.kind = .function := by
      show fd.scope.kind = .function
      rw [e, S.kind]
    rw [z]
    rfl
  refine ks_wpAt_execs_cons ?_
  refine ks_wpAt_Expr_any (hi := hin _ _ _ rfl) ?_
  refine ks_wpAt_MethodCall (he := super_eq _ _ _ _ _ _ _ hline) ?_
  refine ks_wpAt_mono (Q := fun so s2 => so = .ref h₁.objs.size ∧ ∃ h2, s2 = { s with heap := h2, toks := s.toks + 2 } ∧ h2.get? h₁.objs.size = some (ks_superObj C x C) ∧ ∀ y o, h₁.get? y = some o → h2.get? y = some o)
    (ks_wpAt_super_base (ar := ar) S.lsup S.lcls (by decide +kernel) rfl (X1 _ _ hf) rfl har rfl (X1 _ _ hcda) rfl hvs hfile T.top ?_) ?_ (fun _ _ z => z)
  · -- super()
    refine ks_loadName_global S.kind S.lsup (loadGlobal_builtin (hg.keeps k) (mg_none_of X hg T.sup) (hbt.keeps k) ((hbb _ (by decide +kernel)).trans (by rfl)) ⟨rfl, ?_⟩)
    refine wpAny_loadName_free S.kind S.lcls rfl ⟨_, X1 _ _ hcc, rfl⟩ ?_
    rw [hself]
    refine wpAny_loadName_local S.kind S.lself hn lself ?_
    refine ks_wpAny_isType_cls (X1 _ _ hC) rfl ⟨rfl, ?_⟩
    refine ks_wpAny_call_super (X1 _ _ hC) rfl hx1 rfl (fun c z => by cases z) (looks_mroIn X1 T.me) (fun h2 z k2 => ?_)
    exact ⟨rfl, h2, rfl, z, k2⟩
  · rintro so s2 ⟨rfl, h2, rfl, hso, k2⟩
    have X2 := X1.keeps k2
    have hx2 := k2 _ _ hx1
    have J : InstAt h2 x (HandSPX.excO C t0) C none := ⟨hx2, rfl, rfl, trivial⟩
    have hup : alongIn K "__init__" (((Value.ref C :: bm).dropWhile (· != .ref C)).drop 1) = some (some (.builtin "ValueError.__init__")) := by
      have z := T.up
      unfold ks_superIn at z
      rw [hcl] at z
      exact z
    refine kxs_getMethod kxs_ValueError hso (looks_opaque X2 T.opq) (l₀ := .ref C :: bm) (fun A' Q' E' s' k' q' => wpAny_bind ((looks_clsIn X2 hcl) A' _ E' s' k' (wpAny_pure q'))) rfl X2 hup
      (J.type.andThen (looks_subIn X2 T.veC)) hxC (by decide) ?_
    have hmw : (h2.push (kxs_mw "ValueError.__init__" x)).get? h2.objs.size = some (kxs_mw "ValueError.__init__" x) := Heap.get?_push_at rfl rfl
    have k3 : ∀ b o, h2.get? b = some o → (h2.push (kxs_mw "ValueError.__init__" x)).get? b = some o := fun b o z => Heap.get?_push_of_some _ z
    refine kxs_callWith (i := "ValueError.__init__") (x := x) rfl (evalArgs_plain (Calls.spliced_cons ?_))
    refine te _ _ _ _ _ _ ((hn.keeps k2).keeps k3) ln S.kind S.ln (fun y t tk => ?_)
    refine Calls.spliced_nil ⟨hmw, ?_⟩
    refine call_mw (k3 _ _ (X2 _ _ hC)) (k3 _ _ hx2) hmw (show 1 ≤ sizeLine by decide) (fun h4 t1 k4 hx4 => ?_)
    have old4 : ∀ b o, b ≠ x → h₁.get? b = some o → h4.get? b = some o := fun b o hb z => k4 b o hb (k3 _ _ (k2 _ _ z))
    have hL : s.heap.objs.size ≠ x := Nat.ne_of_gt (Heap.lt_size hx)
    have hn4 : h4.Ns s.heap.objs.size (fun y => [(("self" : Str), Value.ref x), (n, v)].reverse.lookup y) := by
      obtain ⟨o, es1, ep1, z1, z2, z3⟩ := hn
      exact ⟨o, es1, ep1, old4 _ _ hL z1, z2, z3⟩
    have X4 : K.In h4 := by
      intro b o z
      refine old4 b o (fun e1 => ?_) (X1 _ _ z)
      rw [e1, hnx] at z
      cases z
    -- self.n = n
    refine wpAt_of_wpAny (wpAny_execs_cons (plainObj_wpAny_Assign_Attribute ?_ (S.swap _ _ _ _ _)))
    refine wpAny_Name (wpAny_loadName_local S.kind S.ln hn4 ln ?_) S.ndb
    refine wpAny_Name (wpAny_loadName_local S.kind S.lself hn4 lself ?_) (by decide)
    refine set_plain X4 (ox := HandSPX.excO C t1) (od := none) ⟨hx4, rfl, rfl, trivial⟩ T.sa ?_
    refine HandSPX.exc_osa X4 hx4 hcl (show HandSPX.refsVE (.ref C :: bm) = true from hbm) rfl T.noN (fun h5 tk5 dx k5 dn dne hx5 hn5 => ?_)
    show wpAny _ _ (execs _ _) _ _ _
    have sz : s.heap.objs.size ≤ h4.objs.size := Nat.le_of_lt hn4.lt
    refine wpAny_execs_nil (hq h5 _ dx ⟨fun b o hb z => ?_, ⟨t1, hx5⟩, Nat.le_trans sz dn, dne, hn5⟩)
    exact k5 b o hb (old4 b o hb (k _ _ z))
end
end Ask

set_option Elab.async false
set_option linter.all false
set_option maxRecDepth 100000
set_option maxHeartbeats 2000000
/-! such an error made: raised, or held as a value -/
namespace Ask
open PySem PySem.Spec L2 PySem.W
open PyProof.Rows PySem.Calls
/-- an error of C made at e, its dict at d -/
structure MadeE (h h' : Heap) (e C d : Addr) (n : Str) (v : Value) : Prop where
  keep : ∀ b o, h.get? b = some o → h'.get? b = some o
  new : h.objs.size ≤ e
  obj : ∃ t1, h'.get? e = some { cls := .ref C, dict := some d, data := .fields #[.ref t1, .none, .none, .none, .bool false, .none] }
  big : h.objs.size ≤ d
  ne : d ≠ e
  ns : h'.Ns1 d (fun y => if y = n then some v else none)
section
variable {P : Program} {w : World} {A : Around} {R : Result → Shared → Prop} {s : Shared} {K : PySem.W.Frag} {mg mb : Str → Option Value} {C fI : Addr} {n qual : Str} {params : Arguments} {body : List Stmt} {scope : Scope} {es : List Expr} {pj : Pos} {v : Value}
theorem err_made (T : ETxt P K C fI n qual params body scope) (S : EText n params body scope es pj) (te : TextOf P w n (.JoinedStr es pj) v) (X : K.In s.heap) (hg : s.heap.Ns mainGlobals mg) (hbt : s.heap.Ns builtinsNs mb)
    (hbb : ∀ x : Str, x ≠ "__name__" → mb x = bootBuiltins x) (hlim : s.heap.NoLimit) (hroom : A.depth + 1 < recursionLimit)
    (hq : ∀ h' tk e d, MadeE s.heap h' e C d n v → R (.ok (.ret (.ref e))) { s with heap := h', toks := tk }) :
    codeAny (model P w) A (.call (.ref C) ⟨[v], []⟩) R s := by
  obtain ⟨nm, q, N, bs, bm, sn, sub, ab, col, dd, k0, k1, k2, k3, k5, hC, hbm⟩ := T.cls
  obtain ⟨hp, g, dr, tk, os⟩ := s
  have k : ∀ b o, hp.get? b = some o → ((hp.push (kdv_tup [v])).push (HandSPX.excO C hp.objs.size)).get? b = some o :=
    fun b o z => Heap.get?_push_of_some _ (Heap.get?_push_of_some _ z)
  have hat : ((hp.push (kdv_tup [v])).push (HandSPX.excO C hp.objs.size)).get? (hp.objs.size + 1) = some (HandSPX.excO C hp.objs.size) := by heap_get
  have hnx : K.lookup (hp.objs.size + 1) = none := by
    cases z : K.lookup (hp.objs.size + 1) with
    | none => rfl
    | some o =>
      have y : hp.objs.size + 1 < hp.objs.size := Heap.lt_size (show hp.get? _ = some o from X _ _ z)
      omega
  refine HandSPX.call_own PySem.F.excBase_ValueError (fun Y => HandSPX.refsVE_contains Y bm hbm) (X _ _ hC) (looks_findIn X T.iC) (fun self => bind_fn X self T.tC) (show 1 ≤ sizeLine by decide) ?_
  refine init_sup (s := ⟨(hp.push (kdv_tup [v])).push (HandSPX.excO C hp.objs.size), g, dr, tk, os⟩) T S te (X.keeps k) (hg.keeps k) (hbt.keeps k) hbb (hlim.keeps k) hat hnx (show A.depth + 1 < recursionLimit from hroom) ?_
  rintro h' tk' dx ⟨keep, obj, big, ne, ns⟩
  have z : hp.objs.size + 2 ≤ dx := by
    have y := big
    dsimp only at y
    rw [Heap.size_push, Heap.size_push] at y
    exact y
  exact ⟨rfl, hq h' tk' (hp.objs.size + 1) dx ⟨fun b o y => keep b o (Nat.ne_of_lt (Nat.lt_succ_of_lt (Heap.lt_size y))) (k b o y), Nat.le_succ _, obj, by show hp.objs.size ≤ dx; omega, ne, ns⟩⟩
end
/-- a text or a number that such an error tells -/
def TV : V → Prop
  | .str y => y.length ≤ 100000
  | .int i => i.natAbs < 10 ^ 12
  | _ => False
theorem TV.txt : ∀ {v : V} {u : Value}, TV v → RelV v u → TxtV u
  | .str y, _, h, ⟨t, rfl⟩ => .inl ⟨y, t, rfl, h⟩
  | .int i, _, h, ⟨t, rfl⟩ => .inr ⟨i, t, rfl, h⟩
theorem relO_one {n : Str} {v : V} {u : Value} (r : RelV v u) (f : Str) : RelO (List.lookup f [(n, v)]) (if f = n then some u else none) := by
  by_cases h : f = n
  · subst h
    rw [if_pos rfl]
    have q : List.lookup f [(f, v)] = some v := by simp [List.lookup]
    rw [q]
    exact r
  · rw [if_neg h]
    have q : (f == n) = false := by simpa using h
    have q2 : List.lookup f [(n, v)] = none := by simp [List.lookup, q]
    rw [q2]
    trivial
/-- C(e), raised -/
def tMkE (C : Addr) (n : Str) (ta : TA) : L2.St → Hp → XK → Prop := fun σ H Q => ta σ H fun vs H1 => ∃ v, vs = [v] ∧ TV v ∧ ∀ d, H1 d = none → Q (.ref C) (some d) (upd H1 d (.xd [(n, v)]))
/-- C(e), a value -/
def tErr (C : Addr) (n : Str) (ta : TA) : TE := fun σ H Q => ta σ H fun vs H1 => ∃ v, vs = [v] ∧ TV v ∧ ∀ d e, H1 d = none → H1 e = none → d ≠ e → Q (.ref e) (upd (upd H1 d (.xd [(n, v)])) e (ExK (.ref C) (some d) e))
section
variable {X : Cx} {C fI : Addr} {x n qual : Str} {params : Arguments} {body : List Stmt} {scope : Scope} {es : List Expr} {pj p pos : Pos} {a : Expr} {ta : TA} {k : Nat}
theorem pmk_err (gC : X.mg x = some (.ref C)) (T : ETxt X.prog X.K C fI n qual params body scope) (S : EText n params body scope es pj) (te : ∀ u, TxtV u → TextOf X.prog X.w n (.JoinedStr es pj) u)
    (hr : Room k X.A) (ha : PA X [a] ta) (hg : Gl X x := by rfl) (hdb : (x == ("__debug__" : Str)) = false := by decide)
    (he : starEach (a :: []) X.env = (false, eval a X.env) :: starEach [] X.env := by rfl) (hpl : (backTo pos (starEach [] X.env)).any (·.1) = false := by rfl) :
    PMk X (.Call (.Name x p) [a] [] pos) (tMkE C n ta) := by
  intro pins s σ H Q I h
  refine wpAny_Call_Name_kw (ld_glob I hg gC ?_ hdb)
  refine callWith_K (h₀ := X.base) I.ok.mod.kin T.kC (thn (ha.run pos pins s σ H _ I h) ?_) he hpl
  rintro us s1 ⟨vs, H1, I1, r1, v, rfl, hv, q⟩
  refine ⟨I1.kIn, ?_⟩
  obtain ⟨u, rfl, rv⟩ := vals1 r1
  obtain ⟨mb, hbt, hbb⟩ := I1.ok.mod.blt
  have hlim := I1.nolimit
  have hgl := I1.ok.mod.glob.keeps I1.bk
  have hbt1 := hbt.keeps I1.bk
  obtain ⟨hp, g, dr, tk, os⟩ := s1
  refine wpAny_call (err_made T S (te _ (hv.txt rv)) I1.kIn hgl hbt1 hbb hlim (by have := hr.dp; omega) fun h' tk' e d M => ?_)
  show MkP X pins σ Q (.ref e) ⟨h', g, dr, tk', os⟩
  obtain ⟨t1, hoe⟩ := M.obj
  have hns := M.ns
  -- the heap without the error
  obtain ⟨G, g1, g2⟩ := restrict h' fun b => decide (b ≠ e)
  have gk : ∀ b, b ≠ e → G.get? b = h'.get? b := fun b hb => g1 b (decide_eq_true hb)
  have ge : G.get? e = none := g2 e (by simp)
  have old : ∀ b o, hp.get? b = some o → G.get? b = some o := by
    intro b o z
    rw [gk b (Nat.ne_of_lt (Nat.lt_of_lt_of_le (Heap.lt_size z) M.new))]
    exact M.keep b o z
  have ob : ObjOk X.prog X.w (upd H1 d (.xd [(n, v)])) G d (.xd [(n, v)]) := ⟨_, hns.at (fun o z => (gk d M.ne).trans z), fun f => relO_one rv f⟩
  have J : L2.Inv X pins σ (upd H1 d (.xd [(n, v)])) ⟨G, g, dr, tk', os⟩ := I1.laid (t' := tk') old M.big ob
  refine ⟨e, _, _, ⟨G, g, dr, tk', os⟩, _, .ref C, some d, rfl, J, fun b o z => ?_, ge, hoe, ⟨rfl, rfl⟩, rfl, rfl, ?_, rfl, I1.bare, raises_own T.exC T.tyC, q d (I1.hok.fresh M.big)⟩
  · by_cases hb : b = e
    · have y : G.get? b = some o := z
      rw [hb, ge] at y
      cases y
    · exact (gk b hb).symm.trans z
  · rw [upd_ne (Ne.symm M.ne)]
    exact I1.hok.fresh M.new
theorem pe_err (gC : X.mg x = some (.ref C)) (T : ETxt X.prog X.K C fI n qual params body scope) (S : EText n params body scope es pj) (te : ∀ u, TxtV u → TextOf X.prog X.w n (.JoinedStr es pj) u)
    (hr : Room k X.A) (ha : PA X [a] ta) (hg : Gl X x := by rfl) (hdb : (x == ("__debug__" : Str)) = false := by decide)
    (he : starEach (a :: []) X.env = (false, eval a X.env) :: starEach [] X.env := by rfl) (hpl : (backTo pos (starEach [] X.env)).any (·.1) = false := by rfl) :
    PE X (.Call (.Name x p) [a] [] pos) (tErr C n ta) := by
  refine ⟨fun pins s σ H Q I h => ?_⟩
  refine wpAny_Call_Name_kw (ld_glob I hg gC ?_ hdb)
  refine callWith_K (h₀ := X.base) I.ok.mod.kin T.kC (thn (ha.run pos pins s σ H _ I h) ?_) he hpl
  rintro us s1 ⟨vs, H1, I1, r1, v, rfl, hv, q⟩
  refine ⟨I1.kIn, ?_⟩
  obtain ⟨u, rfl, rv⟩ := vals1 r1
  obtain ⟨mb, hbt, hbb⟩ := I1.ok.mod.blt
  have hlim := I1.nolimit
  have hgl := I1.ok.mod.glob.keeps I1.bk
  have hbt1 := hbt.keeps I1.bk
  obtain ⟨hp, g, dr, tk, os⟩ := s1
  refine wpAny_call (err_made T S (te _ (hv.txt rv)) I1.kIn hgl hbt1 hbb hlim (by have := hr.dp; omega) fun h' tk' e d M => ?_)
  obtain ⟨t1, hoe⟩ := M.obj
  have hd1 : H1 d = none := I1.hok.fresh M.big
  have he1 : H1 e = none := I1.hok.fresh M.new
  have hns := M.ns
  obtain ⟨G, g1, g2⟩ := restrict h' fun b => decide (b ≠ e)
  have gk : ∀ b, b ≠ e → G.get? b = h'.get? b := fun b hb => g1 b (decide_eq_true hb)
  have ge : G.get? e = none := g2 e (by simp)
  have old : ∀ b o, hp.get? b = some o → G.get? b = some o := by
    intro b o z
    rw [gk b (Nat.ne_of_lt (Nat.lt_of_lt_of_le (Heap.lt_size z) M.new))]
    exact M.keep b o z
  have ob : ObjOk X.prog X.w (upd H1 d (.xd [(n, v)])) G d (.xd [(n, v)]) := ⟨_, hns.at (fun o z => (gk d M.ne).trans z), fun f => relO_one rv f⟩
  have J : L2.Inv X pins σ (upd H1 d (.xd [(n, v)])) ⟨G, g, dr, tk', os⟩ := I1.laid (t' := tk') old M.big ob
  have e2 : upd H1 d (HO.xd [(n, v)]) e = none := by
    rw [upd_ne (Ne.symm M.ne)]
    exact he1
  have J2 := J.laidN (h' := h') (t' := tk') (fun b o z => by
    by_cases hb : b = e
    · have y : G.get? b = some o := z
      rw [hb, ge] at y
      cases y
    · exact (gk b hb).symm.trans z) ge e2 (exK_ok (cls := .ref C) (d := some d) hoe ⟨rfl, rfl⟩ rfl)
  exact ⟨.ref e, _, J2, rfl, q d e hd1 he1 M.ne⟩
end
/-- a class of errors, as clauses and isinstance ask it -/
structure ErrC (K : PySem.W.Frag) (C : Addr) : Prop where
  is : ExcC K C
  ic : isClsIn K C = true
  ty : typeIn K (.ref C) = some (.type "type")
  ss : subIn K (.ref C) (.ref C) = some true
  kp : keepIn K (.ref C) = true
/-- o.m(e, ..), a method that may raise, within a try: what is wished of its error may speak of the slots -/
def tMethX (C : Addr) (m : Str) (sp : Sp) (E : L2.St → XK) (ta : TE) (t : TA) : TE := fun σ H Q => ta σ H fun x H1 => ∃ a dx fs, x = .ref a ∧
  H1 a = some (.ins C dx fs) ∧ fs.lookup m = none ∧ t σ H1 fun vs H2 => sp (x :: vs) H2 Q (E σ)
theorem pe_methX {X : Cx} {CX : CXT} {k : Nat} {C f : Addr} {fd : FuncData} {ps : List Str} {sp : Sp} {E : L2.St → XK} {o e : Expr} {es : List Expr} {m : Str} {pos apos : Pos} {ta : TE} {t : TA} {pl : Sem Bool}
    (he : PE X o ta) (c : Cls X.K C) (hm : Meth X.K C m f) (F : FnOk X.prog X.w X.K X.mg X.base CX k f fd ps sp) (hr : Room k X.A) (hb : Binds X.K fd ps [])
    (hx : ∀ σ, PassesAt CX X σ (E σ)) (ha : PA X (e :: es) t)
    (hst : starEach (e :: es) X.env = (false, eval e X.env) :: starEach es X.env := by rfl)
    (hpl : (backTo pos (starEach es X.env)).any (·.1) = false := by rfl)
    (ht : eval (.Call (.Attribute o m apos) (e :: es) [] pos) X.env = (do
      let ov ← eval o X.env; standAt apos.atName
      let (f, first) ← holding [ov] (getMethod ov m pl)
      callWith pos f first (backTo pos (starEach (e :: es) X.env)) (backToKw pos (keywordEach [] X.env))) := by rfl) :
    PE X (.Call (.Attribute o m apos) (e :: es) [] pos) (tMethX C m sp E ta t) := by
  refine ⟨fun pins s σ H Q I h => ?_⟩
  refine methodCall_KW (pl := pl) (thn (he.run pins s σ H _ I h) ?_) ht
  rintro u s1 ⟨x, H1, I1, rx, a, dx, fs, ex, ea, l, q⟩
  subst ex
  obtain rfl : u = Value.ref a := rx
  refine getmeth_ok I1 ea c hm l ?_
  refine callWith_K (first := [.ref a]) (h₀ := X.base) I.ok.mod.kin hm.kp (thn (ha.run pos pins s1 σ H1 _ I1 q) ?_) hst hpl
  rintro us s2 ⟨vs, H2, I2, r, q2⟩
  exact ⟨I2.kIn, run_fnS (us := .ref a :: us) (vs := .ref a :: vs) F hr hb (hx σ) I2 (.cons rfl r) q2⟩
end Ask

set_option Elab.async false
set_option linter.all false
set_option maxRecDepth 100000
set_option maxHeartbeats 2000000
/-! a law that hands lambdas to a def which keeps their error; its entry, with the table of its code objects tracked -/
namespace Ask
open PySem PySem.Spec L2
open PyProof.Rows
/-- an error in the air stands over as many slots as there are names -/
theorem takes_len {X : Cx} {W : WX} (tk : Takes X W) : Takes X (fun cls d σ H => σ.length = X.N.length → W cls d σ H) := by
  intro u s' xx
  obtain ⟨a, B, sI, pins, σ, H, cls, d, e, I, nb, up, sky, na, os, ag, w⟩ := xx
  exact tk u s' ⟨a, B, sI, pins, σ, H, cls, d, e, I, nb, up, sky, na, os, ag, w I.len⟩
/-- what of a heap the law's call sees: the script, sys.modules, the law's table -/
def seenT (K : PySem.W.Frag) (o1 : Obj) (t a : Addr) (vs : List Value) (ns : List Int) : Hp := fun b =>
  if b = t then some (.tbl #[]) else seenS K o1 a vs ns b
def spLawT (K : PySem.W.Frag) (t : Addr) : Sp := fun vs H Q _ => ∃ (s : Addr) (ns : List Int), vs = [.ref s] ∧
  SqL K H s (ns.map V.int) ∧ ns.length ≤ 63 ∧ Sys H ∧ H t = some (.tbl #[]) ∧ ∀ H', Q (.bl true) H'
theorem law_goT {P : Program} {w : World} {K : PySem.W.Frag} {mg mb ms : Str → Option Value} {k : Nat}
    {fa a c t : Addr} {fd : FuncData} {x : Str} {sp : Sp} {s₁ : Shared} {vs : List Value} {ns : List Int}
    (KX : K.In s₁.heap) (hK1 : K.lookup sysModules = none) (hsm : s₁.heap.Ns sysModules ms) (hns : s₁.heap.Ns mainGlobals mg) (hb : s₁.heap.Ns builtinsNs mb)
    (hbb : ∀ x : Str, x ≠ "__name__" → mb x = bootBuiltins x) (hlim : s₁.heap.NoLimit) (hg : s₁.gens = #[])
    (ht : s₁.heap.get? t = some { cls := .none, data := .fields #[] }) (nt : K.lookup t = none) (hC : PySem.W.CodeHd s₁.heap c t)
    (hbm : ∃ (bm : Addr) (ob : Obj), mg "__builtins__" = some (.ref bm) ∧ bm ≠ builtinsNs ∧ s₁.heap.get? bm = some ob ∧ ob.cls = .type "module" ∧ ob.dict = some builtinsNs ∧ ob.data = .plain)
    (ha : s₁.heap.get? a = some { cls := .type "list", data := .seq vs.toArray }) (hi : IntsAre vs ns)
    (hl : ns.length ≤ sizeLine) (hr : Room k callerA)
    (F : ∀ base : Heap, K.In base → base.Ns mainGlobals mg → LamX.TabB base mg c t → GOk P w K mg base CX0 k fa fd [x] sp)
    (hbind : ∀ (s : Shared) (u : Value), BindsTo s fd ⟨[u], []⟩ [(x, u)])
    (hsp : ∀ H : Hp, Sys H → H t = some (.tbl #[]) → SqL K H a (ns.map V.int) → sp [.ref a] H (fun v _ => v = .bl true) fun _ _ _ => False) :
    codeAny (model P w) callerA (.call (.ref fa) ⟨[.ref a], []⟩)
      (fun r s' => r = .ok (.ret (.bool true)) ∧ OldK s₁.heap s'.heap ∧ s'.os = s₁.os ∧ AllBare s'.gens) s₁ := by
  have rv := vals_ints hi
  have lenV := hi.length
  obtain ⟨o1, es1, ep1, h1, d1, _⟩ := hsm
  have a1 : a ≠ sysModules := fun z => by
    rw [z, h1] at ha
    rw [Option.some.inj ha] at d1
    cases (show Data.seq vs.toArray _ = Data.dict es1 ep1 from d1)
  have t1 : t ≠ sysModules := fun z => by
    rw [z, h1] at ht
    rw [Option.some.inj ht] at d1
    cases d1
  have ta : t ≠ a := fun z => by
    rw [z, ha] at ht
    have y := congrArg Obj.data (Option.some.inj ht)
    cases (show Data.seq vs.toArray _ = Data.fields #[] from y)
  -- what is tracked
  have hA : ∀ b u, seenT K o1 t a vs ns b = some u → (b = t ∧ u = .tbl #[]) ∨ (b = sysModules ∧ u = .frz o1 (.own 0)) ∨
      (b = a ∧ K.lookup a = none ∧ u = .frz { cls := .type "list", data := .seq vs.toArray } (.lst (ns.map V.int))) := by
    intro b u e
    unfold seenT at e
    by_cases hbt : b = t
    · rw [if_pos hbt] at e
      exact .inl ⟨hbt, (Option.some.inj e).symm⟩
    rw [if_neg hbt] at e
    refine .inr ?_
    unfold seenS at e
    by_cases hb1 : b = sysModules
    · rw [if_pos hb1] at e
      exact .inl ⟨hb1, (Option.some.inj e).symm⟩
    rw [if_neg hb1] at e
    refine .inr ?_
    unfold seen at e
    cases q : K.lookup a with
    | some o =>
      rw [q] at e
      cases e
    | none =>
      rw [q] at e
      by_cases hba : b = a
      · exact ⟨hba, rfl, (Option.some.inj ((if_pos hba).symm.trans e)).symm⟩
      · cases (if_neg hba).symm.trans e
  have hobj : ∀ b u, seenT K o1 t a vs ns b = some u → ∃ o, s₁.heap.get? b = some o ∧ K.lookup b = none ∧ (b = t ∨ ∃ v, u = .frz o v) ∧ (o.data = .fields #[] ∨ (o.data = o1.data ∧ b = sysModules) ∨ o.data = .seq vs.toArray) := by
    intro b u e
    rcases hA b u e with ⟨rfl, rfl⟩ | ⟨rfl, rfl⟩ | ⟨rfl, z, rfl⟩
    · exact ⟨_, ht, nt, .inl rfl, .inl rfl⟩
    · exact ⟨_, h1, hK1, .inr ⟨_, rfl⟩, .inr (.inl ⟨rfl, rfl⟩)⟩
    · exact ⟨_, ha, z, .inr ⟨_, rfl⟩, .inr (.inr rfl)⟩
  have hS : SqL K (seenT K o1 t a vs ns) a (ns.map V.int) := by
    cases q : K.lookup a with
    | some o =>
      have e := KX a o q
      rw [ha] at e
      cases e
      exact Or.inr ⟨_, vs.toArray, _, q, rfl, rfl, rfl, by rw [List.size_toArray, lenV]; exact hl, by simpa using rv⟩
    | none =>
      refine Or.inl (Or.inr ⟨{ cls := .type "list", data := .seq vs.toArray }, ?_⟩)
      unfold seenT seenS seen
      rw [if_neg (Ne.symm ta), if_neg a1, q]
      exact if_pos rfl
  have hok : HOk P w (seenT K o1 t a vs ns) s₁.heap := fun b u e => by
    rcases hA b u e with ⟨rfl, rfl⟩ | ⟨rfl, rfl⟩ | ⟨rfl, _, rfl⟩
    · exact ht
    · exact ⟨h1, o1, h1⟩
    · exact ⟨ha, by rw [List.length_map]; exact hl, vs, _, rv, ha⟩
  have free : ∀ {b : Addr} {o : Obj}, b ≠ sysModules → s₁.heap.get? b = some o → o.data ≠ .fields #[] → (∀ y, o.data ≠ .seq y) → seenT K o1 t a vs ns b = none := by
    intro b o hb1 e h2 h3
    cases q : seenT K o1 t a vs ns b with
    | none => rfl
    | some u =>
      obtain ⟨o', e', _, _, d⟩ := hobj b u q
      rw [e] at e'
      cases e'
      rcases d with d | ⟨_, d⟩ | d
      · exact absurd d h2
      · exact absurd d hb1
      · exact absurd d (h3 _)
  have nsH : ∀ {b : Addr} {m : Str → Option Value}, b ≠ sysModules → s₁.heap.Ns b m → (hidT s₁.heap (seenT K o1 t a vs ns)).Ns b m := by
    intro b m hb1 ⟨o, es, ep, e, d, r⟩
    exact ⟨o, es, ep, hidT_get e (free hb1 e (by rw [d]; exact fun z => by cases z) (fun y z => by rw [d] at z; cases z)), d, r⟩
  have kH : K.In (hidT s₁.heap (seenT K o1 t a vs ns)) := by
    intro b o e
    refine hidT_get (KX b o e) ?_
    cases q : seenT K o1 t a vs ns b with
    | none => rfl
    | some u =>
      obtain ⟨_, _, z, _⟩ := hobj b u q
      rw [z] at e
      cases e
  have limH : (hidT s₁.heap (seenT K o1 t a vs ns)).NoLimit := by
    obtain ⟨mc, l1, l2⟩ := hlim
    exact ⟨mc, nsH (by decide) l1, l2⟩
  have TB : LamX.TabB (hidT s₁.heap (seenT K o1 t a vs ns)) mg c t := by
    have notD : ∀ {b : Addr} {o : Obj}, s₁.heap.get? b = some o → (∀ y z, o.data ≠ .dict y z) → b ≠ sysModules := by
      rintro b o e n rfl
      rw [h1] at e
      cases e
      exact n _ _ d1
    refine ⟨?_, ?_, fun z => ?_⟩
    · obtain ⟨o, us, file, tf, flags, tg, inF, text, tt, e1, r1, r2, r3, r4, r5, r6, r7, r8, hne⟩ := hC
      have q1 : ∀ y z, o.data ≠ .dict y z := fun y z q => by rw [r2] at q; cases q
      have q2 : o.data ≠ .fields #[] := fun q => by
        rw [r2] at q
        cases q
        simp at r3
      have q3 : ∀ y, o.data ≠ .seq y := fun y q => by rw [r2] at q; cases q
      exact ⟨o, us, file, tf, flags, tg, inF, text, tt, hidT_get e1 (free (notD e1 q1) e1 q2 q3), r1, r2, r3, r4, r5, r6, r7, r8, hne⟩
    · obtain ⟨bm, ob, m1, m2, m3, m4, m5, m6⟩ := hbm
      have nG : bm ≠ mainGlobals := fun q => by
        obtain ⟨o, es, ep, e, hd, _⟩ := hns
        rw [q, e] at m3
        cases m3
        rw [hd] at m6
        cases m6
      have nT : bm ≠ t := fun q => by
        rw [q, ht] at m3
        cases m3
        cases m6
      exact ⟨bm, ob, m1, m2, nG, nT, hidT_get m3 (free (notD m3 (fun y z q => by rw [m6] at q; cases q)) m3 (fun q => by rw [m6] at q; cases q) (fun y q => by rw [m6] at q; cases q)), m4, m5, m6⟩
    · obtain ⟨o, es, ep, e, hd, _⟩ := hns
      rw [z, ht] at e
      cases e
      cases hd
  have e0 : Env0 P w K mg (hidT s₁.heap (seenT K o1 t a vs ns)) callerA [] s₁ (seenT K o1 t a vs ns) := {
    frames := rfl
    mod := ⟨kH, nsH (by decide) hns, ⟨mb, nsH (by decide) hb, hbb⟩, limH⟩
    bs := fun b o e => of_hidT e
    bsz := Nat.le_of_eq (hidT_size _ _)
    funs := trivial
    frf := fun b hb => absurd (show b ∈ ([] : List Addr) from hb) (by simp)
    hok := hok
    bare := .of_eq hg }
  have sys : Sys (seenT K o1 t a vs ns) := ⟨o1, .own 0, by
    unfold seenT seenS
    rw [if_neg (Ne.symm t1)]
    exact if_pos rfl⟩
  have run := (F _ kH (nsH (by decide) hns) TB).run callerA [] s₁ (seenT K o1 t a vs ns) ⟨[.ref a], []⟩ [.ref a] [.ref a]
    _ _ hr rfl e0 (hbind s₁ (.ref a)) (.cons rfl .nil) (hsp _ sys (if_pos rfl) hS)
  refine codeAny_mono run fun r s' h => ?_
  cases r with
  | error e => exact False.elim h
  | ok fl =>
    cases fl with
    | next => exact False.elim h
    | brk => exact False.elim h
    | cont => exact False.elim h
    | ret u =>
      obtain ⟨v, H', os, bare, un, hok', r', q⟩ := h
      obtain rfl : v = V.bl true := q
      obtain rfl : u = Value.bool true := r'
      have key : ∀ b o, b ≠ t → s₁.heap.get? b = some o → s'.heap.get? b = some o := by
        intro b o hbt e
        cases q : seenT K o1 t a vs ns b with
        | none => exact un.keep b o e q (fun z => nomatch z) (fun z => nomatch z)
        | some u =>
          obtain ⟨o2, g2, _, f, _⟩ := hobj b u q
          rcases f with f | ⟨u2, rfl⟩
          · exact absurd f hbt
          · obtain ⟨g3, _⟩ := hok' b _ (un.frzs b _ _ q)
            rw [e] at g2
            cases g2
            exact g3
      obtain ⟨more, z⟩ := un.tbls t #[] (if_pos rfl)
      have hm : s'.heap.get? t = some { cls := .none, data := .fields (#[] ++ more) } := hok' t _ z
      refine ⟨rfl, ⟨fun b o e => ?_, fun b o e => ?_⟩, os, bare⟩
      · by_cases hbt : b = t
        · subst hbt
          rw [ht] at e
          cases e
          exact .inr (.inl ⟨(hC.tab ht).isCodeTable, rfl, #[], more, rfl, hm⟩)
        · exact .inl (key b o hbt e)
      · by_cases hbt : b = t
        · rw [hbt]
          exact ⟨_, hm⟩
        · exact ⟨o, key b o hbt e⟩
/-- what is known of the law at the head's heap h -/
theorem walk_lawT {l : PySem.W.OpenLaw} {k : Nat} {q : Program} {loose : List Str}
    {XP : (Str → Option Value) → Heap → Prop} {YP : World → Heap → Prop} {d : DefRec}
    {K : Params → PySem.W.Frag} (hn : l.most = some 63) (hdf : d.params.defaults = []) (hr : Room k callerA)
    (hq : importsNone q = true) (hK1 : ∀ w : World, (K w.params).lookup sysModules = none)
    (hY : ∀ (w : World) (h : Heap), YP w h → (K w.params).In h)
    (F : ∀ (w : World) (mg : Str → Option Value) (fa : Addr) (h : Heap), YP w h → (K w.params).In h →
      h.Ns mainGlobals mg → mg d.name = some (.ref fa) →
      ∃ (fd : FuncData) (c t : Addr), h.get? t = some { cls := .none, data := .fields #[] } ∧ (K w.params).lookup t = none ∧ PySem.W.CodeHd h c t ∧
        (∀ (s : Shared) (u : Value), BindsTo s fd ⟨[u], []⟩ [("script", u)]) ∧
        ∀ base : Heap, (K w.params).In base → base.Ns mainGlobals mg → LamX.TabB base mg c t →
          GOk l.prog w (K w.params) mg base CX0 k fa fd ["script"] (spLawT (K w.params) t)) :
    PySem.W.WalkO q loose XP YP l.row.toRowW d [] (fun f vs => PySem.call f vs) := by
  refine Att.attach_call hn hdf ?_
  intro w s₀ s₁ mg mb fa o pm cd doc a vs ns G Y ho hd hcd hmg hobj hints hlen hg
  have KX := hY w _ Y
  obtain ⟨fd, c, t, ht, nt, hC, hb, hF⟩ := F w mg fa _ Y KX G.T.g hmg
  obtain ⟨mm, hsm, _⟩ := (G.T.seer hq).mods
  exact law_goT KX (hK1 w) hsm G.T.g G.T.b G.T.builtins G.T.nolimit hg ht nt hC G.T.bmain hobj hints (Nat.le_trans hlen (by decide)) hr hF hb
    fun H hO hT hS => ⟨a, ns, rfl, hS, hlen, hO, hT, fun _ => rfl⟩
end Ask

set_option Elab.async false
set_option linter.all false
set_option maxRecDepth 100000
set_option maxHeartbeats 2000000
/-! the end of a law whose own table of code objects is tracked: what is asked of the written part alone -/
namespace Ask
open PySem PySem.Spec L2
open PyProof.Rows
theorem walk_lawT2 {l : PySem.W.OpenLaw} {k : Nat} {q : Program} {loose : List Str}
    {XP : (Str → Option Value) → Heap → Prop} {YP : World → Heap → Prop} {d : DefRec}
    {K : Params → PySem.W.Frag} (hn : l.most = some 63) (hdf : d.params.defaults = []) (hr : Room k callerA)
    (hq : importsNone q = true) (hd : d ∈ recsOf q) (hK1 : ∀ w : World, (K w.params).lookup sysModules = none)
    (hY : ∀ (w : World) (h : Heap), YP w h → (K w.params).In h)
    (F : ∀ (w : World) (mg : Str → Option Value) (fa : Addr) (h : Heap), (K w.params).In h →
      h.Ns mainGlobals mg → mg d.name = some (.ref fa) →
      ∃ (fd : FuncData) (c t : Addr) (oF oC : Obj) (vs : Array Value), (K w.params).lookup fa = some oF ∧ oF.data = .func fd ∧ fd.code = .ref c ∧
        (K w.params).lookup c = some oC ∧ oC.data = .fields vs ∧ vs[11]? = some (.ref t) ∧ (K w.params).lookup t = none ∧
        (∀ (s : Shared) (u : Value), BindsTo s fd ⟨[u], []⟩ [("script", u)]) ∧
        ∀ base : Heap, (K w.params).In base → base.Ns mainGlobals mg → LamX.TabB base mg c t →
          GOk l.prog w (K w.params) mg base CX0 k fa fd ["script"] (spLawT (K w.params) t)) :
    PySem.W.WalkO q loose XP YP l.row.toRowW d [] (fun f vs => PySem.call f vs) := by
  refine Att.attach_call hn hdf ?_
  intro w s₀ s₁ mg mb fa o pm cd doc a vs ns G Y ho hdd hcd hmg hobj hints hlen hg
  have KX := hY w _ Y
  obtain ⟨fd, c, t, oF, oC, vsC, e1, e2, e3, e4, e5, e6, nt, hb, hF⟩ := F w mg fa _ KX G.T.g hmg
  obtain ⟨mm, hsm, _⟩ := (G.T.seer hq).mods
  obtain ⟨a', o', fd', c', P, m1, m2, m3, m4, hC, hT⟩ := G.T.tab d hd
  have ea : a' = fa := by
    have z := m1.symm.trans hmg
    cases z
    rfl
  subst ea
  have eo : o' = oF := Option.some.inj (m2.symm.trans (KX _ _ e1))
  subst eo
  have ef : fd' = fd := by
    rw [m3] at e2
    cases e2
    rfl
  subst ef
  have ec : c' = c := by
    rw [m4] at e3
    cases e3
    rfl
  subst ec
  obtain ⟨oc, vs2, f1, f2, f3, f4⟩ := id hT.1
  have eoc : oc = oC := Option.some.inj (f1.symm.trans (KX _ _ e4))
  subst eoc
  have ev : vs2 = vsC := by
    rw [f3] at e5
    cases e5
    rfl
  subst ev
  have et : P = t := by
    rw [f4] at e6
    cases e6
    rfl
  subst et
  exact law_goT KX (hK1 w) hsm G.T.g G.T.b G.T.builtins G.T.nolimit hg hT.2 nt (PySem.W.CodeHd.of hC hT) G.T.bmain hobj hints (Nat.le_trans hlen (by decide)) hr hF hb
    fun H hO hT hS => ⟨a, ns, rfl, hS, hlen, hO, hT, fun _ => rfl⟩
end Ask

set_option Elab.async false
set_option linter.all false
set_option maxRecDepth 100000
set_option maxHeartbeats 2000000
/-! an instance made of starred arguments; a dict comprehension over a list; list(d.values()) -/
namespace Ask
open PySem PySem.Spec L2 StX
open PyProof.Rows
section
variable {X : Cx} {CX : CXT} {k i : Nat} {C f p0 g : Addr} {sp : Sp} {E : XK} {x m : Str} {e o : Expr} {es : List Expr} {te ta : TE} {t : TA} {p sp_ pos apos : Pos}
/-- C() , C's __init__ with a star alone behind self -/
theorem pe_make0R (M : Mk X.K C f) (F : FnR X.prog X.w X.K X.mg X.base CX k f sp) (hr : Room (k + 1) X.A) (hg : Gl X x) (hm : X.mg x = some (.ref C)) (hx : Passes CX X E) (hdb : (x == ("__debug__" : Str)) = false := by decide) :
    PE X (.Call (.Name x p) [] [] pos) (tMakeR C sp E tNil) := by
  refine ⟨fun pins s σ H Q I h => ?_⟩
  refine wpAny_Call_Name_kw (ld_glob I hg hm ?_ hdb)
  exact PySem.W.callWith_K0 I.kIn M.kp (run_makeR M F hr hx I .nil h)
/-- C(*e) -/
def tMakeS (K : PySem.W.Frag) (C : Addr) (sp : Sp) (E : XK) (te : TE) : TE := fun σ H Q => te σ H fun y H1 => ∃ a xs, y = V.ref a ∧ (SqT K H1 a xs ∨ SqL K H1 a xs) ∧ ∀ x dx, H1 x = none → H1 dx = none → dx ≠ x →
  sp (V.ref x :: xs) (upd (upd H1 dx (.own x)) x (.ins C dx [])) (fun v H2 => v = .non ∧ Q (.ref x) H2) E
theorem pe_makeS (M : Mk X.K C f) (F : FnR X.prog X.w X.K X.mg X.base CX k f sp) (hr : Room (k + 1) X.A) (hg : Gl X x) (hm : X.mg x = some (.ref C)) (hx : Passes CX X E) (he : PE X e te) (hd : (x == ("__debug__" : Str)) = false := by decide)
    (hst : starEach [.Starred e sp_] X.env = [(true, eval e X.env)] := by rfl) :
    PE X (.Call (.Name x p) [.Starred e sp_] [] pos) (tMakeS X.K C sp E te) := by
  refine ⟨fun pins s σ H Q I h => ?_⟩
  refine wpAny_Call_Name_kw (ld_glob I hg hm ?_ hd)
  refine PySem.W.callWith_S (h₀ := X.base) I.ok.mod.kin M.kp (thn (he.run pins s σ H _ I h) fun v s1 ⟨y, H1, I1, ry, a, xs, ey, hxs, q⟩ => ?_) hst
  subst ey
  obtain rfl : v = Value.ref a := ry
  exact star_any I1 hxs fun us s2 I2 rv => ⟨I2.kIn, run_makeR M F hr hx I2 rv q⟩
/-- the same, the i-th slot holds the class -/
theorem pe_makeLS (M : Mk X.K C f) (F : FnR X.prog X.w X.K X.mg X.base CX k f sp) (hr : Room (k + 1) X.A) (hN : X.N[i]? = some x) (hv : Vis X.env.scope x) (hx : Passes CX X E) (he : PE X e te) (hdb : (x == ("__debug__" : Str)) = false := by decide)
    (hcd : (x == ("__classdict__" : Str)) = false := by decide)
    (hst : starEach [.Starred e sp_] X.env = [(true, eval e X.env)] := by rfl) :
    PE X (.Call (.Name x p) [.Starred e sp_] [] pos) (fun σ H Q => σ[i]? = some (some (.ref C)) ∧ tMakeS X.K C sp E te σ H Q) := by
  refine ⟨fun pins s σ H Q I h => ?_⟩
  obtain ⟨hs, ht⟩ := h
  have hv' := (pe_var (pos := p) hN hv hdb hcd).run pins s σ H (fun v H1 => v = .ref C ∧ H1 = H) I ⟨.ref C, hs, rfl, rfl⟩
  refine wpAny_Call_Name_kw (thn hv' ?_)
  rintro u s1 ⟨v, H1, I1, r1, rfl, rfl⟩
  cases r1
  refine PySem.W.callWith_S (h₀ := X.base) I1.ok.mod.kin M.kp (thn (he.run pins s1 σ _ _ I1 ht) fun v s2 ⟨y, H2, I2, ry, a, xs, ey, hxs, q⟩ => ?_) hst
  subst ey
  obtain rfl : v = Value.ref a := ry
  exact star_any I2 hxs fun us s3 I3 rv => ⟨I3.kIn, run_makeR M F hr hx I3 rv q⟩
end
/-- {k: v for x in a list that stays} -/
theorem dc_list {K : PySem.W.Frag} {a : Addr} {xs : List V} {g : TG} {tt : TT} {tk tv : TE} {vs : List Nat} {σ : L2.St} {H1 : Hp} {D : Addr} {Qd : Hp → Prop} (Pv : Nat → Hp → Prop) (h0 : Pv 0 (upd H1 D (.dK []))) (hl : ∀ i H, i ≤ xs.length → Pv i H → SqL K H a xs)
    (hs : ∀ i x H, xs[i]? = some x → Pv i H → g x (wipe σ vs) H fun σ2 H2 => wipe σ2 vs = wipe σ vs ∧ tt σ2 H2 fun b H3 =>
      if b = true then tk σ2 H3 fun y H4 => tv σ2 H4 fun z H5 => ∃ kvs k, y = kV k ∧ H5 D = some (.dK kvs) ∧ kvs.length < sizeLine ∧ Pv (i + 1) (upd H5 D (.dK (putK kvs k z))) else Pv (i + 1) H3) (hd : ∀ H, Pv xs.length H → Qd H) :
    ∃ W : Nat → Nat → Hp → Prop, (∃ m, W 0 m (upd H1 D (.dK []))) ∧ ∀ i m H, W i m H →
      ((Itl K a).stop i H ∧ Qd H) ∨ ((Itl K a).go i H ∧ ∃ Nx : Hp → Prop, (∀ H', Nx H' → ∃ m', m' < m ∧ W (i + 1) m' H') ∧ ∀ x H', (Itl K a).yld i H x H' → g x (wipe σ vs) H' fun σ2 H2 => wipe σ2 vs = wipe σ vs ∧ tt σ2 H2 fun b H3 =>
        if b = true then tk σ2 H3 fun y H4 => tv σ2 H4 fun z H5 => ∃ kvs k, y = kV k ∧ H5 D = some (.dK kvs) ∧ kvs.length < sizeLine ∧ Nx (upd H5 D (.dK (putK kvs k z))) else Nx H3) := by
  refine ⟨fun i m H => m = xs.length - i ∧ i ≤ xs.length ∧ Pv i H, ⟨xs.length, by simp, Nat.zero_le _, h0⟩, ?_⟩
  rintro i m H ⟨rfl, hi, p⟩
  have q := hl i H hi p
  by_cases hlt : i < xs.length
  · refine .inr ⟨⟨xs, xs[i], q, by simp [hlt]⟩, Pv (i + 1), fun H' p' => ⟨xs.length - (i + 1), by omega, rfl, hlt, p'⟩, fun x H' y => ?_⟩
    obtain ⟨e, y⟩ := y
    subst e
    exact hs i x _ (y xs q) p
  · have e : i = xs.length := by omega
    subst e
    exact .inl ⟨⟨xs, q, Nat.le_refl _⟩, hd H p⟩
/-- list(e.values()) -/
def tListValues (te : TE) : TE := fun σ H Q => te σ H fun x H1 => ∃ (d : Addr) (kvs : List (Key × V)), x = .ref d ∧ H1 d = some (.dK kvs) ∧ ∀ p, H1 p = none → Q (.ref p) (upd H1 p (.lst (kvs.map (·.2))))
theorem vals_of_ix : ∀ {xs : List V} {us : List Value}, xs.length = us.length → (∀ (j : Nat) (x : V) (u : Value), xs[j]? = some x → us[j]? = some u → RelV x u) → Vals xs us := L2.vals_of_at
section
variable {X : Cx} {e : Expr} {te : TE} {p apos cpos pos : Pos}
theorem pe_listValues (hc : X.calm = true) (he : PE X e te) (hg : Gl X "list") (hm : X.mg "list" = none) (hv : bootBuiltins "list" = some (.type "list")) (hbase : attributeBase e "values" X.env (eval e X.env) = eval e X.env := by rfl) (hline : (apos.endLine == cpos.line) = true := by rfl)
    (hs : starEach [.Call (.Attribute e "values" apos) [] [] cpos] X.env = (false, eval (.Call (.Attribute e "values" apos) [] [] cpos) X.env) :: starEach [] X.env := by rfl) :
    PE X (.Call (.Name "list" p) [.Call (.Attribute e "values" apos) [] [] cpos] [] pos) (tListValues te) := by
  refine ⟨fun pins s σ H Q I hq => ?_⟩
  refine wpAny_Call_Name_kw (ld_blt I hg hm hv ?_)
  refine PyProof.Rows.callWith_type1 ?_ hs rfl
  rw [hs]
  show wpAny _ _ (spliced ((false, eval (.Call (.Attribute e "values" apos) [] [] cpos) X.env) :: backTo pos (starEach [] X.env))) _ _ s
  refine Calls.spliced_cons ?_
  refine wpAny_Call_method (T := "dict") (id := "dict.values") hbase rfl hline F.plainAttrs_dict F.slot_dict_values F.type_dict_values (thn (he.run pins s σ H _ I hq) fun u s1 ⟨x, H1, I1, rx, d, kvs, ex, hd, q⟩ => ?_)
  subst ex
  obtain rfl : u = Value.ref d := rx
  obtain ⟨hz, hs0, vs, kv, hdo⟩ := I1.hok d _ hd
  obtain ⟨ep, hat⟩ := hdo.dictAt
  have lk : kvs.length = vs.length := Paired.length kv
  have I2 : Inv X pins σ H1 { s1 with heap := s1.heap.push { cls := .type "dict_values", data := .fields #[.ref d] } } := I1.kept (t' := s1.toks) fun b ob q => Heap.get?_push_of_some _ q
  refine ⟨hdo.typeIs, hdo.mapOf.noDict, ?_⟩
  show wpAny _ _ (callWith cpos (.builtin "dict.values") [.ref d] [] []) _ X.xe s1
  refine method_meetsIn F.slot_dict_values F.entry_dict_values rfl (PySem.evalArgs_none ⟨rfl, hdo.typeIs, F.args_dict_values_1 _, _, meets_dict_values (mixKind X.prog X.w) d hs0, ⟨vs, hdo⟩, ?_⟩)
  refine Calls.spliced_nil ?_
  refine PySem.W.kdl_call (PySem.W.kdl_values (knd := mixKind X.prog X.w) (kvs := vs) (ep := ep)) (I1.ok.hd hc) ⟨⟨_, Heap.get?_push_size _ rfl, rfl, rfl⟩, hat.push _⟩ (by omega) fun h' tk acc c' hk hD hacc => ?_
  have rv : Vals (kvs.map (·.2)) acc.toList := by
    have k2 := (kv_keys kv).2
    refine vals_of_ix ((List.length_map ..).trans (lk.trans (hacc.1.symm.trans Array.length_toList.symm))) fun j x u e1 e2 => ?_
    obtain ⟨kk, e3⟩ := hacc.2 j u (by rw [← Array.getElem?_toList]; exact e2)
    have e4 : (vs.map (·.2))[j]? = some u := by rw [List.getElem?_map, e3]; rfl
    obtain ⟨y, f1, f2⟩ := LiI.paired_get k2 e1
    rw [e4] at f1
    cases f1
    exact f2
  refine ⟨.ref _, _, I2.laid (t' := tk) hk (Nat.le_refl _) (show ObjOk X.prog X.w _ _ _ (.lst (kvs.map (·.2))) from ⟨by rw [List.length_map]; omega, acc.toList, c', rv, by rw [Array.toArray_toList]; exact hD⟩), rfl, q _ (I2.hok.fresh (Nat.le_refl _))⟩
end
/-- o.m(*e), e a tuple or a list -/
def tMethSL (K : PySem.W.Frag) (C : Addr) (m : Str) (g : Addr) (sp : Sp) (E : XK) (ta te : TE) : TE := fun σ H Q => ta σ H fun x H1 => ∃ a dx fs, x = .ref a ∧ H1 a = some (.ins C dx fs) ∧ fs.lookup m = none ∧
  ∀ q, H1 q = none → te σ (upd H1 q (.met g a)) fun y H2 => ∃ b vs, y = .ref b ∧ (SqT K H2 b vs ∨ SqL K H2 b vs) ∧ H2 q = some (.met g a) ∧ sp (.ref a :: vs) H2 Q E
theorem pe_methSL {X : Cx} {CX : CXT} {k : Nat} {C g : Addr} {m : Str} {sp : Sp} {E : XK} {o e : Expr} {ta te : TE} {p apos pos : Pos} (he : PE X o ta) (c : Cls X.K C) (b : BMeth X.K C m g) (F : FnR X.prog X.w X.K X.mg X.base CX k g sp) (hr : Room k X.A)
    (hx : Passes CX X E) (ha : PE X e te) (hbase : attributeBase o m X.env (eval o X.env) = eval o X.env := by rfl) : PE X (.Call (.Attribute o m apos) [.Starred e p] [] pos) (tMethSL X.K C m g sp E ta te) := by
  refine ⟨fun pins s σ H Q I h => ?_⟩
  refine starcall_of hbase (thn (he.run pins s σ H _ I h) fun u s1 ⟨x, H1, I1, rx, a, dx, fs, ex, ea, l, q⟩ => ?_)
  subst ex
  obtain rfl : u = Value.ref a := rx
  refine getbound_ok I1 ea c b l fun q1 s2 hq1 I2 => ?_
  refine PySem.W.ks_call (P := PySem.W.MethP X.K q1 g (.ref a)) rfl (PySem.W.keeps_M b.fi) (PySem.W.ks_lone ?_)
  refine thn (ha.run pins s2 σ _ _ I2 (q q1 hq1)) fun v s3 ⟨y, H2, I3, ry, t, vs, ey, ht, hm, hsp⟩ => ?_
  subst ey
  obtain rfl : v = Value.ref t := ry
  refine StX.star_any I3 ht fun us s4 I4 rv => ⟨met_P I4 hm, ?_⟩
  exact wpAny_call (PySem.W.method_call (met_P I4 hm).1 (run_fnR (us := Value.ref a :: us) (vs := V.ref a :: vs) F hr hx I4 (.cons rfl rv) hsp))
theorem upd_undo {H : Hp} {d : Addr} {u o : HO} (h : H d = some u) : upd (upd H d o) d u = H := by
  funext b
  by_cases e : b = d
  · rw [e, upd_same, h]
  · rw [upd_ne e, upd_ne e]
theorem call_isiK {X : Cx} {K : PySem.W.Frag} (h : X.K = K) : CallR X (.builtin "isinstance") (rIsi K) := h ▸ call_isi
theorem pe_fldK {X : Cx} {K : PySem.W.Frag} {o : Expr} {n : Str} {pos : Pos} {t : TE} (hK : X.K = K) (he : PE X o t) (hb : attributeBase o n X.env (eval o X.env) = eval o X.env) : PE X (.Attribute o n pos) (tFld K t n) := hK ▸ pe_fld he hb
end Ask

set_option Elab.async false
set_option linter.all false
set_option maxRecDepth 100000
/-! rows: sorted by their names; a dict from names to addresses -/
namespace Ask
open PySem L2
open PyProof.Rows
def ltS (x y : Str) : Prop := x.cps.toList < y.cps.toList
theorem ltS_irrefl (x : Str) : ¬ ltS x x := List.lt_irrefl _
theorem ltS_trans {x y z : Str} (a : ltS x y) (b : ltS y z) : ltS x z := List.lt_trans a b
theorem ltS_asymm {x y : Str} (a : ltS x y) : ¬ ltS y x := fun b => ltS_irrefl _ (ltS_trans a b)
theorem str_ext {x y : Str} (h : x.cps.toList = y.cps.toList) : x = y := by
  obtain ⟨a⟩ := x
  obtain ⟨b⟩ := y
  congr 1
  exact Array.ext' h
theorem ltS_tri (x y : Str) : ltS x y ∨ x = y ∨ ltS y x := by
  by_cases h1 : ltS x y
  · exact .inl h1
  · by_cases h2 : ltS y x
    · exact .inr (.inr h2)
    · exact .inr (.inl (str_ext (List.le_antisymm (show x.cps.toList ≤ y.cps.toList from h2) (show y.cps.toList ≤ x.cps.toList from h1))))
instance (x y : Str) : Decidable (ltS x y) := inferInstanceAs (Decidable (x.cps.toList < y.cps.toList))
theorem rising_pw : ∀ (l : List Str) (p : Str), risingS p l = true → (∀ x ∈ l, ¬ ltS x p) ∧ l.Pairwise (fun a b => ¬ ltS b a)
  | [], _, _ => ⟨by simp, .nil⟩
  | x :: r, p, h => by
    unfold risingS at h
    rw [Bool.and_eq_true, Bool.not_eq_true'] at h
    obtain ⟨h1, h2⟩ := h
    have n1 : ¬ ltS x p := by
      rw [ltCps_eq] at h1
      exact of_decide_eq_false h1
    obtain ⟨i1, i2⟩ := rising_pw r x h2
    refine ⟨fun y hy => ?_, List.pairwise_cons.mpr ⟨i1, i2⟩⟩
    rcases List.mem_cons.mp hy with rfl | hy
    · exact n1
    · intro hlt
      rcases ltS_tri x p with q | q | q
      · exact n1 q
      · exact i1 y hy (q ▸ hlt)
      · exact i1 y hy (ltS_trans hlt q)
theorem sortedS_pw {l : List Str} (h : sortedS l = true) : l.Pairwise (fun a b => ¬ ltS b a) := by
  cases l with
  | nil => exact .nil
  | cons x r =>
    obtain ⟨h1, h2⟩ := rising_pw r x h
    exact List.pairwise_cons.mpr ⟨h1, h2⟩
/-- sorted, and no two equal: ascending -/
theorem sortedS_lt {l : List Str} (h : sortedS l = true) (nd : l.Nodup) : l.Pairwise ltS := by
  have p := sortedS_pw h
  induction l with
  | nil => exact .nil
  | cons x r ih =>
    rw [List.pairwise_cons] at p ⊢
    rw [List.nodup_cons] at nd
    refine ⟨fun y hy => ?_, ih ?_ nd.2 p.2⟩
    · rcases ltS_tri x y with q | q | q
      · exact q
      · exact absurd (q ▸ hy) nd.1
      · exact absurd q (p.1 y hy)
    · refine sortedS_of_pairwise r (p.2.imp fun {a b} q => ?_)
      rw [ltCps_eq]
      exact decide_eq_false q
/-- two ascending lists of the same items are one -/
theorem asc_unique {α : Type} {R : α → α → Prop} (irr : ∀ x, ¬ R x x) (tr : ∀ {x y z}, R x y → R y z → R x z) : ∀ {l m : List α}, l.Pairwise R → m.Pairwise R → (∀ x, x ∈ l ↔ x ∈ m) → l = m
  | [], [], _, _, _ => rfl
  | [], y :: m, _, _, h => absurd ((h y).mpr List.mem_cons_self) (by simp)
  | x :: l, [], _, _, h => absurd ((h x).mp List.mem_cons_self) (by simp)
  | x :: l, y :: m, p, q, h => by
    rw [List.pairwise_cons] at p q
    have e : x = y := by
      rcases List.mem_cons.mp ((h x).mp List.mem_cons_self) with e | hx
      · exact e
      · rcases List.mem_cons.mp ((h y).mpr List.mem_cons_self) with e | hy
        · exact e.symm
        · exact absurd (tr (p.1 y hy) (q.1 x hx)) (irr x)
    subst e
    congr 1
    refine asc_unique irr tr p.2 q.2 fun z => ⟨fun hz => ?_, fun hz => ?_⟩
    · rcases List.mem_cons.mp ((h z).mp (List.mem_cons_of_mem _ hz)) with e | hz'
      · exact absurd (e ▸ p.1 z hz) (irr x)
      · exact hz'
    · rcases List.mem_cons.mp ((h z).mpr (List.mem_cons_of_mem _ hz)) with e | hz'
      · exact absurd (e ▸ q.1 z hz) (irr x)
      · exact hz'
structure Rw where
  nm : Str
  lo : Int
  hi : Int
  pr : Int
deriving DecidableEq
def ltR (a b : Rw) : Prop := ltS a.nm b.nm
theorem ltR_irrefl (x : Rw) : ¬ ltR x x := ltS_irrefl _
theorem ltR_trans {x y z : Rw} (a : ltR x y) (b : ltR y z) : ltR x z := ltS_trans a b
/-- ascending by name -/
def Asc (rs : List Rw) : Prop := rs.Pairwise ltR
theorem Asc.nodup {rs : List Rw} (h : Asc rs) : (rs.map (·.nm)).Nodup := by
  unfold Asc at h
  rw [List.nodup_iff_pairwise_ne, List.pairwise_map]
  exact h.imp fun {a b} q (e : a.nm = b.nm) => ltS_irrefl b.nm (by have z : ltS a.nm b.nm := q; rw [e] at z; exact z)
theorem Asc.unique {l m : List Rw} (p : Asc l) (q : Asc m) (h : ∀ x, x ∈ l ↔ x ∈ m) : l = m := asc_unique ltR_irrefl ltR_trans p q h
/-- r in, in the place of the row of its name if there is one -/
def putR (rs : List Rw) (r : Rw) : List Rw := if r.nm ∈ rs.map (·.nm) then rs.map fun x => if x.nm = r.nm then r else x else rs ++ [r]
theorem putR_mem {rs : List Rw} {r x : Rw} : x ∈ putR rs r ↔ x = r ∨ (x ∈ rs ∧ x.nm ≠ r.nm) := by
  unfold putR
  by_cases h : r.nm ∈ rs.map (·.nm)
  · rw [if_pos h, List.mem_map]
    constructor
    · rintro ⟨y, hy, e⟩
      by_cases q : y.nm = r.nm
      · rw [if_pos q] at e
        exact .inl e.symm
      · rw [if_neg q] at e
        exact .inr ⟨e ▸ hy, e ▸ q⟩
    · rintro (rfl | ⟨hx, n⟩)
      · obtain ⟨y, hy, e⟩ := List.mem_map.mp h
        exact ⟨y, hy, if_pos e⟩
      · exact ⟨x, hx, if_neg n⟩
  · rw [if_neg h, List.mem_append, List.mem_singleton]
    constructor
    · rintro (hx | rfl)
      · exact .inr ⟨hx, fun e => h (e ▸ List.mem_map.mpr ⟨x, hx, rfl⟩)⟩
      · exact .inl rfl
    · rintro (rfl | ⟨hx, _⟩)
      · exact .inr rfl
      · exact .inl hx
theorem putR_names {rs : List Rw} {r : Rw} : (putR rs r).map (·.nm) = if r.nm ∈ rs.map (·.nm) then rs.map (·.nm) else rs.map (·.nm) ++ [r.nm] := by
  unfold putR
  by_cases h : r.nm ∈ rs.map (·.nm)
  · rw [if_pos h, if_pos h, List.map_map]
    refine List.map_congr_left fun x _ => ?_
    show (if x.nm = r.nm then r else x).nm = x.nm
    by_cases q : x.nm = r.nm
    · rw [if_pos q]
      exact q.symm
    · rw [if_neg q]
  · rw [if_neg h, if_neg h, List.map_append]
    rfl
theorem putR_nodup {rs : List Rw} {r : Rw} (n : (rs.map (·.nm)).Nodup) : ((putR rs r).map (·.nm)).Nodup := by
  rw [putR_names]
  by_cases h : r.nm ∈ rs.map (·.nm)
  · rw [if_pos h]
    exact n
  · rw [if_neg h]
    exact nd_snoc n h
theorem putR_len {rs : List Rw} {r : Rw} : (putR rs r).length ≤ rs.length + 1 := by
  have e := congrArg List.length (putR_names (rs := rs) (r := r))
  rw [List.length_map] at e
  rw [e]
  by_cases h : r.nm ∈ rs.map (·.nm)
  · rw [if_pos h, List.length_map]
    omega
  · rw [if_neg h, List.length_append, List.length_map]
    exact Nat.le_refl _
/-! ### the dict of rows: names to addresses -/
def ents (as : List Addr) (rs : List Rw) : List (Key × V) := (as.zip rs).map fun p => (Sum.inr p.2.nm, V.ref p.1)
theorem ents_keys : ∀ {as : List Addr} {rs : List Rw}, as.length = rs.length → (ents as rs).map (·.1) = (rs.map (·.nm)).map Sum.inr
  | [], [], _ => rfl
  | a :: as, r :: rs, h => by
    have i := ents_keys (as := as) (rs := rs) (by simpa using h)
    unfold ents at i ⊢
    rw [List.zip_cons_cons, List.map_cons, List.map_cons, List.map_cons, List.map_cons, i]
theorem ents_vals : ∀ {as : List Addr} {rs : List Rw}, as.length = rs.length → (ents as rs).map (·.2) = as.map V.ref
  | [], [], _ => rfl
  | a :: as, r :: rs, h => by
    have i := ents_vals (as := as) (rs := rs) (by simpa using h)
    unfold ents at i ⊢
    rw [List.zip_cons_cons, List.map_cons, List.map_cons, List.map_cons, i]
theorem ents_len {as : List Addr} {rs : List Rw} (h : as.length = rs.length) : (ents as rs).length = rs.length := by
  unfold ents
  rw [List.length_map, List.length_zip, h, Nat.min_self]
theorem ents_none : ∀ {as : List Addr} {rs : List Rw} {n : Str}, n ∉ rs.map (·.nm) → valV (ents as rs) (Sum.inr n : Key) = none
  | [], _, _, _ => rfl
  | _ :: _, [], _, _ => rfl
  | a :: as, r :: rs, n, h => by
    rw [List.map_cons, List.mem_cons, not_or] at h
    have i := ents_none (as := as) h.2
    unfold ents at i ⊢
    rw [List.zip_cons_cons, List.map_cons]
    exact (valV_neg (fun z => h.1 (Sum.inr.inj z).symm)).trans i
theorem ents_some : ∀ {as : List Addr} {rs : List Rw} {i : Nat} {a : Addr} {r : Rw}, (rs.map (·.nm)).Nodup → as[i]? = some a → rs[i]? = some r → valV (ents as rs) (Sum.inr r.nm : Key) = some (.ref a)
  | [], _, _, _, _, _, h, _ => by simp at h
  | _ :: _, [], _, _, _, _, _, h => by simp at h
  | a :: as, r :: rs, 0, _, _, _, h, g => by
    simp at h g
    subst h g
    exact valV_pos rfl
  | a :: as, r :: rs, i + 1, b, q, n, h, g => by
    rw [List.map_cons, List.nodup_cons] at n
    simp at h g
    have i := ents_some n.2 h g
    unfold ents at i ⊢
    rw [List.zip_cons_cons, List.map_cons]
    refine (valV_neg fun z => n.1 ?_).trans i
    rw [show r.nm = q.nm from Sum.inr.inj z]
    exact List.mem_map.mpr ⟨q, List.mem_of_getElem? g, rfl⟩
/-- the addresses behind a row put in -/
def putA : List Addr → List Rw → Addr → Str → List Addr
  | [], _, a, _ => [a]
  | b :: as, [], a, _ => b :: as
  | b :: as, r :: rs, a, n => if r.nm = n then a :: as else b :: putA as rs a n
theorem ents_put : ∀ {as : List Addr} {rs : List Rw} {a : Addr} {r : Rw}, as.length = rs.length → (rs.map (·.nm)).Nodup → putK (ents as rs) (Sum.inr r.nm : Key) (.ref a) = ents (putA as rs a r.nm) (putR rs r) ∧ (putA as rs a r.nm).length = (putR rs r).length
  | [], [], a, r, _, _ => ⟨rfl, rfl⟩
  | b :: as, x :: rs, a, r, h, n => by
    have hl : as.length = rs.length := by simpa using h
    rw [List.map_cons, List.nodup_cons] at n
    by_cases q : x.nm = r.nm
    · have e1 : putA (b :: as) (x :: rs) a r.nm = a :: as := if_pos q
      have nr : ∀ y ∈ rs, y.nm ≠ r.nm := fun y hy z => n.1 (q ▸ z ▸ List.mem_map.mpr ⟨y, hy, rfl⟩)
      have e2 : putR (x :: rs) r = r :: rs := by
        unfold putR
        rw [if_pos (by rw [List.map_cons, q]; exact List.mem_cons_self), List.map_cons, if_pos q]
        congr 1
        exact (List.map_congr_left (g := id) fun y hy => (if_neg (nr y hy) : (if y.nm = r.nm then r else y) = y)).trans (List.map_id rs)
      rw [e1, e2]
      refine ⟨?_, by rw [List.length_cons, List.length_cons, hl]⟩
      have old : (ents as rs).map (fun kv => if kv.1 = (Sum.inr r.nm : Key) then (kv.1, V.ref a) else kv) = ents as rs := by
        refine (List.map_congr_left (g := id) fun kv hkv => ?_).trans (List.map_id _)
        refine if_neg fun z => ?_
        have m : kv.1 ∈ (ents as rs).map (·.1) := List.mem_map.mpr ⟨kv, hkv, rfl⟩
        rw [ents_keys hl, z] at m
        obtain ⟨y, hy, e⟩ := List.mem_map.mp m
        obtain ⟨w, hw, e'⟩ := List.mem_map.mp hy
        exact nr w hw (e'.trans (Sum.inr.inj e))
      have c1 : ents (b :: as) (x :: rs) = (Sum.inr x.nm, V.ref b) :: ents as rs := rfl
      have c2 : ents (a :: as) (r :: rs) = (Sum.inr r.nm, V.ref a) :: ents as rs := rfl
      rw [c1, c2]
      unfold putK
      rw [if_pos (by rw [List.any_cons, q]; simp), List.map_cons, old, if_pos (by rw [q]), q]
    · have e1 : putA (b :: as) (x :: rs) a r.nm = b :: putA as rs a r.nm := if_neg q
      obtain ⟨i1, i2⟩ := ents_put (a := a) (r := r) hl n.2
      have e2 : putR (x :: rs) r = x :: putR rs r := by
        unfold putR
        have m : r.nm ∈ (x :: rs).map (·.nm) ↔ r.nm ∈ rs.map (·.nm) := by
          rw [List.map_cons, List.mem_cons]
          exact ⟨fun z => z.elim (fun z => absurd z.symm q) id, .inr⟩
        by_cases hm : r.nm ∈ rs.map (·.nm)
        · rw [if_pos (m.mpr hm), if_pos hm, List.map_cons, if_neg q]
        · rw [if_neg (fun z => hm (m.mp z)), if_neg hm]
          rfl
      rw [e1, e2]
      refine ⟨?_, by rw [List.length_cons, List.length_cons, i2]⟩
      have c1 : ents (b :: as) (x :: rs) = (Sum.inr x.nm, V.ref b) :: ents as rs := rfl
      have c2 : ents (b :: putA as rs a r.nm) (x :: putR rs r) = (Sum.inr x.nm, V.ref b) :: ents (putA as rs a r.nm) (putR rs r) := rfl
      rw [c1, c2, ← i1]
      have q' : ¬ (Sum.inr x.nm : Key) = Sum.inr r.nm := fun z => q (Sum.inr.inj z)
      unfold putK
      by_cases an : ((ents as rs).any fun kv => decide (kv.1 = (Sum.inr r.nm : Key))) = true
      · rw [if_pos (by rw [List.any_cons, an, Bool.or_true]), if_pos an, List.map_cons, if_neg q']
      · rw [if_neg (by rw [List.any_cons, Bool.eq_false_iff.mpr an, decide_eq_false q']; decide), if_neg an]
        rfl
theorem ents_snoc {as : List Addr} {rs : List Rw} {a : Addr} {r : Rw} (h : as.length = rs.length) : ents (as ++ [a]) (rs ++ [r]) = ents as rs ++ [(Sum.inr r.nm, V.ref a)] := by
  unfold ents
  rw [List.zip_append h, List.map_append]
  rfl
theorem take_snoc {α : Type} {l : List α} {i : Nat} {x : α} (h : l[i]? = some x) : l.take (i + 1) = l.take i ++ [x] := by
  rw [List.take_add_one, h]
  rfl
theorem name_inj : ∀ {rs : List Rw} {a b : Rw}, (rs.map (·.nm)).Nodup → a ∈ rs → b ∈ rs → a.nm = b.nm → a = b
  | r :: rs, a, b, n, ha, hb, e => by
    rw [List.map_cons, List.nodup_cons] at n
    rcases List.mem_cons.mp ha with ea | ha' <;> rcases List.mem_cons.mp hb with eb | hb'
    · rw [ea, eb]
    · exact absurd (show r.nm ∈ rs.map (·.nm) by rw [← ea, e]; exact List.mem_map.mpr ⟨b, hb', rfl⟩) n.1
    · exact absurd (show r.nm ∈ rs.map (·.nm) by rw [← eb, ← e]; exact List.mem_map.mpr ⟨a, ha', rfl⟩) n.1
    · exact name_inj n.2 ha' hb' e
/-- a place where both stand -/
def Both (as : List Addr) (rs : List Rw) (a : Addr) (r : Rw) : Prop := ∃ i : Nat, as[i]? = some a ∧ rs[i]? = some r
theorem pick_rows {as : List Addr} {rs : List Rw} (hl : as.length = rs.length) : ∀ ys : List Str, (∀ y ∈ ys, y ∈ rs.map (·.nm)) → ∃ as' rs', rs'.map (·.nm) = ys ∧ Paired (Both as rs) as' rs'
  | [], _ => ⟨[], [], rfl, .nil⟩
  | y :: ys, h => by
    obtain ⟨as', rs', e, p⟩ := pick_rows hl ys fun z hz => h z (List.mem_cons_of_mem _ hz)
    obtain ⟨r, hr, er⟩ := List.mem_map.mp (h y List.mem_cons_self)
    obtain ⟨i, hi, ei⟩ := List.mem_iff_getElem.mp hr
    refine ⟨as[i]'(by omega) :: as', r :: rs', by rw [List.map_cons, e, er], .cons ⟨i, List.getElem?_eq_getElem _, ?_⟩ p⟩
    rw [List.getElem?_eq_getElem hi, ei]
theorem Both.mem {as : List Addr} {rs : List Rw} {a : Addr} {r : Rw} (h : Both as rs a r) : r ∈ rs := let ⟨_, _, e⟩ := h; List.mem_of_getElem? e
theorem paired_mem {as as' : List Addr} {rs rs' : List Rw} (p : Paired (Both as rs) as' rs') {r : Rw} (h : r ∈ rs') : r ∈ rs := by
  induction p with
  | nil => simp at h
  | cons b _ ih =>
    rcases List.mem_cons.mp h with rfl | h
    · exact b.mem
    · exact ih h
theorem pick_mem {as as' : List Addr} {rs rs' : List Rw} {ys : List Str} (n : (rs.map (·.nm)).Nodup) (p : Paired (Both as rs) as' rs') (e : rs'.map (·.nm) = ys) (perm : ys.Perm (rs.map (·.nm))) (r : Rw) : r ∈ rs' ↔ r ∈ rs := by
  refine ⟨paired_mem p, fun h => ?_⟩
  have m : r.nm ∈ ys := perm.symm.subset (List.mem_map.mpr ⟨r, h, rfl⟩)
  rw [← e] at m
  obtain ⟨q, hq, eq⟩ := List.mem_map.mp m
  rw [← name_inj n (paired_mem p hq) h eq]
  exact hq
theorem asc_of_names {rs : List Rw} (h : (rs.map (·.nm)).Pairwise ltS) : Asc rs := by
  rw [List.pairwise_map] at h
  exact h
theorem paired_len' {α β : Type} {F : α → β → Prop} {xs : List α} {ys : List β} (h : Paired F xs ys) : xs.length = ys.length := paired_len h
theorem paired_take {α β : Type} {F : α → β → Prop} {xs : List α} {ys : List β} (h : Paired F xs ys) : ∀ n : Nat, (xs.take n).length = (ys.take n).length := fun n => by
  rw [List.length_take, List.length_take, paired_len h]
theorem items_put {F : Addr → Rw → Prop} {a : Addr} {r : Rw} (hf : F a r) : ∀ {as : List Addr} {rs : List Rw}, Paired F as rs → (rs.map (·.nm)).Nodup → Paired F (putA as rs a r.nm) (putR rs r)
  | _, _, .nil, _ => .cons hf .nil
  | b :: as, x :: rs, .cons h t, n => by
    rw [List.map_cons, List.nodup_cons] at n
    have i := items_put hf t n.2
    by_cases q : x.nm = r.nm
    · have e1 : putA (b :: as) (x :: rs) a r.nm = a :: as := if_pos q
      have nr : ∀ y ∈ rs, y.nm ≠ r.nm := fun y hy z => n.1 (q ▸ z ▸ List.mem_map.mpr ⟨y, hy, rfl⟩)
      have e2 : putR (x :: rs) r = r :: rs := by
        unfold putR
        rw [if_pos (by rw [List.map_cons, q]; exact List.mem_cons_self), List.map_cons, if_pos q]
        congr 1
        exact (List.map_congr_left (g := id) fun y hy => (if_neg (nr y hy) : (if y.nm = r.nm then r else y) = y)).trans (List.map_id rs)
      rw [e1, e2]
      exact .cons hf t
    · have e1 : putA (b :: as) (x :: rs) a r.nm = b :: putA as rs a r.nm := if_neg q
      have e2 : putR (x :: rs) r = x :: putR rs r := by
        unfold putR
        have m : r.nm ∈ (x :: rs).map (·.nm) ↔ r.nm ∈ rs.map (·.nm) := by
          rw [List.map_cons, List.mem_cons]
          exact ⟨fun z => z.elim (fun z => absurd z.symm q) id, .inr⟩
        by_cases hm : r.nm ∈ rs.map (·.nm)
        · rw [if_pos (m.mpr hm), if_pos hm, List.map_cons, if_neg q]
        · rw [if_neg (fun z => hm (m.mp z)), if_neg hm]
          rfl
      rw [e1, e2]
      exact .cons h i
/-- rows put in, one after the other -/
def putAll (rs qs : List Rw) : List Rw := qs.foldl putR rs
theorem putAll_nodup : ∀ {qs rs : List Rw}, (rs.map (·.nm)).Nodup → ((putAll rs qs).map (·.nm)).Nodup
  | [], _, h => h
  | q :: qs, rs, h => putAll_nodup (qs := qs) (putR_nodup h)
theorem putAll_len : ∀ {qs rs : List Rw}, (putAll rs qs).length ≤ rs.length + qs.length
  | [], _ => Nat.le_refl _
  | q :: qs, rs => by
    have h := putAll_len (qs := qs) (rs := putR rs q)
    have l := putR_len (rs := rs) (r := q)
    rw [List.length_cons]
    show (putAll (putR rs q) qs).length ≤ _
    omega
theorem putAll_snoc {rs qs : List Rw} {q : Rw} : putAll rs (qs ++ [q]) = putR (putAll rs qs) q := by
  unfold putAll
  rw [List.foldl_append]
  rfl
/-- of rows with different names: those put in, and the others that were there -/
theorem putAll_mem : ∀ {qs rs : List Rw} {x : Rw}, (qs.map (·.nm)).Nodup → (x ∈ putAll rs qs ↔ x ∈ qs ∨ (x ∈ rs ∧ x.nm ∉ qs.map (·.nm)))
  | [], rs, x, _ => by simp [putAll]
  | q :: qs, rs, x, n => by
    rw [List.map_cons, List.nodup_cons] at n
    have h := putAll_mem (qs := qs) (rs := putR rs q) (x := x) n.2
    show x ∈ putAll (putR rs q) qs ↔ _
    rw [h, putR_mem, List.mem_cons, List.map_cons, List.mem_cons, not_or]
    constructor
    · rintro (a | ⟨rfl | ⟨a, b⟩, c⟩)
      · exact .inl (.inr a)
      · exact .inl (.inl rfl)
      · exact .inr ⟨a, b, c⟩
    · rintro ((rfl | a) | ⟨a, b, c⟩)
      · exact .inr ⟨.inl rfl, n.1⟩
      · exact .inl a
      · exact .inr ⟨.inr ⟨a, b⟩, c⟩
theorem putAll_in : ∀ {qs rs : List Rw}, (∀ q ∈ qs, q.nm ∈ rs.map (·.nm)) → (putAll rs qs).length = rs.length
  | [], _, _ => rfl
  | q :: qs, rs, h => by
    have e : (putR rs q).map (·.nm) = rs.map (·.nm) := by rw [putR_names, if_pos (h q List.mem_cons_self)]
    have i := putAll_in (qs := qs) (rs := putR rs q) fun p hp => by rw [e]; exact h p (List.mem_cons_of_mem _ hp)
    show (putAll (putR rs q) qs).length = _
    rw [i, ← List.length_map (f := (·.nm)), e, List.length_map]
/-- a row behind the values that are told -/
def tellR (kn : List (Str × Int)) (r : Rw) : Rw := match kn.lookup r.nm with
  | some v => ⟨r.nm, v, v, 0⟩
  | none => r
theorem tellR_nm (kn : List (Str × Int)) (r : Rw) : (tellR kn r).nm = r.nm := by
  unfold tellR
  cases kn.lookup r.nm <;> rfl
theorem tellR_names (kn : List (Str × Int)) (rs : List Rw) : (rs.map (tellR kn)).map (·.nm) = rs.map (·.nm) := by
  rw [List.map_map]
  exact List.map_congr_left fun r _ => tellR_nm kn r
theorem tellR_asc {kn : List (Str × Int)} {rs : List Rw} (h : Asc rs) : Asc (rs.map (tellR kn)) := by
  unfold Asc ltR at *
  rw [List.pairwise_map]
  exact h.imp fun {a b} q => by rw [tellR_nm, tellR_nm]; exact q
theorem lookup_mem : ∀ {kn : List (Str × Int)} {n : Str} {v : Int}, kn.lookup n = some v → (n, v) ∈ kn
  | (m, w) :: kn, n, v, h => by
    rw [List.lookup_cons] at h
    by_cases e : n = m
    · subst e
      rw [beq_self_eq_true] at h
      cases h
      exact List.mem_cons_self
    · rw [beq_false_of_ne e] at h
      exact List.mem_cons_of_mem _ (lookup_mem h)
theorem lookup_of_mem : ∀ {kn : List (Str × Int)} {n : Str} {v : Int}, (kn.map (·.1)).Nodup → (n, v) ∈ kn → kn.lookup n = some v
  | (m, w) :: kn, n, v, nd, h => by
    rw [List.map_cons, List.nodup_cons] at nd
    rw [List.lookup_cons]
    rcases List.mem_cons.mp h with e | h
    · cases e
      rw [beq_self_eq_true]
    · have e : n ≠ m := fun e => nd.1 (e ▸ List.mem_map.mpr ⟨(n, v), h, rfl⟩)
      rw [beq_false_of_ne e]
      exact lookup_of_mem nd.2 h
theorem lookup_none : ∀ {kn : List (Str × Int)} {n : Str}, n ∉ kn.map (·.1) → kn.lookup n = none
  | [], _, _ => rfl
  | (m, w) :: kn, n, h => by
    rw [List.map_cons, List.mem_cons, not_or] at h
    rw [List.lookup_cons, beq_false_of_ne h.1]
    exact lookup_none h.2
/-- what with_items makes of the told rows -/
theorem told_mem {kn : List (Str × Int)} {rs qs : List Rw} (nr : (rs.map (·.nm)).Nodup) (nk : (kn.map (·.1)).Nodup) (inn : ∀ p ∈ kn, p.1 ∈ rs.map (·.nm)) (hq : ∀ q, q ∈ qs ↔ ∃ p ∈ kn, q = ⟨p.1, p.2, p.2, 0⟩) (nq : (qs.map (·.nm)).Nodup) (r : Rw) :
    r ∈ putAll rs qs ↔ r ∈ rs.map (tellR kn) := by
  have names : ∀ n, n ∈ qs.map (·.nm) ↔ n ∈ kn.map (·.1) := fun n => by
    constructor
    · intro h
      obtain ⟨q, h1, h2⟩ := List.mem_map.mp h
      obtain ⟨p, h3, h4⟩ := (hq q).mp h1
      exact List.mem_map.mpr ⟨p, h3, by rw [← h2, h4]⟩
    · intro h
      obtain ⟨p, h1, h2⟩ := List.mem_map.mp h
      exact List.mem_map.mpr ⟨_, (hq _).mpr ⟨p, h1, rfl⟩, h2⟩
  refine (putAll_mem nq).trans (Iff.trans ?_ List.mem_map.symm)
  constructor
  · rintro (h | ⟨h1, h2⟩)
    · obtain ⟨⟨n, v⟩, h1, rfl⟩ := (hq r).mp h
      obtain ⟨x, hx, ex⟩ := List.mem_map.mp (inn _ h1)
      refine ⟨x, hx, ?_⟩
      unfold tellR
      rw [show x.nm = n from ex, lookup_of_mem nk h1]
    · refine ⟨r, h1, ?_⟩
      unfold tellR
      rw [lookup_none (fun z => h2 ((names _).mpr z))]
  · rintro ⟨x, hx, rfl⟩
    unfold tellR
    cases e : kn.lookup x.nm with
    | some v => exact .inl ((hq _).mpr ⟨(x.nm, v), lookup_mem e, rfl⟩)
    | none =>
      refine .inr ⟨hx, fun z => ?_⟩
      obtain ⟨p, hp, ep⟩ := List.mem_map.mp ((names _).mp z)
      have := lookup_of_mem (n := x.nm) (v := p.2) nk (by rw [← ep]; exact hp)
      rw [e] at this
      cases this
theorem paired_snoc {α β : Type} {F : α → β → Prop} {x : α} {y : β} : ∀ {xs : List α} {ys : List β}, Paired F xs ys → F x y → Paired F (xs ++ [x]) (ys ++ [y])
  | _, _, .nil, h => .cons h .nil
  | _, _, .cons a r, h => .cons a (paired_snoc r h)
end Ask

set_option Elab.async false
set_option linter.all false
set_option maxRecDepth 100000
set_option maxHeartbeats 3200000
/-! len(set(xs)), xs a list of texts, no two alike -/
namespace Ask
open PySem PySem.Spec L2 SS
open PyProof.Rows
/-- the texts so far, as a set tells them -/
def inL (l : List Str) (k : Str) : Bool := l.any (· == k)
theorem inL_snoc (l : List Str) (x k : Str) : inL (l ++ [x]) k = (inL l k || decide (k = x)) := by
  unfold inL
  rw [List.any_append]
  congr 1
  by_cases e : k = x
  · rw [e, decide_eq_true rfl]
    simp
  · rw [decide_eq_false e]
    simp
    exact fun z => e z.symm
theorem inL_no {l : List Str} {x : Str} (h : x ∉ l) : inL l x = false := by
  cases e : inL l x with
  | false => rfl
  | true =>
    obtain ⟨y, hy, ey⟩ := List.any_eq_true.mp e
    exact absurd (eq_of_beq ey ▸ hy) h
section
variable {prog : Program} {w : World} {A : Around} {R : Result → Shared → Prop} {I : Addr} {fp wr : List Addr} {G : Array GenState → Array GenState → Prop} {n : Nat} {P : Nat → Value → Prop} {St : Nat → Shared → Prop}
theorem addLoop (W : WalksS prog w A.in1 I fp wr G n P St) (S : Addr) (nS : S ∉ fp) (xs : List Str) (ln : xs.length = n) (nd : xs.Nodup) (room : n + 1 < scanBound) (is : ∀ i v, P i v → ∃ x t, xs[i]? = some x ∧ v = .str x t) :
    ∀ (rest : List Str) (i : Nat) (s : Shared), xs = xs.take i ++ rest → i + rest.length = n → St i s → s.heap.SetOf (strKind prog w) S (inL (xs.take i)) i →
      (∀ s', Moved (S :: wr) G s s' → s'.heap.SetOf (strKind prog w) S (inL xs) n → R (.ok (.ret .none)) s') → codeAny (model prog w) A (.builtin "set.update.loop" ⟨[.ref S, .ref I], []⟩) R s := by
  have nSw : S ∉ wr := fun z => nS (W.sub _ z)
  have wide : ∀ b ∈ wr, b ∈ S :: wr := fun b z => List.mem_cons_of_mem _ z
  have stay : ∀ {s s' : Shared} {T : Str → Bool} {m : Nat}, Moved wr G s s' → s.heap.SetOf (strKind prog w) S T m → s'.heap.SetOf (strKind prog w) S T m := by
    rintro s s' T m mv ⟨o, es, ep, t, ho, r⟩
    exact ⟨o, es, ep, t, mv.heap S _ nSw ho, r⟩
  intro rest
  induction rest with
  | nil =>
    intro i s ex li st so k
    obtain rfl : i = n := by simpa using li
    rw [List.append_nil] at ex
    rw [← ex] at so
    refine codeAny_builtin F.entry_set_update_loop ?_
    rw [Around.under_plainId F.plain_set_update_loop _]
    exact wpAny_bind (W.done s _ _ st fun s' mv => wpAny_pure (k s' (mv.mono wide) (stay mv so)))
  | cons x rest ih =>
    intro i s ex li st so k
    have ex0 := ex
    have lt : i < n := by
      rw [List.length_cons] at li
      omega
    have lt2 : (xs.take i).length = i := by
      rw [List.length_take]
      omega
    have atx : xs[i]? = some x := by
      rw [ex, List.getElem?_append_right (by omega), lt2, Nat.sub_self]
      rfl
    have tk : xs.take (i + 1) = xs.take i ++ [x] := take_snoc atx
    have new : x ∉ xs.take i := by
      rw [ex, List.nodup_append] at nd
      exact fun z => nd.2.2 x z x List.mem_cons_self rfl
    refine codeAny_builtin F.entry_set_update_loop ?_
    rw [Around.under_plainId F.plain_set_update_loop _]
    refine wpAny_bind (W.item i s _ _ lt st fun v s1 hP st1 mv => ?_)
    obtain ⟨y, t, ey, rfl⟩ := is i v hP
    obtain rfl : x = y := Option.some.inj (atx.symm.trans ey)
    have so1 := stay mv so
    refine wpAny_bind (wpAny_holding ?_)
    unfold setAdd
    refine wpAny_holding (wpAny_bind ((strKind prog w).pyHash (k := x) (strKind_is _ _ _ _) ?_))
    refine wpAny_setAddHashed_of (knd := strKind prog w) (s := { s1 with toks := s1.toks + 1 }) (strKind_is _ _ _ _) rfl so1 (by omega) fun h2 sb so2 => ?_
    have so3 : h2.SetOf (strKind prog w) S (inL (xs.take (i + 1))) (i + 1) :=
      SetOf_congr so2 (fun j => by rw [tk, inL_snoc]) (by rw [inL_no new]; rfl)
    refine wpAny_pure ⟨plainId_quiet F.plain_set_update_loop _, ih (i + 1) _ ?_ ?_ (W.frame _ s1 _ _ st1 (Nat.le_succ _) fun b hb o e => ?_) so3 fun s3 mv3 so4 => ?_⟩
    · rw [tk, List.append_assoc]
      exact ex0
    · rw [List.length_cons] at li
      omega
    · rw [sb.2 b fun z => nS (z ▸ hb)]
      exact e
    · refine k s3 (Moved.trans W.gtrans ((mv.mono wide).then_heap (Nat.le_succ _) fun b o hb e => ?_) mv3) so4
      rw [sb.2 b fun z => hb (z ▸ List.mem_cons_self)]
      exact e
end
section
variable {prog : Program} {w : World} {A : Around} {E : Value → Shared → Prop} {s : Shared}
abbrev freshSet (led : Bool) : Obj := { cls := .type "set", dict := none, data := .set #[] 0 (.fresh 0 0 led) }
/-- what set(l) leaves -/
def SetLeft (prog : Program) (w : World) (s : Shared) (xs : List Str) (s2 : Shared) : Prop := ∃ h' tk, s2 = { s with heap := h', toks := tk } ∧
  h'.SetOf (strKind prog w) s.heap.objs.size (inL xs) xs.length ∧ ∀ b o, b < s.heap.objs.size → s.heap.get? b = some o → h'.get? b = some o
theorem set_body {l : Addr} {items : Array Value} {xs : List Str} {led : Bool} {R : Result → Shared → Prop} (hh : A.handled = none) (hl : s.heap.IsList l items) (hi : StrsAre items.toList xs) (nd : xs.Nodup) (room : xs.length + 1 < scanBound)
    (hR : ∀ s2, SetLeft prog w s xs s2 → R (.ok (.ret .none)) s2) :
    codeAny (model prog w) A (.builtin "set.__init__" ⟨[.ref s.heap.objs.size, .ref l], []⟩) R { s with heap := s.heap.push (freshSet led) } := by
  have at0 : (s.heap.push (freshSet led)).get? s.heap.objs.size = some (freshSet led) := Heap.get?_push_size _ rfl
  have ty0 : Shared.TypeIs { s with heap := s.heap.push (freshSet led) } (.ref s.heap.objs.size) "set" := ⟨_, at0, rfl⟩
  have ll : l < s.heap.objs.size := let ⟨_, e, _⟩ := hl; Heap.lt_size e
  have l1 : (s.heap.push (freshSet led)).IsList l items := hl.push _
  obtain ⟨⟨lc, ldd, ldt, lsl⟩, e1, c1, nl, d1⟩ := id l1
  dsimp only at c1 d1
  subst c1 d1
  have n1 := PySem.F.sub_list_set; have n2 := PySem.F.sub_list_frozenset; have n3 : (Value.type "list" == Value.type "dict") = false := by decide
  refine codeAny_builtin PySem.F.entry_set_init ?_
  rw [Around.under_plainId PySem.F.called_set.init.plain _]
  unfold Builtin.«set.__init__» noKeywords Builtin.Frozenset.updateFrom
  generalize walksOff : pyIter = itr
  wp_walk
  subst walksOff
  refine wpAny_pyIter_list l1 (wpAny_bind (wpAny_runValue ?_))
  have sz : (s.heap.push (freshSet led)).objs.size = s.heap.objs.size + 1 := Heap.size_push _ _
  have lx : xs.length = items.size := (StrsAre.len_eq hi).symm.trans Array.length_toList
  have apart : l ≠ (s.heap.push (freshSet led)).objs.size := Nat.ne_of_lt (Nat.lt_of_lt_of_eq (Nat.lt_succ_of_lt ll) sz.symm)
  have out : s.heap.objs.size ∉ [(s.heap.push (freshSet led)).objs.size, l] := by
    simp only [List.mem_cons, List.not_mem_nil, or_false, not_or]
    exact ⟨Nat.ne_of_lt (Nat.lt_of_lt_of_eq (Nat.lt_succ_self _) sz.symm), Nat.ne_of_gt ll⟩
  refine addLoop ((Walks.list (by simp [hh]) _ l apart items).toS) s.heap.objs.size out xs lx nd (by omega) (fun i v hv => ?_) xs 0 _ rfl (by omega) ⟨⟨_, Heap.get?_push_size _ rfl, rfl, rfl⟩, l1.push _⟩ ?_ fun s' mv so => ?_
  · obtain ⟨t, e⟩ := strs_at hi i v (by rw [Array.getElem?_toList]; exact hv)
    have lt : i < xs.length := by rw [lx]; exact (Array.getElem?_eq_some_iff.mp hv).1
    refine ⟨xs[i], t, List.getElem?_eq_getElem lt, ?_⟩
    rw [e, List.getD_eq_getElem?_getD, List.getElem?_eq_getElem lt]
    rfl
  · exact SetOf_congr ((setObjOf_fresh (knd := strKind prog w) led).setOf (Heap.get?_push_of_some _ at0) (by unfold scanBound; omega)) (fun _ => rfl) rfl
  · obtain ⟨h', g', d', tk', os'⟩ := s'
    have eg : g' = s.gens := mv.gens; have ed : d' = s.drawn := mv.drawn; have eo : os' = s.os := mv.os
    subst eg ed eo
    refine wpAny_pure (wpAny_pure (hR _ ⟨h', tk', rfl, by rw [lx]; exact so, fun b o hb e => ?_⟩))
    refine mv.heap b o ?_ (Heap.get?_push_of_some _ (Heap.get?_push_of_some _ e))
    simp only [List.mem_cons, List.not_mem_nil, or_false, not_or]
    exact ⟨Nat.ne_of_lt hb, Nat.ne_of_lt (Nat.lt_of_lt_of_eq (Nat.lt_succ_of_lt hb) sz.symm)⟩
/-- set(l) -/
theorem call_set_texts {l : Addr} {items : Array Value} {xs : List Str} {Q : Value → Shared → Prop} (hh : A.handled = none) (hl : s.heap.IsList l items) (hi : StrsAre items.toList xs) (nd : xs.Nodup) (room : xs.length + 1 < scanBound)
    (h : ∀ s2, SetLeft prog w s xs s2 → Q (.ref s.heap.objs.size) s2) : wpAny (model prog w) A (call (.type "set") [.ref l]) Q E s := by
  have CS := PySem.F.called_set
  obtain ⟨c0, t0, mro⟩ := CS.mro
  have a1 := CS.made; have a2 := CS.sub; have a3 := CS.notType; have a4 := CS.canCreate
  have a5 := PySem.F.typeCall_set_1 (.ref l)
  refine wpAny_call (codeAny_of_tree ?_)
  show wpAny _ _ (callAny (.type "set") _) _ _ _; refine wpAny_pure ⟨Code.quiet_builtin _ (by decide +kernel), codeAny_builtin PySem.F.entry_type_call ?_⟩
  rw [Around.under_plain (weight_type_call_type "set" [.ref l] []) rfl]
  repeat (any_goals (first | assumption | wp_step))
  refine codeAny_mono (code_set_new_1 (.ref l) (E := E) (Q₁ := fun obj s₁ => ∃ led : Bool, obj = .ref s.heap.objs.size ∧ s₁ = { s with heap := s.heap.push (freshSet led) }) fun led => ⟨led, rfl, rfl⟩) fun r s₁ hr => ?_
  rcases r with e | (_ | _ | _ | obj)
  · exact hr
  · exact hr.elim
  · exact hr.elim
  · exact hr.elim
  · obtain ⟨led, eo, es⟩ := hr
    subst eo es
    have ty0 : Shared.TypeIs { s with heap := s.heap.push (freshSet led) } (.ref s.heap.objs.size) "set" := ⟨_, Heap.get?_push_size _ rfl, rfl⟩
    have b1 := CS.init.lookup; have b2 := CS.init.bind (.ref s.heap.objs.size)
    repeat (any_goals (first | assumption | wp_step))
    refine codeAny_call_builtin_code (plainId_quiet CS.init.plain _) (check_set_init_1 ty0 (set_body (by simp [hh]) hl hi nd room fun s2 left => ?_))
    repeat (any_goals (first | assumption | wp_step))
    exact h s2 left
end
end Ask

set_option Elab.async false
set_option linter.all false
set_option maxRecDepth 100000
set_option maxHeartbeats 2000000
namespace Ask
open PySem PySem.Spec L2
open PyProof.Rows
theorem texts_of : ∀ {xs : List Str} {us : List Value}, Vals (xs.map V.str) us → StrsAre us xs
  | [], _, .nil => .nil
  | x :: xs, _, .cons ⟨k, e⟩ t => by
    subst e
    exact .cons x k (texts_of t)
/-- len(set(e)), e a list of texts of which no two are alike -/
def tLenSetS (K : PySem.W.Frag) (ta : TE) : TE := fun σ H Q => ta σ H fun x H1 => ∃ (l : Addr) (xs : List Str), x = .ref l ∧ SqL K H1 l (xs.map V.str) ∧ xs.Nodup ∧ xs.length ≤ 4000 ∧ Q (.int (xs.length : Nat)) H1
theorem pe_lenSetS {X : Cx} {a : Expr} {ta : TE} {p p2 q pos : Pos} (hg : Gl X "len") (hm : X.mg "len" = none) (hg2 : Gl X "set") (hm2 : X.mg "set" = none) (ha : PE X a ta) (hc : X.calm = true := by rfl)
    (na : starEach [a] X.env = (false, eval a X.env) :: starEach [] X.env := by rfl) : PE X (.Call (.Name "len" p) [.Call (.Name "set" p2) [a] [] q] [] pos) (tLenSetS X.K ta) := by
  refine ⟨fun pins s σ H Q I h => Call_ (ld_blt I hg hm PySem.boot_len (PyProof.Rows.callWith_builtin1 (PyProof.Rows.args_cons ?_ rfl) rfl rfl))⟩
  refine Call_ (ld_blt I hg2 hm2 PyProof.Rows.boot_set (PyProof.Rows.callWith_type1 (PyProof.Rows.args_cons (thn (ha.run pins s σ H _ I h) ?_) na) na rfl))
  rintro v s1 ⟨x, H1, I1, r1, l, xs, rfl, hl, nd, few, k⟩
  cases r1
  refine PyProof.Rows.args_nil ?_
  obtain ⟨its, rv, pl, _⟩ := I1.list hl
  refine call_set_texts (I1.ok.hd hc) pl.isList (xs := xs) (by simpa using texts_of rv) nd (by unfold scanBound; omega) ?_
  rintro s2 ⟨h', tk, rfl, ⟨o, es, ep, t, ho, hex, hd, _, _, _, hf, hn⟩, hk⟩
  have I2 : Inv X pins σ H1 { s1 with heap := h', toks := tk } := I1.kept fun b o e => hk b o (Heap.lt_size e) e
  exact PyProof.Rows.args_nil (call_len_set ho hex hd hf (by rw [hn]; omega) ⟨.int xs.length, H1, I2.tok _, ⟨_, by rw [hn]⟩, k⟩)
theorem op_in_seqK {X : Cx} {K : PySem.W.Frag} (h : X.K = K) : OpR X (compareOp .In) (rIn K false) := h ▸ op_in_seq
theorem inV_mem {x : Str} {ns : List Str} (h : x ∈ ns) : inV (.str x) (ns.map V.str) = true := by
  unfold inV
  rw [List.any_map]
  exact List.any_eq_true.mpr ⟨x, h, by show eqV (.str x) (.str x) = true; simp [eqV]⟩
theorem inV_not {x : Str} {ns : List Str} (h : x ∉ ns) : inV (.str x) (ns.map V.str) = false := by
  cases e : inV (.str x) (ns.map V.str) with
  | false => rfl
  | true =>
    unfold inV at e
    rw [List.any_map] at e
    obtain ⟨y, hy, ey⟩ := List.any_eq_true.mp e
    have z : eqV (.str y) (.str x) = true := ey
    simp [eqV] at z
    exact absurd (z ▸ hy) h
theorem call_len_seqK {X : Cx} {K : PySem.W.Frag} (h : X.K = K) : CallR X (.builtin "len") (fun xs H Q => ∃ p ys, xs = [.ref p] ∧ (SqL K H p ys ∨ SqT K H p ys) ∧ Q (.int ys.length) H) := h ▸ call_len_seq
theorem pe_bmK {X : Cx} {K : PySem.W.Frag} (h : X.K = K) {e : Expr} {T : String} {r : V → List V → Hp → VK → Prop} {to : TE} {t : TA} (p : PE X e (tBM X.K T r to t)) : PE X e (tBM K T r to t) := h ▸ p
end Ask

set_option Elab.async false
set_option linter.all false
set_option maxRecDepth 100000
set_option maxHeartbeats 4000000
namespace Ask
open PySem L2
open PyProof.Rows
/-! comprehensions whose elements only make new objects; what is walked may be a list or a tuple -/
def SqB (K : PySem.W.Frag) (b : Bool) (H : Hp) (a : Addr) (xs : List V) : Prop := if b = true then SqL K H a xs else SqT K H a xs
def ItB (K : PySem.W.Frag) (b : Bool) (a : Addr) : It := if b = true then Itl K a else Itt K a
def iSeq (K : PySem.W.Frag) (tl : TE) : TI := fun σ H R => iList K tl σ H R ∨ iTup K tl σ H R
theorem pi_seq {X : Cx} {tg l : Expr} {tl : TE} (hl : PE X l tl) : PI X tg l (iSeq X.K tl) :=
  ⟨fun pins s σ H R I h => h.elim (fun z => (pi_list hl).run pins s σ H R I z) (fun z => (pi_tup hl).run pins s σ H R I z)⟩
theorem walk_seq {K : PySem.W.Frag} {b : Bool} {a : Addr} {xs : List V} : Walk (ItB K b a) xs.length (fun H => SqB K b H a xs) (YAt xs) := by
  cases b
  · exact walk_tup
  · exact walk_list
/-- a pure expression is walked: a list or a tuple -/
theorem seq_it {K : PySem.W.Frag} {tl : TE} {σ : L2.St} {H : Hp} {R : It → Hp → Prop} (h : ∃ (b : Bool), ∀ Q : VK, (∀ x H1, (∃ a xs, x = V.ref a ∧ SqB K b H1 a xs ∧ R (ItB K b a) H1) → Q x H1) → tl σ H Q) : iSeq K tl σ H R := by
  obtain ⟨b, h⟩ := h
  cases b
  · exact .inr (h _ fun x H1 ⟨a, xs, e, q, r⟩ => ⟨a, e, ⟨xs, q⟩, r⟩)
  · exact .inl (h _ fun x H1 ⟨a, xs, e, q, r⟩ => ⟨a, e, ⟨xs, q⟩, r⟩)
/-- what stood stands, but at two places -/
def Two (p q : Addr) (H H' : Hp) : Prop := ∀ b o, b ≠ p → b ≠ q → H b = some o → H' b = some o
theorem But.two {p q : Addr} {H H' : Hp} (h : But p H H') : Two p q H H' := fun b o hp _ e => h b o hp e
theorem But.two' {p q : Addr} {H H' : Hp} (h : But q H H') : Two p q H H' := fun b o _ hq e => h b o hq e
theorem snoc_filter {δ : Type} {ds : List δ} {i : Nat} {d : δ} (keep : δ → Bool) (h : ds[i]? = some d) : (ds.take (i + 1)).filter keep = (ds.take i).filter keep ++ (if keep d = true then [d] else []) := by
  rw [List.take_add_one, h, List.filter_append]
  congr 1
  show List.filter keep [d] = _
  cases e : keep d with
  | true => rw [List.filter_cons_of_pos e, if_pos rfl]; rfl
  | false => rw [List.filter_cons_of_neg (by rw [e]; decide), if_neg (by decide)]; rfl
/-- [elt for x in .. if ..]: each turn only makes new objects -/
theorem lc_pure {J : It} {n : Nat} {G : Hp → Prop} {Y : Nat → Hp → V → Hp → Prop} (w : Walk J n G Y) {δ : Type} (ds : List δ) (keep : δ → Bool) (R : δ → V → Hp → Prop)
    {g : TG} {tt : TT} {te : TE} {vs : List Nat} {σ : L2.St} {H1 : Hp} {D : Addr} {Qd : Hp → Prop} (hn : ds.length = n) (hD : H1 D = none) (hG : ∀ H', Same H1 H' → G H') (hY : ∀ i H x H', Y i H x H' → Same H H' ∧ (∀ o, H D = some o → H' D = some o)) (sz : n < sizeLine)
    (stab : ∀ d y Ha Hb, R d y Ha → (∃ acc, Ha D = some (.lst acc)) → But D Ha Hb → R d y Hb)
    (hs : ∀ (N : Hp → Prop) i x d H H', ds[i]? = some d → Same H1 H → (∃ acc, H D = some (.lst acc)) → Y i H x H' → (∃ acc, H' D = some (.lst acc)) → Same H1 H' →
      (fin : keep d = true → ∀ y H4, Same H' H4 → R d y H4 → ∃ acc, H4 D = some (.lst acc) ∧ acc.length < sizeLine ∧ N (upd H4 D (.lst (acc ++ [y])))) →
      (skip : keep d = false → ∀ H3, Same H' H3 → N H3) →
      g x (wipe σ vs) H' fun σ2 H2 => wipe σ2 vs = wipe σ vs ∧ tt σ2 H2 fun b H3 => if b = true then te σ2 H3 fun y H4 => ∃ acc, H4 D = some (.lst acc) ∧ acc.length < sizeLine ∧ N (upd H4 D (.lst (acc ++ [y]))) else N H3)
    (hd : ∀ ys H', Same H1 H' → H' D = some (.lst ys) → Paired (fun d y => R d y H') (ds.filter keep) ys → Qd H') :
    ∃ W : Nat → Nat → Hp → Prop, (∃ m, W 0 m (upd H1 D (.lst []))) ∧ ∀ i m H, W i m H →
      (J.stop i H ∧ Qd H) ∨ (J.go i H ∧ ∃ Nx : Hp → Prop, (∀ H', Nx H' → ∃ m', m' < m ∧ W (i + 1) m' H') ∧ ∀ x H', J.yld i H x H' → g x (wipe σ vs) H' fun σ2 H2 => wipe σ2 vs = wipe σ vs ∧ tt σ2 H2 fun b H3 =>
        if b = true then te σ2 H3 fun y H4 => ∃ acc, H4 D = some (.lst acc) ∧ acc.length < sizeLine ∧ Nx (upd H4 D (.lst (acc ++ [y]))) else Nx H3) := by
  refine lc_it w (fun i H => ∃ ys, Same H1 H ∧ H D = some (.lst ys) ∧ Paired (fun d y => R d y H) ((ds.take i).filter keep) ys) ?_ ?_ ?_ ?_
  · exact ⟨[], Same.new hD, upd_same, .nil⟩
  · rintro i H _ ⟨ys, s, _, _⟩
    exact hG H s
  · rintro i x H H' hi ⟨ys, s, eD, pr⟩ y
    have il : i < ds.length := by omega
    have ed : ds[i]? = some ds[i] := List.getElem?_eq_getElem il
    obtain ⟨sY, dY⟩ := hY _ _ _ _ y
    have tk := snoc_filter keep ed
    have yl : ys.length ≤ i := by
      rw [← paired_len pr]
      exact Nat.le_trans (List.length_filter_le _ _) (by rw [List.length_take]; omega)
    refine hs _ i x ds[i] H H' ed s ⟨_, eD⟩ y ⟨_, dY _ eD⟩ (s.trans sY) ?_ ?_
    · intro k v H4 s4 r
      have e4 := s4 _ _ (dY _ eD)
      refine ⟨ys, e4, by omega, ys ++ [v], ?_, upd_same, ?_⟩
      · exact fun b o h => by
          rw [upd_ne (ne_of_none h hD)]
          exact s4 _ _ (sY _ _ (s _ _ h))
      · rw [tk, if_pos k]
        refine paired_snoc (paired_imp (fun d y z => stab d y H4 _ (stab d y H H4 z ⟨_, eD⟩ fun b o _ h => s4 _ _ (sY _ _ h)) ⟨_, e4⟩ But.upd) pr) (stab _ _ H4 _ r ⟨_, e4⟩ But.upd)
    · intro k H3 s3
      refine ⟨ys, (s.trans sY).trans s3, s3 _ _ (dY _ eD), ?_⟩
      rw [tk, if_neg (by rw [k]; decide), List.append_nil]
      exact paired_imp (fun d y z => stab d y H H3 z ⟨_, eD⟩ fun b o _ h => s3 _ _ (sY _ _ h)) pr
  · rintro H ⟨ys, s, eD, pr⟩
    rw [List.take_of_length_le (by omega)] at pr
    exact hd ys H s eD pr
/-- the same where each turn may draw from the pen at p (Pn i: the pen's word ahead of turn i) -/
theorem lc_draw {J : It} {n : Nat} {G : Hp → Prop} {Y : Nat → Hp → V → Hp → Prop} (w : Walk J n G Y) {δ : Type} (ds : List δ) (Pn : Nat → Hp → Prop) {p : Addr} (R : δ → V → Hp → Prop)
    {g : TG} {tt : TT} {te : TE} {vs : List Nat} {σ : L2.St} {H1 : Hp} {D : Addr} {Qd : Hp → Prop} (hn : ds.length = n) (hD : H1 D = none) (hp : D ≠ p) (hG : ∀ H', But p H1 H' → G H') (hY : ∀ i H x H', Y i H x H' → H' = H) (sz : n < sizeLine)
    (h0 : Pn 0 H1) (hP : ∀ i H o, Pn i H → Pn i (upd H D o))
    (stab : ∀ d y Ha Hb, R d y Ha → (∃ acc, Ha D = some (.lst acc)) → Two p D Ha Hb → R d y Hb)
    (hs : ∀ (N : Hp → Prop) i x d H, ds[i]? = some d → But p H1 H → Pn i H → (∃ acc, H D = some (.lst acc)) → Y i H x H →
      (fin : ∀ y H4, But p H H4 → Pn (i + 1) H4 → R d y H4 → ∃ acc, H4 D = some (.lst acc) ∧ acc.length < sizeLine ∧ N (upd H4 D (.lst (acc ++ [y])))) →
      g x (wipe σ vs) H fun σ2 H2 => wipe σ2 vs = wipe σ vs ∧ tt σ2 H2 fun b H3 => if b = true then te σ2 H3 fun y H4 => ∃ acc, H4 D = some (.lst acc) ∧ acc.length < sizeLine ∧ N (upd H4 D (.lst (acc ++ [y]))) else N H3)
    (hd : ∀ ys H', But p H1 H' → Pn n H' → H' D = some (.lst ys) → Paired (fun d y => R d y H') ds ys → Qd H') :
    ∃ W : Nat → Nat → Hp → Prop, (∃ m, W 0 m (upd H1 D (.lst []))) ∧ ∀ i m H, W i m H →
      (J.stop i H ∧ Qd H) ∨ (J.go i H ∧ ∃ Nx : Hp → Prop, (∀ H', Nx H' → ∃ m', m' < m ∧ W (i + 1) m' H') ∧ ∀ x H', J.yld i H x H' → g x (wipe σ vs) H' fun σ2 H2 => wipe σ2 vs = wipe σ vs ∧ tt σ2 H2 fun b H3 =>
        if b = true then te σ2 H3 fun y H4 => ∃ acc, H4 D = some (.lst acc) ∧ acc.length < sizeLine ∧ Nx (upd H4 D (.lst (acc ++ [y]))) else Nx H3) := by
  refine lc_it w (fun i H => ∃ ys, But p H1 H ∧ Pn i H ∧ H D = some (.lst ys) ∧ Paired (fun d y => R d y H) (ds.take i) ys) ?_ ?_ ?_ ?_
  · exact ⟨[], But.new hD, hP _ _ _ h0, upd_same, .nil⟩
  · rintro i H _ ⟨ys, s, _⟩
    exact hG H s
  · rintro i x H H' hi ⟨ys, s, pn, eD, pr⟩ y
    obtain rfl := hY _ _ _ _ y
    have il : i < ds.length := by omega
    have ed : ds[i]? = some ds[i] := List.getElem?_eq_getElem il
    have yl : ys.length ≤ i := by
      rw [← paired_len pr, List.length_take]
      omega
    refine hs _ i x ds[i] H' ed s pn ⟨_, eD⟩ y ?_
    intro v H4 s4 p4 r
    have e4 := s4 _ _ hp eD
    refine ⟨ys, e4, by omega, ys ++ [v], ?_, hP _ _ _ p4, upd_same, ?_⟩
    · exact fun b o hb h => by
        rw [upd_ne (ne_of_none h hD)]
        exact s4 _ _ hb (s _ _ hb h)
    · rw [List.take_add_one, ed]
      refine paired_snoc (paired_imp (fun d y z => stab d y H4 _ (stab d y H' H4 z ⟨_, eD⟩ s4.two) ⟨_, e4⟩ But.upd.two') pr) (stab _ _ H4 _ r ⟨_, e4⟩ But.upd.two')
  · rintro H ⟨ys, s, pn, eD, pr⟩
    rw [List.take_of_length_le (by omega)] at pr
    exact hd ys H s pn eD pr
theorem paired_vals {δ : Type} (f : δ → V) {H : Hp} : ∀ {ds : List δ} {ys : List V}, Paired (fun d v => v = f d) ds ys → ys = ds.map f
  | _, _, .nil => rfl
  | _, _, .cons h t => by
    rw [List.map_cons, ← paired_vals f (H := H) t, ← h]
theorem zip_at {β : Type} {F : Addr → β → Prop} : ∀ {ts : List Addr} {rs : List β} {i : Nat} {d : Addr × β}, Paired F ts rs → (ts.zip rs)[i]? = some d → (ts.map V.ref)[i]? = some (.ref d.1) ∧ F d.1 d.2 ∧ rs[i]? = some d.2
  | _, _, 0, d, .cons a _, e => by
    cases e
    exact ⟨rfl, a, rfl⟩
  | _, _, i + 1, d, .cons _ t, e => zip_at (i := i) t e
theorem zip_snd {β : Type} {F : Addr → β → Prop} {ts : List Addr} {rs : List β} (p : Paired F ts rs) : (ts.zip rs).map (·.2) = rs := by
  rw [List.map_snd_zip]
  exact Nat.le_of_eq (paired_len p).symm
theorem paired_refs {δ β : Type} {F : Addr → β → Prop} {g : δ → β} : ∀ {ds : List δ} {ys : List V}, Paired (fun d v => ∃ t, v = V.ref t ∧ F t (g d)) ds ys → ∃ us : List Addr, ys = us.map V.ref ∧ Paired F us (ds.map g)
  | _, _, .nil => ⟨[], rfl, .nil⟩
  | _, _, .cons ⟨t, e, h⟩ r => by
    obtain ⟨us, e2, p⟩ := paired_refs r
    exact ⟨t :: us, by rw [e, e2]; rfl, .cons h p⟩
theorem all_keep {δ : Type} (ds : List δ) : (ds.filter fun _ => true) = ds := List.filter_eq_self.mpr fun _ _ => rfl
theorem paired_getR {α β : Type} {F : α → β → Prop} {xs : List α} {ys : List β} {j : Nat} {y : β} (p : Paired F xs ys) (e : ys[j]? = some y) : ∃ x, xs[j]? = some x ∧ F x y := by
  induction p generalizing j with
  | nil => cases e
  | cons h t ih =>
    cases j with
    | zero =>
      cases e
      exact ⟨_, rfl, h⟩
    | succ j => exact ih e
end Ask

set_option Elab.async false
set_option linter.all false
set_option maxRecDepth 100000
set_option maxHeartbeats 4000000
namespace PyProof.Rows
open PySem
section
variable {prog : Program} {w : World} {A : Around}
variable {E : Value → Shared → Prop} {s : Shared}
theorem collect_tupA {l : Addr} {us : List Value} {R0 : List Value → Shared → Prop} (hm : ∃ o n, s.heap.get? l = some o ∧ o.cls = .type "tuple" ∧ o.data = .seq us.toArray n)
    (h : R0 us { s with heap := (s.heap.push (seqObj "list" #[] 0)).update s.heap.objs.size (Obj.mapSeq (· ++ us.toArray)) }) (hz : us.length ≤ sizeLine := by size_fits) :
    wpAny (model prog w) A (collect (.ref l)) R0 E s := by
  obtain ⟨o, n, ho, hc, hd⟩ := hm
  unfold collect
  refine wpAny_bind (wpAny_runValue (codeAny_builtin entry_proto_collect' ?_))
  show wpAny _ _ (do again (.builtin "list.__iadd__" ⟨[← newList [], .ref l], []⟩)) _ _ s
  refine wpAny_bind (wpAny_newList (wpAny_pure ⟨Code.quiet_builtin _ (by decide +kernel), codeAny_builtin entry_list_iadd' ?_⟩))
  show wpAny _ _ (Builtin.List.listExtendWith (.ref s.heap.objs.size) (.ref l) (.ref s.heap.objs.size)) _ _ { s with heap := s.heap.push (seqObj "list" #[] 0) }
  unfold Builtin.List.listExtendWith
  have hq : (s.heap.push (seqObj "list" #[] 0)).get? l = some o := Heap.get?_push_of_some _ ho
  refine wpAny_bind (wpAny_typeOf (T := "tuple") ⟨o, hq, hc⟩ ?_)
  have ht : (Value.type "tuple" == Value.type "tuple") = true := by rfl
  rw [if_pos (by rw [ht]; simp)]
  refine wpAny_bind (listItems_at hq hd ?_)
  refine wpAny_bind (listItems_at (xs := #[]) (n := 0) (Heap.get?_push_size _ rfl) rfl ?_)
  rw [if_neg (by simp)]
  refine wpAny_bind (listUpdate_at (xs := #[]) (n := 0) (Heap.get?_push_size _ rfl) rfl ?_ (Nat.zero_le _) (by show (#[] ++ us.toArray).size ≤ sizeLine + 1; simp only [Array.size_append, List.size_toArray, List.length_nil]; omega))
  refine wpAny_pure ?_
  show wpAny (model prog w) A (do
      let o ← load s.heap.objs.size
      match o.data with
      | .seq xs _ => pure xs.toList
      | _ => unsupported "internal:collect") R0 E { s with heap := (s.heap.push (seqObj "list" #[] 0)).update s.heap.objs.size (Obj.mapSeq (· ++ us.toArray)) }
  refine wpAny_bind (wpAny_load (get?_update_seq (Heap.get?_push_size _ rfl) _) ?_)
  show wpAny _ _ (pure ((#[] : Array Value) ++ us.toArray).toList) R0 E _
  rw [show ((#[] : Array Value) ++ us.toArray).toList = us by simp]
  exact wpAny_pure h
theorem sortedKT {κ : KeyKind} (hW : κ.OneLt) {l : Addr} {us : List Value} {R0 : Value → Shared → Prop} (hm : ∃ o n, s.heap.get? l = some o ∧ o.cls = .type "tuple" ∧ o.data = .seq us.toArray n) (h0 : KeysOf κ (pairsOf us)) (hkk : ∀ v₁ v₂ rest, us = v₁ :: v₂ :: rest → keyKind' (v₁ :: v₂ :: rest).toArray = pure oneType') (h64 : us.length < 64)
    (h : ∀ st1 : SortSt, (arrOf st1).Perm (pairsOf us) → SortedToK κ (arrOf st1) (pairsOf us).size → R0 (.ref (s.heap.objs.size + 1)) { s with heap := sortedAll s.heap us ((arrOf st1).map (·.2)) }) :
    wpAny (model prog w) A (call (.builtin "sorted") [.ref l]) R0 E s := by
  refine Calls.call_function_entry kind_sorted plain_sorted entry_sorted (args_sorted1 _) ?_
  unfold Builtin.«sorted»
  refine wpAny_bind (wpAny_pure ?_) (m := checkCount "sorted" 1 1 _)
  refine wpAny_bind (collect_tupA hm ?_ (by rw [sizeLine_eq]; omega))
  refine wpAny_bind (wpAny_newList ?_)
  have hz : ((s.heap.push (seqObj "list" #[] 0)).update s.heap.objs.size (Obj.mapSeq (· ++ us.toArray))).objs.size = s.heap.objs.size + 1 := by
    rw [Heap.size_update]
    rw [size_push']
  have hT : (((s.heap.push (seqObj "list" #[] 0)).update s.heap.objs.size (Obj.mapSeq (· ++ us.toArray))).push (seqObj "list" us.toArray 0)).get? (s.heap.objs.size + 1) = some (seqObj "list" us.toArray 0) := by
    rw [← hz]; exact Heap.get?_push_size _ rfl
  show wpAny _ _ _ _ _ { s with heap := ((s.heap.push (seqObj "list" #[] 0)).update s.heap.objs.size (Obj.mapSeq (· ++ us.toArray))).push (seqObj "list" us.toArray 0) }
  rw [hz]
  refine wpAny_bind (wpAny_holding (wpAny_call_entry slot_list_sort ⟨_, hT, rfl⟩ entry_list_sort (list_sort_treeK hW hT h0 hkk h64 fun st1 c1 c2 => ⟨_, rfl, ?_⟩) (args_list_sort _)))
  exact wpAny_pure ⟨_, rfl, h st1 c1 c2⟩
theorem sorted_strsT {l : Addr} {us : List Value} {zs : List Str} {R0 : Value → Shared → Prop} (hm : ∃ o n, s.heap.get? l = some o ∧ o.cls = .type "tuple" ∧ o.data = .seq us.toArray n) (hS : StrsAre us zs) (h64 : us.length < 64)
    (h : ∀ (out : Array Value) (zs' : List Str), StrsAre out.toList zs' → zs'.Perm zs → sortedS zs' = true → R0 (.ref (s.heap.objs.size + 1)) { s with heap := sortedAll s.heap us out }) :
    wpAny (model prog w) A (call (.builtin "sorted") [.ref l]) R0 E s := by
  refine sortedKT strKind_oneLt hm hS.keysOf (fun v₁ v₂ rest e => keyKind_strs (by rw [← e]; exact hS)) h64 fun st1 hp hs => ?_
  obtain ⟨zs', k1, k2, k3⟩ := sorted_out_str hS hp hs
  exact h _ zs' k1 k2 k3
end
end PyProof.Rows
namespace Ask
open PySem L2 PyProof.Rows
/-- sorted(texts), of a list or a tuple -/
def rSortedSB (K : PySem.W.Frag) : List V → Hp → VK → Prop := fun vs H Q => ∃ (b : Bool) (a : Addr) (xs : List Str), vs = [V.ref a] ∧ SqB K b H a (xs.map V.str) ∧ xs.length < 64 ∧
  ∀ (ys : List Str) (p : Addr), ys.Perm xs → sortedS ys = true → H p = none → Q (.ref p) (upd H p (.lst (ys.map V.str)))
theorem cr_sortedSB {X : Cx} : CallR X (.builtin "sorted") (rSortedSB X.K) := by
  intro pins s σ H vs us Q I r h
  obtain ⟨b, a, xs, rfl, hs, h64, q⟩ := h
  cases b with
  | true => exact cr_sortedS pins s σ H _ us Q I r ⟨a, xs, rfl, hs, h64, q⟩
  | false =>
    obtain ⟨its, rv, hl, _⟩ := I.tuple hs
    rw [Vals.ref1 r]
    have hlen0 := rv.length
    rw [List.length_map] at hlen0
    obtain ⟨o, e1, e2, n, e3⟩ := hl
    refine PyProof.Rows.sorted_strsT ⟨o, n, e1, e2, e3⟩ rv.strs (by rw [← hlen0]; exact h64) fun out ys h1 h2 h3 => ?_
    obtain ⟨ep, he'⟩ := PyProof.Rows.sortedAll_at s.heap its out
    have hlen : (ys.map V.str).length ≤ sizeLine := by rw [List.length_map, h2.length_eq]; exact small64 h64
    exact ⟨.ref _, upd H (s.heap.objs.size + 1) (.lst (ys.map V.str)), I.laid (t' := s.toks) (fun _ _ => PyProof.Rows.sortedAll_old) (Nat.le_succ _) ⟨hlen, out.toList, ep, vals_of_strs h1, he'⟩, rfl, q ys _ h2 h3 (I.hok.fresh (Nat.le_succ _))⟩
end Ask

set_option Elab.async false
set_option linter.all false
set_option maxRecDepth 100000
set_option maxHeartbeats 4000000
namespace Ask
open PySem L2
open PyProof.Rows
/-- a list or a tuple, made by the law -/
def LT (b : Bool) (xs : List V) : HO := if b = true then .lst xs else .tup xs
theorem SqB.of {K : PySem.W.Frag} {H : Hp} {a : Addr} {xs : List V} : ∀ {b : Bool}, H a = some (LT b xs) → SqB K b H a xs
  | true, h => SqL.of h
  | false, h => SqT.of h
theorem LT.seq {K : PySem.W.Frag} {H : Hp} {a : Addr} {xs : List V} {b : Bool} (h : H a = some (LT b xs)) : SqL K H a xs ∨ SqT K H a xs := by
  cases b
  · exact .inr (SqT.of h)
  · exact .inl (SqL.of h)
theorem LT.ty {K : PySem.W.Frag} {H : Hp} {a : Addr} {xs : List V} {b : Bool} (h : H a = some (LT b xs)) : ∃ t, TyX K H (.ref a) t ∧ PySem.W.kitAny K t [.type "list", .type "tuple"] = some true := by
  cases b
  · exact ⟨_, .base (.tup h), kitAny_cons (b := false) (kit_ty (by decide +kernel)) (fun _ => kitAny_cons (b := true) (kit_ty (by decide +kernel)) (fun z => by cases z) (fun _ => rfl)) (fun z => by cases z)⟩
  · exact ⟨_, .base (.lst h), kitAny_cons (b := true) (kit_ty (by decide +kernel)) (fun z => by cases z) (fun _ => rfl)⟩
theorem LT.not_pen {H : Hp} {a : Addr} {xs : List Str} {b : Bool} (h : H a = some (LT b (xs.map V.str))) (l : Addr) (i v : Int) : LT b (xs.map V.str) ≠ .lst [.ref l, .int i, .int v] := by
  cases b
  · intro e
    cases e
  · intro e
    have e' : HO.lst (xs.map V.str) = .lst [.ref l, .int i, .int v] := e
    cases xs with
    | nil => cases e'
    | cons x xs => cases e'
theorem dp_strs {K : PySem.W.Frag} {H : Hp} : ∀ xs : List Str, DpAll K H (xs.map V.str) (xs.map PyData.str)
  | [] => .nil
  | x :: xs => .cons (.str x) (dp_strs xs)
theorem lay_strs : ∀ xs : List Str, (∀ x ∈ xs, PyData.strOk x = true) → PyData.canLayAll0 (xs.map PyData.str) = true
  | [], _ => rfl
  | x :: xs, h => by
    show (PyData.canLay0 (.str x) && PyData.canLayAll0 (xs.map PyData.str)) = true
    rw [lay_strs xs fun y hy => h y (List.mem_cons_of_mem _ hy), Bool.and_true]
    unfold PyData.canLay0
    exact h x List.mem_cons_self
theorem shaped_strs {xs : List Str} (h : ∀ x ∈ xs, PyData.strOk x = true) : SeqAt.shaped (.list (xs.map PyData.str)) = true := by
  unfold SeqAt.shaped
  unfold PyData.canLay0
  rw [lay_strs xs h, Bool.true_and, decide_eq_true_eq]
  have z := depAll (k := 1) (xs.map PyData.str) fun d hd => by
    obtain ⟨x, _, rfl⟩ := List.mem_map.mp hd
    unfold PyData.depth
    omega
  unfold PyData.depth
  omega
theorem eqv_strs : ∀ xs ys : List Str, PyData.eqvAll (xs.map PyData.str) (ys.map PyData.str) = decide (xs = ys)
  | [], [] => rfl
  | [], _ :: _ => rfl
  | _ :: _, [] => rfl
  | x :: xs, y :: ys => by
    show (PyData.eqv (.str x) (.str y) && PyData.eqvAll (xs.map PyData.str) (ys.map PyData.str)) = _
    rw [eqv_strs xs ys, show PyData.eqv (.str x) (.str y) = (x == y) from rfl]
    by_cases h : x = y
    · subst h
      by_cases g : xs = ys
      · subst g
        simp
      · simp [g]
    · simp [h]
theorem eqv_lists (xs ys : List Str) : PyData.eqv (.list (xs.map PyData.str)) (.list (ys.map PyData.str)) = decide (xs = ys) := eqv_strs xs ys
end Ask

set_option Elab.async false
set_option linter.all false
set_option maxRecDepth 100000
set_option maxHeartbeats 4000000
namespace Ask
open PySem L2
open PyProof.Rows
/-- the pairs of a dict of values -/
def kents (kn : List (Str × Int)) : List (Key × V) := kn.map fun p => (Sum.inr p.1, V.int p.2)
theorem kents_keys (kn : List (Str × Int)) : (kents kn).map (·.1) = (kn.map (·.1)).map Sum.inr := by
  unfold kents
  rw [List.map_map, List.map_map]
  rfl
theorem kents_get : ∀ {kn : List (Str × Int)} {n : Str} {v : Int}, (kn.map (·.1)).Nodup → (n, v) ∈ kn → valV (kents kn) (Sum.inr n : Key) = some (.int v)
  | (m, w) :: kn, n, v, nd, h => by
    rw [List.map_cons, List.nodup_cons] at nd
    rcases List.mem_cons.mp h with e | h
    · cases e
      exact valV_pos rfl
    · refine (valV_neg fun z => nd.1 ?_).trans (kents_get nd.2 h)
      rw [show m = n from Sum.inr.inj z]
      exact List.mem_map.mpr ⟨(n, v), h, rfl⟩
theorem kents_at {kn : List (Str × Int)} {i : Nat} {k : Key} {w : V} (e : (kents kn)[i]? = some (k, w)) : ∃ n v, kn[i]? = some (n, v) ∧ k = Sum.inr n ∧ w = .int v := by
  unfold kents at e
  rw [List.getElem?_map] at e
  cases e2 : kn[i]? with
  | none => rw [e2] at e; cases e
  | some p =>
    rw [e2] at e
    cases e
    exact ⟨p.1, p.2, rfl, rfl, rfl⟩
theorem kents_none : ∀ {kn : List (Str × Int)} {n : Str}, n ∉ kn.map (·.1) → valV (kents kn) (Sum.inr n : Key) = none
  | [], _, _ => rfl
  | (m, v) :: kn, n, h => by
    rw [List.map_cons, List.mem_cons] at h
    refine (valV_neg fun z => h (.inl (Sum.inr.inj z).symm)).trans (kents_none fun c => h (.inr c))
theorem merge_kents : ∀ (more acc : List (Str × Int)), ((acc ++ more).map (·.1)).Nodup → mergeK (kents acc) (kents more) = kents (acc ++ more)
  | [], acc, _ => by rw [List.append_nil]; rfl
  | (n, v) :: more, acc, h => by
    have fr : n ∉ acc.map (·.1) := by
      rw [List.map_append, List.nodup_append] at h
      exact fun c => h.2.2 n c n List.mem_cons_self rfl
    have e : mergeK (kents acc) (kents ((n, v) :: more)) = mergeK (putK (kents acc) (Sum.inr n) (.int v)) (kents more) := rfl
    have e2 : kents acc ++ [((Sum.inr n : Key), V.int v)] = kents (acc ++ [(n, v)]) := by
      unfold kents
      rw [List.map_append]
      rfl
    rw [e, putK_new _ (kents_none fr), e2, merge_kents more (acc ++ [(n, v)]) (by rw [List.append_assoc]; exact h), List.append_assoc]
    rfl
theorem valV_none {κ : Type} [DecidableEq κ] : ∀ {acc : List (κ × V)} {k : κ}, k ∉ acc.map (·.1) → valV acc k = none
  | [], _, _ => rfl
  | (m, v) :: acc, k, h => by
    rw [List.map_cons, List.mem_cons] at h
    exact (valV_neg fun z => h (.inl z.symm)).trans (valV_none fun c => h (.inr c))
theorem merge_new : ∀ (more acc : List (Key × V)), ((acc ++ more).map (·.1)).Nodup → mergeK acc more = acc ++ more
  | [], acc, _ => by rw [List.append_nil]; rfl
  | (n, v) :: more, acc, h => by
    have fr : n ∉ acc.map (·.1) := by
      rw [List.map_append, List.nodup_append] at h
      exact fun c => h.2.2 n c n List.mem_cons_self rfl
    have e : mergeK acc ((n, v) :: more) = mergeK (putK acc n v) more := rfl
    rw [e, putK_new _ (valV_none fr), merge_new more (acc ++ [(n, v)]) (by rw [List.append_assoc]; exact h), List.append_assoc]
    rfl
end Ask

set_option Elab.async false
set_option linter.all false
set_option maxRecDepth 100000
set_option maxHeartbeats 4000000
namespace Ask
open PySem L2
open PyProof.Rows
/-- no part of sys.modules -/
def Far (b : Addr) : Prop := (b == sysModules) = false
theorem known_dq {H : Hp} {v : Addr} {kn : List (Str × Int)} (hv : H v = some (.dK (kents kn))) (av : Far v) : Dq Far H 1 (.ref v) (.dict (((kents kn).map fun p => keyD p.1).zip (kn.map fun p => PyData.int p.2))) := by
  refine .inr (.inr (.inr ⟨v, kents kn, kn.map fun p => PyData.int p.2, rfl, rfl, av, hv, ?_⟩))
  clear hv av
  induction kn with
  | nil => exact .nil
  | cons q kn ih => exact .cons rfl ih
theorem strs_dq {H : Hp} {N : Addr} {xs : List Str} (hN : H N = some (.lst (xs.map V.str))) (av : Far N) : Dq Far H 1 (.ref N) (.list (xs.map PyData.str)) := by
  refine .inr (.inl ⟨N, xs.map V.str, xs.map PyData.str, rfl, rfl, av, hN, ?_⟩)
  clear hN av
  induction xs with
  | nil => exact .nil
  | cons x xs ih => exact .cons rfl ih
theorem strs_sh {xs : List Str} (h : ∀ x ∈ xs, (PyData.str x).shown.length ≤ 20) (l : xs.length ≤ 40) : Sh 60 sizeLine (.list (xs.map PyData.str)) := by
  refine (sh_list (n := 0) (k := 40) (L := 20) (fun d hd => ?_) (by rw [List.length_map]; exact l)).up (by decide) (by decide)
  obtain ⟨x, hx, rfl⟩ := List.mem_map.mp hd
  exact sh_str (h x hx)
/-- a list or tuple of texts, as data -/
def ltD (b : Bool) (xs : List Str) : PyData := if b = true then .list (xs.map PyData.str) else .tuple (xs.map PyData.str)
theorem lt_dq {H : Hp} {N : Addr} {b : Bool} {xs : List Str} (hN : H N = some (LT b (xs.map V.str))) (av : Far N) : Dq Far H 1 (.ref N) (ltD b xs) := by
  cases b with
  | true => exact strs_dq hN av
  | false =>
    refine .inr (.inr (.inl ⟨N, xs.map V.str, xs.map PyData.str, rfl, rfl, av, hN, ?_⟩))
    clear hN av
    induction xs with
    | nil => exact .nil
    | cons x xs ih => exact .cons rfl ih
theorem lt_sh {b : Bool} {xs : List Str} (h : ∀ x ∈ xs, (PyData.str x).shown.length ≤ 20) (l : xs.length ≤ 40) : Sh 60 sizeLine (ltD b xs) := by
  cases b with
  | true => exact strs_sh h l
  | false =>
    refine (sh_tup (n := 0) (k := 40) (L := 20) (fun d hd => ?_) (by rw [List.length_map]; exact l)).up (by decide) (by decide)
    obtain ⟨x, hx, rfl⟩ := List.mem_map.mp hd
    exact sh_str (h x hx)
/-- a dict of names and ints, as data -/
def knD (kn : List (Str × Int)) : PyData := .dict (((kents kn).map fun p => keyD p.1).zip (kn.map fun p => PyData.int p.2))
theorem kn_sh {kn : List (Str × Int)} (h : ∀ q ∈ kn, (PyData.str q.1).shown.length ≤ 20 ∧ q.2.natAbs < 10 ^ 12) (kl : kn.length ≤ 40) : Sh 60 sizeLine (knD kn) := by
  have e : ((kents kn).map fun p => keyD p.1).zip (kn.map fun p => PyData.int p.2) = kn.map fun p => (PyData.str p.1, PyData.int p.2) := by
    clear h kl
    induction kn with
    | nil => rfl
    | cons q kn ih => exact congrArg ((PyData.str q.1, PyData.int q.2) :: ·) ih
  unfold knD
  rw [e]
  refine (sh_dict (n := 0) (k := 40) (L := 20) (fun p hp => ?_) (by rw [List.length_map]; exact kl)).up (by decide) (by decide)
  obtain ⟨q, hq, rfl⟩ := List.mem_map.mp hp
  obtain ⟨h1, h2⟩ := h q hq
  exact ⟨sh_str h1, (sh_int h2).up (Nat.le_refl _) (by decide)⟩
theorem strs_sh1 {xs : List Str} (h : ∀ x ∈ xs, (PyData.str x).shown.length ≤ 20) (l : xs.length ≤ 40) : Sh 1 2000 (.list (xs.map PyData.str)) := by
  refine (sh_list (n := 0) (k := 40) (L := 20) (fun d hd => ?_) (by rw [List.length_map]; exact l)).up (by decide) (by decide)
  obtain ⟨x, hx, rfl⟩ := List.mem_map.mp hd
  exact sh_str (h x hx)
theorem lt_sh1 {b : Bool} {xs : List Str} (h : ∀ x ∈ xs, (PyData.str x).shown.length ≤ 20) (l : xs.length ≤ 40) : Sh 1 2000 (ltD b xs) := by
  cases b with
  | true => exact strs_sh1 h l
  | false =>
    refine (sh_tup (n := 0) (k := 40) (L := 20) (fun d hd => ?_) (by rw [List.length_map]; exact l)).up (by decide) (by decide)
    obtain ⟨x, hx, rfl⟩ := List.mem_map.mp hd
    exact sh_str (h x hx)
theorem kn_sh1 {kn : List (Str × Int)} (h : ∀ q ∈ kn, (PyData.str q.1).shown.length ≤ 20 ∧ q.2.natAbs < 10 ^ 12) (kl : kn.length ≤ 40) : Sh 1 2000 (knD kn) := by
  have e : ((kents kn).map fun p => keyD p.1).zip (kn.map fun p => PyData.int p.2) = kn.map fun p => (PyData.str p.1, PyData.int p.2) := by
    clear h kl
    induction kn with
    | nil => rfl
    | cons q kn ih => exact congrArg ((PyData.str q.1, PyData.int q.2) :: ·) ih
  unfold knD
  rw [e]
  refine (sh_dict (n := 0) (k := 40) (L := 20) (fun p hp => ?_) (by rw [List.length_map]; exact kl)).up (by decide) (by decide)
  obtain ⟨q, hq, rfl⟩ := List.mem_map.mp hp
  obtain ⟨h1, h2⟩ := h q hq
  exact ⟨sh_str h1, (sh_int h2).up (Nat.le_refl _) (by decide)⟩
/-- [x, y] of two such -/
theorem two_sh {n L : Nat} {x y : PyData} (hx : Sh n L x) (hy : Sh n L y) : Sh (n + 1) (L * 2 + 2 * 2 + 3) (.list [x, y]) := sh_list (k := 2) (fun d hd => by
  rcases List.mem_cons.mp hd with rfl | hd
  · exact hx
  · rw [List.mem_singleton.mp hd]
    exact hy) (Nat.le_refl _)
theorem two_dq {H : Hp} {q : Addr} {n : Nat} {u v : V} {x y : PyData} (hq : H q = some (.lst [u, v])) (f : Far q) (hx : Dq Far H n u x) (hy : Dq Far H n v y) : Dq Far H (n + 1) (.ref q) (.list [x, y]) :=
  .inr (.inl ⟨q, _, _, rfl, rfl, f, hq, .cons hx (.cons hy .nil)⟩)
end Ask

set_option Elab.async false
set_option linter.all false
set_option maxRecDepth 100000
set_option maxHeartbeats 2000000
namespace Ask
open PySem PySem.Spec L2
open PyProof.Rows
/-- the places of xs[lo:hi:st] -/
def places (n : Nat) (lo hi st : Option Int) : List Nat := sliceRange (sliceBounds lo hi st n).1 (sliceBounds lo hi st n).2.1 (sliceBounds lo hi st n).2.2
def pickV (xs : List V) (lo hi st : Option Int) : List V := (places xs.length lo hi st).filterMap (xs[·]?)
theorem vals_pick {xs : List V} {us : List Value} (r : Vals xs us) : ∀ ns : List Nat, Vals (ns.filterMap (xs[·]?)) (ns.filterMap (us[·]?))
  | [] => .nil
  | k :: ns => by
    have t := vals_pick r ns
    have e := r.length
    by_cases hk : k < xs.length
    · obtain ⟨u, hu, ru⟩ := r.get (List.getElem?_eq_getElem hk)
      rw [List.filterMap_cons_some (List.getElem?_eq_getElem hk), List.filterMap_cons_some hu]
      exact .cons ru t
    · rw [List.filterMap_cons_none (List.getElem?_eq_none (by omega)), List.filterMap_cons_none (List.getElem?_eq_none (by omega))]
      exact t
theorem fm_congr {α β : Type} {f g : α → Option β} : ∀ {l : List α}, (∀ x ∈ l, f x = g x) → l.filterMap f = l.filterMap g
  | [], _ => rfl
  | x :: l, h => by
    rw [List.filterMap_cons, List.filterMap_cons, h x List.mem_cons_self, fm_congr fun y hy => h y (List.mem_cons_of_mem _ hy)]
/-- xs[lo:hi:st] of a list -/
def tSl3 (K : PySem.W.Frag) (te : TE) (tl th ts : TO) : TE := fun σ H Q => te σ H fun x H1 => tl σ H1 fun lo H2 => th σ H2 fun hi H3 => ts σ H3 fun st H4 => st ≠ some 0 ∧ ∃ a xs, x = V.ref a ∧ SqL K H4 a xs ∧ (pickV xs lo hi st).length ≤ sizeLine ∧
  ∀ p, H4 p = none → Q (.ref p) (upd H4 p (.lst (pickV xs lo hi st)))
theorem pe_slice3 {X : Cx} {e : Expr} {lo hi k : Option Expr} {te : TE} {tl th ts : TO} {p2 pos : Pos} (he : PE X e te) (hl : PO X lo tl) (hh : PO X hi th) (hk : PO X k ts)
    (hsub : ∀ r q : Value, ∃ ops, subscripted (.Slice lo hi k p2) false r q = operate ops (getItem r q) := by intro r q; first | exact ⟨[r, q], by with_unfolding_all rfl⟩ | exact ⟨[q, r], by with_unfolding_all rfl⟩) : PE X (.Subscript e (.Slice lo hi k p2) pos) (tSl3 X.K te tl th ts) := by
  refine ⟨fun ps s0 τ G R J w => ?_⟩
  refine Subscript_ (thn (he.run ps s0 τ G _ J w) fun v s1 ⟨x, G1, J1, r1, w1⟩ => ?_)
  refine wpAny_Slice (thn (hl.run ps s1 τ G1 _ J1 w1) fun vl s2 ⟨l, G2, J2, pl, w2⟩ => thn (hh.run ps s2 τ G2 _ J2 w2) fun vu s3 ⟨u, G3, J3, pu, w3⟩ => thn (hk.run ps s3 τ G3 _ J3 w3) fun vs s4 ⟨o, G4, J4, po, w4⟩ => ?_)
  obtain ⟨n0, a, xs, ex, hx, few, w5⟩ := w4
  subst ex
  cases r1
  have J5 : Inv X ps τ G4 { s4 with heap := s4.heap.push { cls := .type "slice", data := .fields #[vl, vu, vs] } } := J4.kept (t' := s4.toks) fun b z q => Heap.get?_push_of_some _ q
  obtain ⟨its, rr, ht, hz⟩ := J5.list hx
  have len := rr.length
  show wpAny (model X.prog X.w) X.A (subscriptTail e (.Slice lo hi k p2) (.ref a) (.ref s4.heap.objs.size)) (EP X ps τ R) X.xe { s4 with heap := s4.heap.push { cls := .type "slice", data := .fields #[vl, vu, vs] } }
  obtain ⟨ops, eo⟩ := hsub (.ref a) (.ref s4.heap.objs.size)
  refine tail_any (ops := ops) ht.isList.typeIs (PySem.slot_list_getitem.lookup) ?_ eo
  refine wpAny_getItem_list_slice ht.isList (Heap.IsSliceOf.new _ vl vu vs) pl pu po n0 ?_ (by rw [List.size_toArray]; omega)
  have hp : slicePick its.toArray l u o = ((places xs.length l u o).filterMap (its[·]?)).toArray := by
    unfold slicePick places
    rw [List.size_toArray, len]
    congr 1
    exact fm_congr fun i _ => List.getElem?_toArray
  rw [hp]
  refine ⟨.ref _, _, J5.laid (t' := s4.toks) (o := .lst (pickV xs l u o)) (fun b z q => Heap.get?_push_of_some _ q) (Nat.le_refl _) ?_, rfl, w5 _ (J5.hok.fresh (Nat.le_refl _))⟩
  exact ⟨few, _, 0, vals_pick rr _, Heap.get?_push_size _ rfl⟩
theorem some_all {α : Type} (xs : List α) : (List.range xs.length).filterMap (xs[·]?) = xs := by
  have e2 : ∀ n : Nat, n ≤ xs.length → (List.range n).filterMap (xs[·]?) = xs.take n := by
    intro n
    induction n with
    | zero => intro _; rw [List.take_zero]; rfl
    | succ n ih =>
      intro h
      rw [List.range_succ, List.filterMap_append, ih (by omega), List.take_add_one]
      congr 1
  rw [e2 _ (Nat.le_refl _), List.take_length]
theorem places_one (n : Nat) : places n none none (some 1) = List.range n := by
  unfold places
  show sliceRange 0 n 1 = _
  unfold sliceRange
  have e : ((if (0 : Int) < (n : Int) then ((n : Int) - 0 + 1 - 1) / 1 else 0) : Int).toNat = n := by
    by_cases h : (0 : Int) < (n : Int)
    · rw [if_pos h, Int.ediv_one]
      omega
    · rw [if_neg h]
      omega
  rw [if_pos (by decide)]
  show (List.range ((if (0 : Int) < (n : Int) then ((n : Int) - 0 + 1 - 1) / 1 else 0) : Int).toNat).map _ = _
  rw [e]
  refine (List.map_congr_left fun k _ => ?_).trans (List.map_id _)
  show (0 + 1 * (k : Int)).toNat = k
  omega
theorem pick_one (xs : List V) : pickV xs none none (some 1) = xs := by
  unfold pickV
  rw [places_one, some_all]
theorem pick_back (xs : List V) : pickV xs none none (some (-1)) = xs.reverse := by
  unfold pickV places
  rw [PySem.W.krv_bounds]
  show (sliceRange ((xs.length : Int) - 1) (-1) (-1)).filterMap (xs[·]?) = _
  rw [PySem.W.krv_sliceRange, PySem.W.krv_range, List.filterMap_reverse, some_all]
theorem ix_tupK {X : Cx} {K : PySem.W.Frag} (h : X.K = K) : IxR X (rIxT K) := h ▸ ix_tup
end Ask

set_option Elab.async false
set_option linter.all false
set_option maxRecDepth 100000
set_option maxHeartbeats 2000000
namespace Ask
open PySem PySem.Spec L2
open PyProof.Rows
/-- the tuple of a row -/
def RowAt (H : Hp) (t : Addr) (r : Rw) : Prop := H t = some (.tup [.str r.nm, .int r.lo, .int r.hi, .int r.pr])
def rowIn (H : Hp) (t : Addr) : Rw := match H t with
  | some (.tup [.str n, .int l, .int h, .int c]) => ⟨n, l, h, c⟩
  | _ => ⟨"", 0, 0, 0⟩
theorem RowAt.row {H : Hp} {t : Addr} {r : Rw} (h : RowAt H t r) : rowIn H t = r := by
  unfold RowAt at h
  unfold rowIn
  rw [h]
def rowV (H : Hp) : Value → Rw
  | .ref t => rowIn H t
  | _ => ⟨"", 0, 0, 0⟩
/-- the object of a row -/
def IsRow (h : Heap) (v : Value) (r : Rw) : Prop := ∃ (a : Addr) (o : Obj) (k1 k2 k3 k4 : Tok) (n : Nat), v = .ref a ∧ h.get? a = some o ∧ o.cls = .type "tuple" ∧ o.data = .seq #[.str r.nm k1, .int r.lo k2, .int r.hi k3, .int r.pr k4] n
theorem IsRow.keeps {h h' : Heap} {v : Value} {r : Rw} (p : IsRow h v r) (k : ∀ b o, h.get? b = some o → o.cls = .type "tuple" → h'.get? b = some o) : IsRow h' v r := by
  obtain ⟨a, o, k1, k2, k3, k4, n, e, ho, hc, hd⟩ := p
  exact ⟨a, o, k1, k2, k3, k4, n, e, k _ _ ho hc, hc, hd⟩
def ltN (a b : Rw) : Bool := decide (ltS a.nm b.nm)
theorem swo_name {α : Type} (k : α → Rw) : SrtO.Swo fun v u => ltN (k v) (k u) := by
  refine ⟨fun x y h => ?_, fun x y z h1 h2 => ?_⟩
  · have p : ltS (k x).nm (k y).nm := of_decide_eq_true h
    exact decide_eq_false (ltS_asymm p)
  · have p : ¬ ltS (k y).nm (k x).nm := of_decide_eq_false h1
    have q : ¬ ltS (k z).nm (k y).nm := of_decide_eq_false h2
    refine decide_eq_false fun c => ?_
    rcases ltS_tri (k x).nm (k y).nm with e | e | e
    · exact q (ltS_trans c e)
    · exact q (e ▸ c)
    · exact p e
section
variable {prog : Program} {w : World} {A : Around} {s : Shared}
theorem row_cmp {vs : List Value} {k : Value → Rw} (hp : ∀ v ∈ vs, IsRow s.heap v (k v)) (hu : ∀ v ∈ vs, ∀ u ∈ vs, (k v).nm = (k u).nm → k v = k u) : SrtO.Cmp prog w A s (tuples' true) (fun p => p.1 ∈ vs) (SrtO.lt2 fun v u => ltN (k v) (k u)) := by
  intro x y hx hy
  have hu' := hu _ hx _ hy
  have p1 := hp _ hx
  have p2 := hp _ hy
  show wpAny (model prog w) A (keyLt' (tuples' true) x.1 y.1) (fun r s' => s' = s ∧ r = ltN (k x.1) (k y.1)) (fun _ _ => False) s
  generalize k x.1 = r1 at hu' p1 ⊢
  generalize k y.1 = r2 at hu' p2 ⊢
  obtain ⟨a1, o1, k1, k2, k3, k4, n1, e1, g1, c1, d1⟩ := p1
  obtain ⟨a2, o2, m1, m2, m3, m4, n2, e2, g2, c2, d2⟩ := p2
  rw [e1, e2]
  refine PySem.W.kat_lt g1 d1 g2 d2 ?_
  show PySem.W.KatLex prog w A true (decide (4 < 4)) _ [(.str r1.nm k1, .str r2.nm m1), (.int r1.lo k2, .int r2.lo m2), (.int r1.hi k3, .int r2.hi m3), (.int r1.pr k4, .int r2.pr m4)] 0 s
  refine PySem.W.kat_cons (SeqAt.EqAt.str_str _ k1 _ m1 prog w _ _ ?_)
  refine PySem.W.kat_go (fun z => ?_) (fun z => ?_)
  · have en : r1 = r2 := hu' (by simpa using z)
    subst en
    refine PySem.W.kat_yes (PySem.W.kat_cons (SeqAt.EqAt.int_int _ k2 _ m2 prog w _ _ ?_))
    rw [beq_self_eq_true]
    refine PySem.W.kat_yes (PySem.W.kat_cons (SeqAt.EqAt.int_int _ k3 _ m3 prog w _ _ ?_))
    rw [beq_self_eq_true]
    refine PySem.W.kat_yes (PySem.W.kat_cons (SeqAt.EqAt.int_int _ k4 _ m4 prog w _ _ ?_))
    rw [beq_self_eq_true]
    exact PySem.W.kat_yes (PySem.W.kat_nil ⟨rfl, (decide_eq_false (ltS_irrefl _)).symm⟩)
  · exact PySem.W.kat_no (oneLt_str ⟨rfl, rfl⟩)
theorem rows_firsts {h : Heap} : ∀ {vs : List Value}, (∀ v ∈ vs, ∃ r, IsRow h v r) → ∃ fs : List Value, PySem.W.KatTups h vs fs ∧ fs.length = vs.length ∧ ∀ f ∈ fs, ∃ x t, f = Value.str x t
  | [], _ => ⟨[], PySem.W.KatTups.nil, rfl, fun _ c => nomatch c⟩
  | v :: vs, hp => by
    obtain ⟨fs, q1, q2, q3⟩ := rows_firsts (vs := vs) fun u c => hp u (List.mem_cons_of_mem _ c)
    obtain ⟨r, a, o, k1, k2, k3, k4, n, e, g, c, d⟩ := hp v List.mem_cons_self
    subst e
    refine ⟨.str r.nm k1 :: fs, PySem.W.KatTups.cons g c d rfl q1, by rw [List.length_cons, List.length_cons, q2], fun f z => ?_⟩
    rcases List.mem_cons.mp z with rfl | z
    · exact ⟨r.nm, k1, rfl⟩
    · exact q3 f z
theorem rows_sortable {a : Addr} {vs : List Value} {k : Value → Rw} (h0 : 0 < vs.length) (hp : ∀ v ∈ vs, IsRow s.heap v (k v)) (hu : ∀ v ∈ vs, ∀ u ∈ vs, (k v).nm = (k u).nm → k v = k u) (ha : ∀ o, s.heap.get? a = some o → o.cls ≠ .type "tuple") :
    SrtO.SortableO prog w A s a vs fun v u => ltN (k v) (k u) := by
  intro h' keep
  have hp2 : ∀ v ∈ vs, IsRow h' v (k v) := fun v c => (hp v c).keeps fun b o e d => keep b o (fun z => by subst z; exact ha o e d) e
  obtain ⟨fs, q1, q2, q3⟩ := rows_firsts fun v c => ⟨_, hp2 v c⟩
  refine ⟨tuples' true, fun Q E hq => ?_, row_cmp hp2 hu⟩
  refine PySem.W.kat_kind (T := .type "str") q1 (by omega) (fun f c => ?_) (by rfl) ?_
  · obtain ⟨x, t, rfl⟩ := q3 f c
    exact PySem.W.Looks.now
  · have e : (Value.type "str" != Value.type "tuple") = true := by first | decide +kernel | rfl | decide
    rw [e]
    exact hq
end
/-- sorted(xs), xs tuples of rows of which no two have one name -/
def rSortRw (K : PySem.W.Frag) : List V → Hp → VK → Prop := fun vs H Q => ∃ (a : Addr) (ts : List Addr) (rs : List Rw), vs = [V.ref a] ∧ SqL K H a (ts.map V.ref) ∧ Paired (RowAt H) ts rs ∧ (rs.map (·.nm)).Nodup ∧
  ∀ (us : List Addr) (qs : List Rw) (p : Addr), Paired (RowAt H) us qs → us.Perm ts → qs.Perm rs → Asc qs → H p = none → Q (.ref p) (upd H p (.lst (us.map V.ref)))
theorem rows_are {H : Hp} : ∀ {ts : List Addr} {rs : List Rw}, Paired (RowAt H) ts rs → ts.map (rowIn H) = rs
  | _, _, .nil => rfl
  | _, _, .cons h t => by rw [List.map_cons, h.row, rows_are t]
theorem rows_of {H : Hp} : ∀ {ts : List Addr}, (∀ t ∈ ts, RowAt H t (rowIn H t)) → Paired (RowAt H) ts (ts.map (rowIn H))
  | [], _ => .nil
  | t :: ts, h => .cons (h t List.mem_cons_self) (rows_of fun u hu => h u (List.mem_cons_of_mem _ hu))
theorem cr_sortedRw {X : Cx} : CallR X (.builtin "sorted") (rSortRw X.K) := by
  intro ps s τ H vs us Q I r h
  obtain ⟨a, ts, rs, rfl, hs, pr, nd, q⟩ := h
  obtain ⟨its, rv, hl, hz⟩ := I.list hs
  obtain ⟨u, rfl, ru⟩ := vals1 r
  obtain rfl : u = Value.ref a := ru
  have ei := nts_of rv
  subst ei
  have er := rows_are pr
  have rowt : ∀ t ∈ ts, RowAt H t (rowIn H t) := fun t ht => by
    obtain ⟨i, _, e⟩ := List.mem_iff_getElem?.mp ht |>.imp fun i e => And.intro trivial e
    obtain ⟨r, _, hr⟩ := paired_get pr e
    rw [hr.row]
    exact hr
  have hrow : ∀ v ∈ ts.map Value.ref, IsRow s.heap v (rowV H v) := fun v hv => by
    obtain ⟨t, ht, rfl⟩ := List.mem_map.mp hv
    have hr := rowt t ht
    obtain ⟨_, its2, r2, o, ho, hc, n, hd⟩ := I.hok _ _ hr
    cases r2 with
    | cons x1 y1 =>
    cases y1 with
    | cons x2 y2 =>
    cases y2 with
    | cons x3 y3 =>
    cases y3 with
    | cons x4 y4 =>
    cases y4
    obtain ⟨t1, rfl⟩ := x1
    obtain ⟨t2, rfl⟩ := x2
    obtain ⟨t3, rfl⟩ := x3
    obtain ⟨t4, rfl⟩ := x4
    exact ⟨t, o, t1, t2, t3, t4, n, rfl, ho, hc, hd⟩
  have inj : ∀ v ∈ ts.map Value.ref, ∀ u ∈ ts.map Value.ref, (rowV H v).nm = (rowV H u).nm → rowV H v = rowV H u := fun v hv u hu e => by
    obtain ⟨t, ht, rfl⟩ := List.mem_map.mp hv
    obtain ⟨t', ht', rfl⟩ := List.mem_map.mp hu
    have m1 : rowIn H t ∈ rs := by rw [← er]; exact List.mem_map.mpr ⟨t, ht, rfl⟩
    have m2 : rowIn H t' ∈ rs := by rw [← er]; exact List.mem_map.mpr ⟨t', ht', rfl⟩
    exact name_inj nd m1 m2 e
  refine SrtO.sorted_ord (swo_name (rowV H)) hl.isList (by rw [← rv.length]; exact hz) (fun h2 h1 b hb kk => ?_) fun out q1 q2 => ?_
  · refine rows_sortable (s := { s with heap := h1 }) (by omega) (fun v hm => (hrow v hm).keeps fun b o e _ => (kk b o e).2) inj fun o e => ?_
    have e' : some o = some (seqObj "list" (ts.map Value.ref).toArray 0) := e.symm.trans hb
    cases e'
    intro c
    exact absurd (Value.type.inj c) (by decide)
  · have h3 : ∀ v ∈ out, ∃ t, v = Value.ref t := fun v hv => by
      obtain ⟨t, _, e⟩ := List.mem_map.mp (q2.perm.mem_iff.mp hv)
      exact ⟨t, e.symm⟩
    obtain ⟨n, hn⟩ := sortedAll_at s.heap (ts.map Value.ref) out.toArray
    have eo := ref_map h3
    generalize hu : out.map adO = us at eo
    subst eo
    have pu : us.Perm ts := by
      have z := q2.perm.map adO
      rw [ad_map, ad_map] at z
      exact z
    have hus : ∀ t ∈ us, RowAt H t (rowIn H t) := fun t ht => rowt t (pu.mem_iff.mp ht)
    have pq : (us.map (rowIn H)).Perm rs := by
      rw [← er]
      exact pu.map _
    have asc : Asc (us.map (rowIn H)) := by
      have n1 : ((us.map (rowIn H)).map (·.nm)).Nodup := (pq.map _).nodup_iff.mpr nd
      have z1 : (us.map (rowIn H)).Pairwise fun x y => ¬ ltS y.nm x.nm := by
        rw [List.pairwise_map]
        have z : us.Pairwise fun x y => ltN (rowIn H y) (rowIn H x) = false := List.pairwise_map.mp q1
        exact z.imp fun {x y} c => of_decide_eq_false c
      have z2 : (us.map (rowIn H)).Pairwise fun x y => x.nm ≠ y.nm := List.pairwise_map.mp (List.nodup_iff_pairwise_ne.mp n1)
      refine (z1.and z2).imp fun {x y} c => ?_
      rcases ltS_tri x.nm y.nm with e | e | e
      · exact e
      · exact absurd e c.2
      · exact absurd e c.1
    have hd : s.heap.objs.size ≤ s.heap.objs.size + 1 := Nat.le_succ _
    refine ⟨.ref (s.heap.objs.size + 1), upd H (s.heap.objs.size + 1) (.lst (us.map V.ref)), I.laid (t' := s.toks) (fun b o e => sortedAll_old e) hd ⟨?_, us.map Value.ref, n, of_nts us, hn⟩, rfl, q us _ _ (rows_of hus) pu pq asc (I.hok.fresh hd)⟩
    rw [List.length_map, pu.length_eq]
    have z := hz
    rw [List.length_map] at z
    exact z
end Ask

set_option Elab.async false
set_option linter.all false
set_option maxRecDepth 100000
set_option maxHeartbeats 4000000
namespace Ask
open PySem L2
open PyProof.Rows
/-- loose: the ranges' word -/
def looseB (lo hi lo' hi' : Int) : Bool := !(decide (lo = hi) && decide (lo' = hi')) && !decide (hi < lo') && !decide (hi' < lo)
theorem looseB_iff {lo hi lo' hi' : Int} : looseB lo hi lo' hi' = true ↔ ¬ (lo = hi ∧ lo' = hi') ∧ lo' ≤ hi ∧ lo ≤ hi' := by
  unfold looseB
  simp only [Bool.and_eq_true, Bool.not_eq_true', decide_eq_false_iff_not, Bool.and_eq_false_iff, not_and, Int.not_lt]
  constructor
  · rintro ⟨⟨h1, h2⟩, h3⟩
    exact ⟨fun a b => by rcases h1 with h | h <;> contradiction, h2, h3⟩
  · rintro ⟨h1, h2, h3⟩
    refine ⟨⟨?_, h2⟩, h3⟩
    by_cases a : lo = hi
    · exact .inr (h1 a)
    · exact .inl a
end Ask

set_option Elab.async false
set_option linter.all false
set_option maxRecDepth 100000
set_option maxHeartbeats 4000000
namespace Ask
open PySem L2
open PyProof.Rows
def opens (rs : List Rw) : List Rw := rs.filter fun r => !decide (r.lo = r.hi)
def openN (rs : List Rw) : List Str := (opens rs).map (·.nm)
theorem openN_nodup {rs : List Rw} (h : Asc rs) : (openN rs).Nodup := by
  unfold openN opens
  exact List.Sublist.nodup (List.Sublist.map (fun r : Rw => r.nm) List.filter_sublist) h.nodup
theorem openN_len {rs : List Rw} : (openN rs).length ≤ rs.length := by
  unfold openN opens
  rw [List.length_map]
  exact List.length_filter_le _ _
theorem openN_nodupN {rs : List Rw} (h : (rs.map (·.nm)).Nodup) : (openN rs).Nodup := by
  unfold openN opens
  exact List.Sublist.nodup (List.Sublist.map (fun r : Rw => r.nm) List.filter_sublist) h
theorem refs_not {ts : List Addr} (l : Addr) (i v : Int) : HO.lst (ts.map V.ref) ≠ .lst [.ref l, .int i, .int v] := fun e => by
  cases ts with
  | nil => cases e
  | cons t ts =>
    cases ts with
    | nil => cases e
    | cons u ts => cases e
/-- values for a pool -/
structure Vals4 (rs : List Rw) (kn : List (Str × Int)) : Prop where
  pm : (kn.map (·.1)).Perm (openN rs)
  ok : ∀ p ∈ kn, ∃ r ∈ rs, r.nm = p.1 ∧ r.lo ≤ p.2 ∧ p.2 ≤ r.hi
theorem kents_look : ∀ (kn : List (Str × Int)) (n : Str), valV (kents kn) (Sum.inr n : Key) = (kn.lookup n).map V.int
  | [], _ => rfl
  | (m, v) :: kn, n => by
    rw [List.lookup_cons]
    by_cases e : n = m
    · subst e
      rw [beq_self_eq_true]
      exact valV_pos rfl
    · rw [beq_false_of_ne e]
      exact (valV_neg fun z => e (Sum.inr.inj z).symm).trans (kents_look kn n)
theorem look_mem : ∀ {kn : List (Str × Int)} {n : Str} {v : Int}, kn.lookup n = some v → (n, v) ∈ kn
  | (m, w) :: kn, n, v, h => by
    rw [List.lookup_cons] at h
    by_cases e : n = m
    · subst e
      rw [beq_self_eq_true] at h
      cases h
      exact List.mem_cons_self
    · rw [beq_false_of_ne e] at h
      exact List.mem_cons_of_mem _ (look_mem h)
theorem Vals4.sub {rs : List Rw} {kn : List (Str × Int)} (V4 : Vals4 rs kn) : ∀ p ∈ kn, p.1 ∈ openN rs := fun p h => V4.pm.mem_iff.mp (List.mem_map.mpr ⟨p, h, rfl⟩)
theorem open_of_look {rs : List Rw} {kn : List (Str × Int)} (nd : (rs.map (·.nm)).Nodup) (V4 : ∀ p ∈ kn, p.1 ∈ openN rs) {r : Rw} (hr : r ∈ rs) {v : Int} (h : kn.lookup r.nm = some v) : r ∈ opens rs := by
  have m : r.nm ∈ openN rs := V4 _ (look_mem h)
  obtain ⟨q, hq, e⟩ := List.mem_map.mp m
  rw [← name_inj nd (List.mem_filter.mp hq).1 hr e]
  exact hq
theorem open_lt {rs : List Rw} {r : Rw} (h : r ∈ opens rs) (le : r.lo ≤ r.hi) : r.lo < r.hi := by
  have z := (List.mem_filter.mp h).2
  have z2 : r.lo ≠ r.hi := by simpa using z
  omega
theorem told_exact {rs : List Rw} {kn : List (Str × Int)} (nd : (rs.map (·.nm)).Nodup) (V4 : Vals4 rs kn) {q : Rw} (h : q ∈ rs.map (tellR kn)) : q.lo = q.hi := by
  obtain ⟨r, hr, rfl⟩ := List.mem_map.mp h
  cases e : kn.lookup r.nm with
  | some v =>
    unfold tellR
    rw [e]
  | none =>
    have et : tellR kn r = r := by unfold tellR; rw [e]
    rw [et]
    by_cases c : r.lo = r.hi
    · exact c
    · have m : r.nm ∈ openN rs := List.mem_map.mpr ⟨r, List.mem_filter.mpr ⟨hr, by simpa using c⟩, rfl⟩
      obtain ⟨p, hp, en⟩ := List.mem_map.mp (V4.pm.mem_iff.mpr m)
      have z := kents_look kn r.nm
      rw [e, ← en, kents_get ((V4.pm.nodup_iff.mpr (openN_nodupN nd))) (show (p.1, p.2) ∈ kn from hp)] at z
      cases z
end Ask

set_option Elab.async false
set_option linter.all false
set_option maxRecDepth 100000
set_option maxHeartbeats 2000000
namespace Ask
open PySem PySem.Spec PyProof.Rows L2 GenW
open Sem (wp)
/-- one turn of a sleeper's code: it ends, or hands out, and then Φ holds -/
def Sg (M : Model) (A : Around) (Φ : End → Shared → Prop) (c : Code) (t : Sem PySem.Fin) (fs : List Frame) (s : Shared) : Prop :=
  ∀ Γ p, Γ.code = c → Γ.Woken A → ∃ e s', Runs M Γ p t fs s e s' ∧ Φ e s'
section
variable {M : Model} {A : Around} {Φ Φ' : End → Shared → Prop} {c : Code} {fs : List Frame} {s : Shared}
theorem Sg.imp {t : Sem PySem.Fin} (h : Sg M A Φ c t fs s) (f : ∀ e s', Φ e s' → Φ' e s') : Sg M A Φ' c t fs s := fun Γ p e h2 =>
  let ⟨x, s', r, q⟩ := h Γ p e h2
  ⟨x, s', r, f _ _ q⟩
theorem sg_wrap {α : Type} {m : Sem α} {K : α → Sem PySem.Fin} {J : Value → Sem PySem.Fin} {gd : Bool → Bool} {lv : List Value → List Value}
    (h : wpAny M (A.over c fs) m (fun a s' => Sg M A Φ c (K a) fs s') (fun x s' => Sg M A Φ c (J x) fs s') s) : Sg M A Φ c (m.wrap K J gd lv) fs s := by
  rintro Γ p rfl hΓ
  exact runs_wrap_of_wp K J gd lv m (h (Γ.over fs) p (hΓ.over fs)) (fun a p' s' h' => h' Γ p' rfl hΓ) (fun x p' s' h' => h' Γ p' rfl hΓ)
theorem sg_bind {α : Type} {m : Sem α} {K : α → Sem PySem.Fin}
    (h : wpAny M (A.over c fs) m (fun a s' => Sg M A Φ c (K a) fs s') (fun x s' => Sg M A Φ c (.raise x) fs s') s) : Sg M A Φ c (m >>= K) fs s := by
  rw [Sem.bind_eq_wrap']; exact sg_wrap h
/-- the head of a bind under a wrap -/
theorem sg_bw {α β : Type} {m : Sem α} {f : α → Sem β} {K : β → Sem PySem.Fin} {J : Value → Sem PySem.Fin} {gd : Bool → Bool} {lv : List Value → List Value}
    (h : wpAny M (A.over c fs) m (fun a s' => Sg M A Φ c ((f a).wrap K J gd lv) fs s') (fun x s' => Sg M A Φ c (J x) fs s') s) : Sg M A Φ c ((m >>= f).wrap K J gd lv) fs s := by
  rw [Sem.bind_eq_wrap', Sem.wrap_wrap]
  exact sg_wrap h
theorem sg_at {p' : Pos} {k : Unit → Sem PySem.Fin} (h : Sg M A Φ c (k ()) fs s) : Sg M A Φ c (.at p' k) fs s :=
  sg_wrap (m := standAt p') (K := k) (J := .raise) (gd := id) (lv := id) (wpAny_standAt h)
theorem sg_point {l : List Value} {k : Unit → Sem PySem.Fin} (h : Sg M A Φ c (k ()) fs s) : Sg M A Φ c (.point l k) fs s :=
  sg_wrap (m := point) (K := k) (J := .raise) (gd := id) (lv := fun _ => l) (wpAny_point h)
theorem sg_call {c' : Code} {h : Option Value} {g : Bool} {l : List Value} {k : Result → Sem PySem.Fin} (hc : ∀ p, Sg M A Φ c' (M.den c') (.ret k h g l c p [] :: fs) s) : Sg M A Φ c (.call c' h g l k) fs s := by
  rintro Γ p rfl hΓ
  obtain ⟨e, s', hr, he⟩ := hc p (Γ.goto c') p rfl (hΓ.goto c')
  exact ⟨e, s', runs_call_seg hr, he⟩
theorem sg_leaf {k : Result → Sem PySem.Fin} {h : Option Value} {g : Bool} {l kp : List Value} {c₁ : Code} {p₁ : Pos} (r : Result) (hk : Sg M A Φ c₁ (k r) fs s) : Sg M A Φ c (leafOf r) (.ret k h g l c₁ p₁ kp :: fs) s := by
  rintro Γ p rfl hΓ
  obtain ⟨e, s', hr, he⟩ := hk (Γ.goto c₁) p₁ rfl (hΓ.goto c₁)
  exact ⟨e, s', Runs.pop r hr, he⟩
theorem sg_again {c' : Code} (hq : c'.quiet = true) (hc : Sg M A Φ c' (M.den c') fs s) : Sg M A Φ c (.pure (.again c')) fs s := by
  rintro Γ p rfl hΓ
  obtain ⟨e, s', hr, he⟩ := hc (Γ.goto c') p rfl (hΓ.goto c')
  exact ⟨e, s', Runs.head (c₁ := c') (fun _ _ x => .again hq x) hr, he⟩
theorem sg_end (r : Result) (h : Φ (.ret r) s) : Sg M A Φ c (leafOf r) [] s := by
  rintro Γ p rfl _
  exact ⟨.ret r, s, Runs.leaf r, h⟩
theorem sg_yield {v : Value} {g : Bool} {l : List Value} {k : Resume → Sem PySem.Fin} (hfs : splitAtGen fs = none) (h : ∀ p, Φ (.susp v g l k c p fs) s) : Sg M A Φ c (.yield v g l k) fs s := by
  rintro Γ p rfl _
  exact ⟨_, s, Runs.yield' fs hfs, h p⟩
section
variable {env : Env} {K : Flow → Sem PySem.Fin} {J : Value → Sem PySem.Fin} {gd : Bool → Bool} {lv : List Value → List Value}
theorem sg_execs_nil (h : Sg M A Φ c (K .next) fs s) : Sg M A Φ c ((execs [] env).wrap K J gd lv) fs s := h
theorem sg_execs_cons {st : Stmt} {rest : List Stmt}
    (h : Sg M A Φ c ((exec st env).wrap (fun f => match f with | .next => (execs rest env).wrap K J gd lv | f => K f) J gd lv) fs s) : Sg M A Φ c ((execs (st :: rest) env).wrap K J gd lv) fs s := by
  rw [execs_cons_wrap]; exact h
/-- yield e as a statement -/
theorem sg_Expr_Yield {e : Expr} {ypos pos : Pos} (hfs : splitAtGen fs = none) (hgd : gd false = false)
    (h : wpAny M (A.over c fs) (eval e env) (fun v s' => ∀ p l (k : Resume → Sem PySem.Fin), Φ (.susp v false l k c p fs) s') (fun x s' => Sg M A Φ c (J x) fs s') s)
    (hco : env.scope.isCoroutine = false := by rfl) (hi : interactive env = false := by rfl) :
    Sg M A Φ c ((exec (.Expr (.Yield (some e) ypos) pos) env).wrap K J gd lv) fs s := by
  rw [exec_Expr env _ pos hi rfl]
  show Sg M A Φ c (.at pos fun _ => ((eval e env >>= fun v => (standAt ypos >>= fun _ => yieldOut env v)) >>= fun x =>
    dropValue (.Yield (some e) ypos) pos x).wrap K J gd lv) fs s
  have hy : ∀ v, yieldOut env v = yieldValue v := fun v => by simp only [yieldOut, hco, Bool.false_eq_true, if_false]
  simp only [hy]
  refine sg_at ?_
  rw [Sem.bind_eq_wrap', Sem.bind_eq_wrap', Sem.wrap_wrap, Sem.wrap_wrap]
  refine sg_wrap (wpAny_mono h (fun v s' h' => ?_) fun _ _ x => x)
  refine sg_at (sg_yield hfs fun p => ?_)
  show Φ (.susp v (gd false) _ _ c p fs) s'
  rw [hgd]
  exact h' p _ _
end
end
section
variable {prog : Program} {w : World} {A : Around} {Φ : End → Shared → Prop} {c : Code} {fs : List Frame} {s : Shared} {env : Env}
theorem sg_func {body : List Stmt}
    (h : Sg (model prog w) A Φ (.func body env) ((execs body env).wrap (fun f => .pure (.done (.ret (match f with | .ret v => v | _ => .none))))
      (fun e => (leaving env e).wrap (fun _ => .raise e) .raise id id) id id) fs s) : Sg (model prog w) A Φ (.func body env) ((model prog w).den (.func body env)) fs s := by
  show Sg _ A Φ _ (.point [] fun _ => ((execs body env).onRaise (leaving env)) >>= _) fs s
  refine sg_point ?_
  rw [Sem.onRaise_eq_wrap, Sem.bind_eq_wrap', Sem.wrap_wrap]
  rw [Sem.wrap_congr (execs body env) _ _ (K' := fun f => .pure (.done (.ret (match f with | .ret v => v | _ => .none))))
    (H' := fun e => (leaving env e).wrap (fun _ => .raise e) .raise id id) (fun f => by cases f <;> rfl)
    (fun e => by rw [Sem.bind_eq_wrap, Sem.wrap_wrap]; rfl)]
  exact h
/-- what a loop's code does with an exception -/
abbrev noted (env : Env) (e : Value) : Sem PySem.Fin := (do noteFrame e env; theTreesLotGoes e : Sem Unit).wrap (fun _ => .raise e) .raise id id
/-- a turn of a for loop -/
theorem sg_forLoop {tg : Expr} {it : Value} {body : List Stmt}
    (h : wpAny (model prog w) (A.over (.forLoop tg it body [] env) fs) (pyNext it) (fun r s1 => match r with
      | none => Sg (model prog w) A Φ (.forLoop tg it body [] env) (.pure (.again (.block [] env))) fs s1
      | some v => wpAny (model prog w) (A.over (.forLoop tg it body [] env) fs) (letOwnedTupleGo tg it v) (fun _ s2 =>
          wpAny (model prog w) (A.over (.forLoop tg it body [] env) fs) (assign tg env v) (fun _ s3 =>
            Sg (model prog w) A Φ (.forLoop tg it body [] env) ((execs body env).wrap (fun f => match f with
              | .next | .cont => .pure (.again (.forLoop tg it body [] env))
              | .brk => .pure (.done .next)
              | .ret v => .pure (.done (.ret v))) (noted env) id id) fs s3) (fun x s' => Sg (model prog w) A Φ (.forLoop tg it body [] env) (noted env x) fs s') s2)
            (fun x s' => Sg (model prog w) A Φ (.forLoop tg it body [] env) (noted env x) fs s') s1)
      (fun x s' => Sg (model prog w) A Φ (.forLoop tg it body [] env) (noted env x) fs s') s) :
    Sg (model prog w) A Φ (.forLoop tg it body [] env) ((model prog w).den (.forLoop tg it body [] env)) fs s := by
  show Sg _ A Φ _ ((forTurn tg it body [] env).onRaise (fun x => do noteFrame x env; theTreesLotGoes x)) fs s
  rw [Sem.onRaise_eq_wrap]
  have hj : ∀ e : Value, (do noteFrame e env; theTreesLotGoes e : Sem Unit).bind (fun _ => (.raise e : Sem PySem.Fin)) = noted env e := fun e => Sem.bind_eq_wrap _ _
  rw [Sem.wrap_congr (forTurn tg it body [] env) _ _ (fun _ => rfl) hj]
  unfold forTurn
  refine sg_bw (wpAny_standAt ?_)
  refine sg_bw (wpAny_onRaise (wpAny_mono h (fun r s1 h1 => ?_) fun x s' hx => wpAny_standAt hx))
  cases r with
  | none => exact h1
  | some v =>
    refine sg_bw (wpAny_mono h1 (fun _ s2 h2 => ?_) fun _ _ z => z)
    refine sg_bw (wpAny_mono h2 (fun _ s3 h3 => ?_) fun _ _ z => z)
    show Sg _ A Φ _ (((execs body env) >>= _).wrap _ _ _ _) fs s3
    rw [Sem.bind_eq_wrap', Sem.wrap_wrap]
    rw [Sem.wrap_congr (execs body env) _ _ (K' := fun f => match f with
              | .next | .cont => .pure (.again (.forLoop tg it body [] env))
              | .brk => .pure (.done .next)
              | .ret v => .pure (.done (.ret v))) (H' := noted env)
        (fun f => by cases f <;> rfl) (fun e => by rfl)]
    exact h3
/-- behind the last turn -/
theorem sg_block_nil {k : Result → Sem PySem.Fin} {h : Option Value} {g : Bool} {l kp : List Value} {c₁ : Code} {p₁ : Pos} (hk : Sg (model prog w) A Φ c₁ (k (.ok .next)) fs s) :
    Sg (model prog w) A Φ c (.pure (.again (.block [] env))) (.ret k h g l c₁ p₁ kp :: fs) s := by
  refine sg_again rfl ?_
  show Sg _ A Φ _ ((execs [] env).onRaise _ >>= _) _ s
  refine sg_bind (wpAny_onRaise (wpAny_execs_nil ?_))
  exact sg_leaf (.ok .next) hk
/-- a for statement -/
theorem sg_For {tg iter : Expr} {body : List Stmt} {pos : Pos} {K : Flow → Sem PySem.Fin} {J : Value → Sem PySem.Fin} {gd : Bool → Bool} {lv : List Value → List Value} (hs : ∀ x, foldedSetIterable iter env x = pure x)
    (h : wpAny (model prog w) (A.over c fs) (eval iter env) (fun v s1 => wpAny (model prog w) (A.over c fs) (pyIter v) (fun it s2 =>
      ∀ p, Sg (model prog w) A Φ (.forLoop tg it body [] env) ((model prog w).den (.forLoop tg it body [] env))
        (.ret (fun r => ((match r with | .ok f => (.pure f : Sem Flow) | .error e => .raise e).onRaise (cameBack env)).wrap K J gd lv) none (gd false) (lv []) c p [] :: fs) s2)
      (fun x s' => Sg (model prog w) A Φ c (J x) fs s') s1) (fun x s' => Sg (model prog w) A Φ c (J x) fs s') s) :
    Sg (model prog w) A Φ c ((exec (.For tg iter body [] pos) env).wrap K J gd lv) fs s := by
  rw [exec_For]
  refine sg_bw (wpAny_standAt ?_)
  refine sg_bw (wpAny_mono h (fun v s1 h1 => ?_) fun _ _ z => z)
  refine sg_bw (wpAny_of_eq (hs v) ?_)
  refine sg_bw (wpAny_standAt ?_)
  refine sg_bw (wpAny_holding (wpAny_mono h1 (fun it s2 h2 => ?_) fun _ _ z => z))
  exact sg_call h2
end
end Ask

set_option Elab.async false
set_option linter.all false
set_option maxRecDepth 100000
set_option maxHeartbeats 2000000
namespace Ask
open PySem PySem.Spec PyProof.Rows L2 GenW
open Sem (wp)
/-! a sleeping generator stays as it is while code runs that never wakes it: the same code runs beside a ghost of it, which nobody can wake -/
def ghostG : GenState → GenState
  | .suspended _ l c p fs cl => .suspended (fun _ => .unsupported "") l c p fs cl
  | x => x
/-- at a place: a ghost beside its sleeper, or both alike (and then what sleeps has no generator's frame) -/
def TiedAt (real : Array GenState) (i : Nat) (a b : Array GenState) : Prop := match real[i]? with
  | some (.suspended k l c p fs cl) => a[i]? = some (.suspended (fun _ => .unsupported "") l c p fs cl) ∧ b[i]? = some (.suspended k l c p fs cl)
  | _ => a[i]? = b[i]? ∧ ∀ k l c p fs cl, a[i]? = some (.suspended k l c p fs cl) → splitAtGen fs = none
structure Tied (real : Array GenState) (s0 s1 : Shared) : Prop where
  same : s1 = { s0 with gens := s1.gens }
  size : s0.gens.size = s1.gens.size
  big : real.size ≤ s0.gens.size
  at_ : ∀ i, TiedAt real i s0.gens s1.gens
/-- no sleeper of the first hour -/
def FreeAt (real : Array GenState) (i : Nat) : Prop := ∀ k l c p fs cl, real[i]? ≠ some (.suspended k l c p fs cl)
section
variable {real : Array GenState} {s0 s1 : Shared}
theorem TiedAt.free {i : Nat} {a b : Array GenState} (h : TiedAt real i a b) (f : FreeAt real i) : a[i]? = b[i]? ∧ ∀ k l c p fs cl, a[i]? = some (.suspended k l c p fs cl) → splitAtGen fs = none := by
  unfold TiedAt at h
  split at h
  · rename_i e
    exact absurd e (f _ _ _ _ _ _)
  · exact h
theorem TiedAt.of {i : Nat} {a b : Array GenState} (f : FreeAt real i) (h : a[i]? = b[i]? ∧ ∀ k l c p fs cl, a[i]? = some (.suspended k l c p fs cl) → splitAtGen fs = none) : TiedAt real i a b := by
  unfold TiedAt
  split
  · rename_i e
    exact absurd e (f _ _ _ _ _ _)
  · exact h
theorem TiedAt.congr {i : Nat} {a b a' b' : Array GenState} (h : TiedAt real i a b) (e1 : a'[i]? = a[i]?) (e2 : b'[i]? = b[i]?) : TiedAt real i a' b' := by
  unfold TiedAt at h ⊢
  rw [e1, e2]
  exact h
/-- what is seen of a generator is alike -/
theorem TiedAt.seen {i : Nat} {a b : Array GenState} (h : TiedAt real i a b) {x : GenState} (e : a[i]? = some x) : ∃ y, b[i]? = some y ∧ y.seen = x.seen := by
  unfold TiedAt at h
  split at h
  · obtain ⟨h1, h2⟩ := h
    rw [h1] at e
    cases e
    exact ⟨_, h2, rfl⟩
  · exact ⟨x, by rw [← h.1]; exact e, rfl⟩
/-- what does not sleep is no ghost -/
theorem TiedAt.awake {i : Nat} {a b : Array GenState} (h : TiedAt real i a b) {x : GenState} (e : a[i]? = some x) (n : ∀ k l c p fs cl, x ≠ .suspended k l c p fs cl) : FreeAt real i := fun k l c p fs cl c' => by
  unfold TiedAt at h
  rw [c'] at h
  obtain ⟨h1, _⟩ := h
  rw [h1] at e
  cases e
  exact n _ _ _ _ _ _ rfl
theorem Tied.heap (T : Tied real s0 s1) : s1.heap = s0.heap := by rw [T.same]
theorem Tied.toks (T : Tied real s0 s1) : s1.toks = s0.toks := by rw [T.same]
theorem Tied.drawn (T : Tied real s0 s1) : s1.drawn = s0.drawn := by rw [T.same]
theorem Tied.os (T : Tied real s0 s1) : s1.os = s0.os := by rw [T.same]
theorem Tied.with_ (T : Tied real s0 s1) (f : Shared → Shared) (hf : ∀ s g, f { s with gens := g } = { f s with gens := g }) (hg : ∀ s, (f s).gens = s.gens) : Tied real (f s0) (f s1) := by
  refine ⟨?_, by rw [hg, hg]; exact T.size, by rw [hg]; exact T.big, by rw [hg, hg]; exact T.at_⟩
  rw [hg]
  conv => lhs; rw [T.same]
  rw [hf]
theorem Tied.set (T : Tied real s0 s1) {g : Nat} (f : FreeAt real g) {y : GenState} (ny : ∀ k l c p fs cl, y = .suspended k l c p fs cl → splitAtGen fs = none) : Tied real (s0.setGen g y) (s1.setGen g y) := by
  refine ⟨?_, ?_, ?_, fun i => ?_⟩
  · show ({ s1 with gens := _ } : Shared) = _
    rw [T.same]
    rfl
  · show (s0.gens.setIfInBounds g y).size = (s1.gens.setIfInBounds g y).size
    rw [Array.size_setIfInBounds, Array.size_setIfInBounds, T.size]
  · show _ ≤ (s0.gens.setIfInBounds g y).size
    rw [Array.size_setIfInBounds]
    exact T.big
  · show TiedAt real i (s0.gens.setIfInBounds g y) (s1.gens.setIfInBounds g y)
    by_cases c : g = i
    · subst c
      refine TiedAt.of f ?_
      have z := (T.at_ g).free f
      rw [Array.getElem?_setIfInBounds_self, Array.getElem?_setIfInBounds_self, T.size]
      refine ⟨rfl, fun k l c p fs cl e => ?_⟩
      split at e
      · exact ny k l c p fs cl (Option.some.inj e)
      · cases e
    · exact (T.at_ i).congr (Array.getElem?_setIfInBounds_ne c) (Array.getElem?_setIfInBounds_ne c)
theorem Tied.push (T : Tied real s0 s1) {y : GenState} (ny : ∀ k l c p fs cl, y ≠ .suspended k l c p fs cl) : Tied real { s0 with gens := s0.gens.push y } { s1 with gens := s1.gens.push y } := by
  refine ⟨?_, ?_, ?_, fun i => ?_⟩
  · show ({ s1 with gens := _ } : Shared) = _
    rw [T.same]
  · show (s0.gens.push y).size = (s1.gens.push y).size
    rw [Array.size_push, Array.size_push, T.size]
  · show _ ≤ (s0.gens.push y).size
    rw [Array.size_push]
    exact Nat.le_succ_of_le T.big
  · show TiedAt real i (s0.gens.push y) (s1.gens.push y)
    by_cases c : i = s0.gens.size
    · subst c
      refine TiedAt.of (fun k l c p fs cl e => ?_) ?_
      · have z := (Array.getElem?_eq_some_iff.mp e).1
        exact absurd (Nat.lt_of_lt_of_le z T.big) (Nat.lt_irrefl _)
      · rw [Array.getElem?_push_size]
        refine ⟨by rw [T.size, Array.getElem?_push_size], fun k l c p fs cl e => absurd (Option.some.inj e) (ny k l c p fs cl)⟩
    · refine (T.at_ i).congr ?_ ?_
      · rw [Array.getElem?_push, if_neg c]
      · rw [Array.getElem?_push, if_neg (by rw [← T.size]; exact c)]
end
theorem split_app : ∀ {fs gs : List Frame}, splitAtGen fs = none → splitAtGen gs = none → splitAtGen (fs ++ gs) = none
  | [], _, _, h => h
  | .gen .. :: _, _, h, _ => by cases h
  | .ret .. :: fs, gs, h, h2 => by
    have h' : (splitAtGen fs).map _ = none := h
    rw [Option.map_eq_none_iff] at h'
    show (splitAtGen (fs ++ gs)).map _ = none
    rw [split_app h' h2]
    rfl
theorem split_tail {k h g l c p kp} {fs : List Frame} (e : splitAtGen (.ret k h g l c p kp :: fs) = none) : splitAtGen fs = none := by
  have h' : (splitAtGen fs).map _ = none := e
  rwa [Option.map_eq_none_iff] at h'
theorem no_unsup0 {M : Model} {w : String} {Γ : PySem.Ctx} {p : Pos} {s s' : Shared} {e : End} (h : Runs M Γ p (.unsupported w) [] s e s') : False := by cases h
theorem no_unsup {M : Model} {w : String} {Γ : PySem.Ctx} {p : Pos} {fs : List Frame} {s s' : Shared} {e : End} (h : Runs M Γ p (.unsupported w) fs s e s') : False := by
  cases h with
  | segRet a _ => exact no_unsup0 a
  | segGen a _ => exact no_unsup0 a
  | segSuspOut _ a => exact no_unsup0 a
  | segSuspGen _ a _ _ => exact no_unsup0 a
/-- a sleeper's frames -/
def EndNo : End → Prop
  | .susp _ _ _ _ _ _ fs => splitAtGen fs = none
  | .ret _ => True
theorem EndNo.gen {e : End} (h : EndNo e) : ∀ k l c p fs cl, e.genState = .suspended k l c p fs cl → splitAtGen fs = none := fun k l c p fs cl q => by
  cases e with
  | ret r => cases q
  | susp v g l k c p fs => cases q; exact h
/-- what runs beside ghosts runs beside the sleepers -/
theorem ghost_runs {M : Model} {Γ : PySem.Ctx} {p : Pos} {t : Sem PySem.Fin} {fs : List Frame} {s0 s0' : Shared} {e : End} (h : Runs M Γ p t fs s0 e s0') :
    ∀ (real : Array GenState) (s1 : Shared), splitAtGen fs = none → Tied real s0 s1 → ∃ s1', Tied real s0' s1' ∧ Runs M Γ p t fs s1 e s1' ∧ EndNo e := by
  induction h with
  | done => exact fun real s1 _ T => ⟨s1, T, .done, trivial⟩
  | raise => exact fun real s1 _ T => ⟨s1, T, .raise, trivial⟩
  | again q _ ih =>
    intro real s1 n T
    obtain ⟨s1', T', r, x⟩ := ih real s1 n T
    exact ⟨s1', T', .again q r, x⟩
  | rule _ ih =>
    intro real s1 n T
    obtain ⟨s1', T', r, x⟩ := ih real s1 n T
    exact ⟨s1', T', .rule r, x⟩
  | «at» _ ih =>
    intro real s1 n T
    obtain ⟨s1', T', r, x⟩ := ih real s1 n T
    exact ⟨s1', T', .at r, x⟩
  | load e _ ih =>
    intro real s1 n T
    obtain ⟨s1', T', r, x⟩ := ih real s1 n T
    exact ⟨s1', T', .load (by rw [T.heap]; exact e) r, x⟩
  | update e _ ih =>
    intro real s1 n T
    obtain ⟨s1', T', r, x⟩ := ih real _ n (T.with_ (fun s => { s with heap := s.heap.update _ _ }) (fun _ _ => rfl) fun _ => rfl)
    exact ⟨s1', T', .update (by rw [T.heap]; exact e) r, x⟩
  | loadIfAlive _ ih =>
    intro real s1 n T
    obtain ⟨s1', T', r, x⟩ := ih real s1 n T
    exact ⟨s1', T', .loadIfAlive (by rw [T.heap]; exact r), x⟩
  | point _ ih =>
    intro real s1 n T
    obtain ⟨s1', T', r, x⟩ := ih real s1 n T
    exact ⟨s1', T', .point r, x⟩
  | alloc _ ih =>
    intro real s1 n T
    obtain ⟨s1', T', r, x⟩ := ih real _ n (T.with_ (fun s => { s with heap := s.heap.push _ }) (fun _ _ => rfl) fun _ => rfl)
    exact ⟨s1', T', .alloc (by rw [show s1.heap.objs.size = _ from by rw [T.heap]]; exact r), x⟩
  | fresh _ ih =>
    intro real s1 n T
    obtain ⟨s1', T', r, x⟩ := ih real _ n (T.with_ (fun s => { s with toks := s.toks + 1 }) (fun _ _ => rfl) fun _ => rfl)
    exact ⟨s1', T', .fresh (by rw [show s1.toks = _ from T.toks]; rw [show s1.toks = _ from T.toks] at r; exact r), x⟩
  | ask _ ih =>
    intro real s1 n T
    obtain ⟨s1', T', r, x⟩ := ih real s1 n T
    exact ⟨s1', T', .ask r, x⟩
  | choose z _ ih =>
    intro real s1 n T
    obtain ⟨s1', T', r, x⟩ := ih real _ n (T.with_ (fun s => { s with drawn := s.drawn.bump _ }) (fun _ _ => rfl) fun _ => rfl)
    exact ⟨s1', T', .choose z (by rw [show s1.drawn = _ from T.drawn]; rw [show s1.drawn = _ from T.drawn] at r; exact r), x⟩
  | os _ ih =>
    intro real s1 n T
    obtain ⟨s1', T', r, x⟩ := ih real _ n (T.with_ (fun s => { s with os := (Os.step s.os _).1 }) (fun _ _ => rfl) fun _ => rfl)
    exact ⟨s1', T', .os (by rw [show s1.os = _ from T.os]; rw [show s1.os = _ from T.os] at r; exact r), x⟩
  | handled _ ih =>
    intro real s1 n T
    obtain ⟨s1', T', r, x⟩ := ih real s1 n T
    exact ⟨s1', T', .handled r, x⟩
  | genState e _ ih =>
    intro real s1 n T
    obtain ⟨s1', T', r, x⟩ := ih real s1 n T
    obtain ⟨y, ey, es⟩ := (T.at_ _).seen e
    exact ⟨s1', T', .genState ey (by rw [es]; exact r), x⟩
  | stack _ ih =>
    intro real s1 n T
    obtain ⟨s1', T', r, x⟩ := ih real s1 n T
    exact ⟨s1', T', .stack r, x⟩
  | thread _ ih =>
    intro real s1 n T
    obtain ⟨s1', T', r, x⟩ := ih real s1 n T
    exact ⟨s1', T', .thread r, x⟩
  | newGen _ ih =>
    intro real s1 n T
    obtain ⟨s1', T', r, x⟩ := ih real _ n (T.push fun _ _ _ _ _ _ q => by cases q)
    exact ⟨s1', T', .newGen (by rw [← T.size]; exact r), x⟩
  | call _ _ ih1 ih2 =>
    intro real s1 n T
    obtain ⟨s2, T2, r2, _⟩ := ih1 real s1 rfl T
    obtain ⟨s1', T', r, x⟩ := ih2 real s2 n T2
    exact ⟨s1', T', .call r2 r, x⟩
  | callSusp _ ih =>
    intro real s1 n T
    obtain ⟨s1', T', r, x⟩ := ih real s1 rfl T
    exact ⟨s1', T', .callSusp r, split_app x rfl⟩
  | yield => exact fun real s1 _ T => ⟨s1, T, .yield, rfl⟩
  | resumeFresh e _ q _ ih1 ih2 =>
    intro real s1 n T
    have f := (T.at_ _).awake e fun _ _ _ _ _ _ z => by cases z
    obtain ⟨s2, T2, r2, x2⟩ := ih1 real _ rfl (T.set f fun _ _ _ _ _ _ z => by cases z)
    obtain ⟨s1', T', r, x⟩ := ih2 real _ n (T2.set f x2.gen)
    exact ⟨s1', T', .resumeFresh (by rw [← ((T.at_ _).free f).1]; exact e) r2 q r, x⟩
  | @resumeSuspended Γ p g rr l k s k₀ l₀ c₀ p₀ fs cl e₁ s₁ e s' he hr q hk ih1 ih2 =>
    intro real s1 n T
    by_cases f : FreeAt real g
    · have z := (T.at_ g).free f
      obtain ⟨s2, T2, r2, x2⟩ := ih1 real _ (z.2 _ _ _ _ _ _ he) (T.set f fun _ _ _ _ _ _ z => by cases z)
      obtain ⟨s1', T', r, x⟩ := ih2 real _ n (T2.set f x2.gen)
      exact ⟨s1', T', .resumeSuspended (by rw [← z.1]; exact he) r2 q r, x⟩
    · exfalso
      unfold FreeAt at f
      simp only [ne_eq, Classical.not_forall, Classical.not_not] at f
      obtain ⟨k1, l1, c1, p1, fs1, cl1, e1⟩ := f
      have z := T.at_ g
      unfold TiedAt at z
      rw [e1] at z
      have z1 := z.1
      rw [he] at z1
      cases z1
      exact no_unsup hr
  | resumeJustStarted e v _ ih =>
    intro real s1 n T
    have f := (T.at_ _).awake e fun _ _ _ _ _ _ z => by cases z
    obtain ⟨s1', T', r, x⟩ := ih real s1 n T
    exact ⟨s1', T', .resumeJustStarted (by rw [← ((T.at_ _).free f).1]; exact e) v r, x⟩
  | resumeThrowFresh e _ ih =>
    intro real s1 n T
    have f := (T.at_ _).awake e fun _ _ _ _ _ _ z => by cases z
    obtain ⟨s1', T', r, x⟩ := ih real _ n (T.set f fun _ _ _ _ _ _ z => by cases z)
    exact ⟨s1', T', .resumeThrowFresh (by rw [← ((T.at_ _).free f).1]; exact e) r, x⟩
  | resumeRunning e _ ih =>
    intro real s1 n T
    have f := (T.at_ _).awake e fun _ _ _ _ _ _ z => by cases z
    obtain ⟨s1', T', r, x⟩ := ih real s1 n T
    exact ⟨s1', T', .resumeRunning (by rw [← ((T.at_ _).free f).1]; exact e) r, x⟩
  | resumeFinished e _ ih =>
    intro real s1 n T
    have f := (T.at_ _).awake e fun _ _ _ _ _ _ z => by cases z
    obtain ⟨s1', T', r, x⟩ := ih real s1 n T
    exact ⟨s1', T', .resumeFinished (by rw [← ((T.at_ _).free f).1]; exact e) r, x⟩
  | segRet _ _ ih1 ih2 =>
    intro real s1 n T
    obtain ⟨s2, T2, r2, _⟩ := ih1 real s1 rfl T
    obtain ⟨s1', T', r, x⟩ := ih2 real s2 (split_tail n) T2
    exact ⟨s1', T', .segRet r2 r, x⟩
  | segGen _ _ _ _ => exact fun real s1 n T => by cases n
  | segSuspOut e _ ih =>
    intro real s1 n T
    obtain ⟨s1', T', r, x⟩ := ih real s1 rfl T
    exact ⟨s1', T', .segSuspOut e r, split_app x e⟩
  | segSuspGen e _ _ _ _ _ => exact fun real s1 n T => by rw [n] at e; cases e
theorem ghost_wakes {M : Model} {Γ : PySem.Ctx} {p : Pos} {g : Nat} {r : Resume} {res : GenResult} {s0 s0' : Shared} (h : Wakes M Γ p g r s0 res s0') {real : Array GenState} {s1 : Shared} (T : Tied real s0 s1) :
    ∃ s1', Tied real s0' s1' ∧ Wakes M Γ p g r s1 res s1' := by
  unfold Wakes at h
  split at h
  · exact h.elim
  · rename_i c e
    have f := (T.at_ g).awake e fun _ _ _ _ _ _ z => by cases z
    have e1 := ((T.at_ g).free f).1
    rw [e] at e1
    split at h
    · obtain ⟨e₁, s₁, hr, q, rfl, rfl⟩ := h
      obtain ⟨s2, T2, r2, x2⟩ := ghost_runs hr real _ rfl (T.set f fun _ _ _ _ _ _ z => by cases z)
      refine ⟨_, T2.set f x2.gen, ?_⟩
      unfold Wakes
      rw [← e1]
      exact ⟨e₁, s2, r2, q, rfl, rfl⟩
    · rename_i v nv
      obtain ⟨rfl, rfl⟩ := h
      refine ⟨s1, T, ?_⟩
      unfold Wakes
      rw [← e1]
      cases v <;> first | exact ⟨rfl, rfl⟩ | exact absurd rfl nv
    · obtain ⟨rfl, rfl⟩ := h
      refine ⟨_, T.set f (y := .finished) (fun _ _ _ _ _ _ z => by cases z), ?_⟩
      unfold Wakes
      rw [← e1]
      exact ⟨rfl, rfl⟩
  · rename_i k₀ l₀ c₀ p₀ fs cl e
    obtain ⟨e₁, s₁, hr, q, rfl, rfl⟩ := h
    by_cases f : FreeAt real g
    · have z := (T.at_ g).free f
      have e1 := z.1
      rw [e] at e1
      obtain ⟨s2, T2, r2, x2⟩ := ghost_runs hr real _ (z.2 _ _ _ _ _ _ e) (T.set f fun _ _ _ _ _ _ z => by cases z)
      refine ⟨_, T2.set f x2.gen, ?_⟩
      unfold Wakes
      rw [← e1]
      exact ⟨e₁, s2, r2, q, rfl, rfl⟩
    · exfalso
      unfold FreeAt at f
      simp only [ne_eq, Classical.not_forall, Classical.not_not] at f
      obtain ⟨k1, l1, c1, p1, fs1, cl1, e1⟩ := f
      have z := T.at_ g
      unfold TiedAt at z
      rw [e1] at z
      have z1 := z.1
      rw [e] at z1
      cases z1
      exact no_unsup hr
  · rename_i e
    obtain ⟨rfl, rfl⟩ := h
    have f := (T.at_ g).awake e fun _ _ _ _ _ _ z => by cases z
    have e1 := ((T.at_ g).free f).1
    rw [e] at e1
    refine ⟨s1, T, ?_⟩
    unfold Wakes
    rw [← e1]
    exact ⟨rfl, rfl⟩
  · rename_i e
    obtain ⟨rfl, rfl⟩ := h
    have f := (T.at_ g).awake e fun _ _ _ _ _ _ z => by cases z
    have e1 := ((T.at_ g).free f).1
    rw [e] at e1
    refine ⟨s1, T, ?_⟩
    unfold Wakes
    rw [← e1]
    exact ⟨rfl, rfl⟩
theorem ghost_wp {α : Type} {M : Model} {Γ : PySem.Ctx} {real : Array GenState} : ∀ (t : Sem α) (Q : α → Pos → Shared → Prop) (E : Value → Pos → Shared → Prop) (p : Pos) (s0 s1 : Shared), wp M Γ t Q E p s0 → Tied real s0 s1 →
    wp M Γ t (fun a p' s1' => ∃ s0', Tied real s0' s1' ∧ Q a p' s0') (fun e p' s1' => ∃ s0', Tied real s0' s1' ∧ E e p' s0') p s1 := by
  intro t
  induction t with
  | pure a => exact fun Q E p s0 s1 h T => ⟨s0, T, h⟩
  | raise e => exact fun Q E p s0 s1 h T => ⟨s0, T, h⟩
  | unsupported w => exact fun Q E p s0 s1 h T => h.elim
  | finish e => exact fun Q E p s0 s1 h T => h.elim
  | rule tag k ih => exact fun Q E p s0 s1 h T => ih () Q E p s0 s1 h T
  | «at» p' k ih => exact fun Q E p s0 s1 h T => ih () Q E p' s0 s1 h T
  | load a part k ih =>
    rintro Q E p s0 s1 ⟨o, e, h⟩ T
    exact ⟨o, by rw [T.heap]; exact e, ih o Q E p s0 s1 h T⟩
  | update a part f k ih =>
    rintro Q E p s0 s1 ⟨e, h⟩ T
    exact ⟨by rw [T.heap]; exact e, ih () Q E p _ _ h (T.with_ (fun s => { s with heap := s.heap.update a f }) (fun _ _ => rfl) fun _ => rfl)⟩
  | alloc o k ih =>
    intro Q E p s0 s1 h T
    have z := ih _ Q E p _ _ h (T.with_ (fun s => { s with heap := s.heap.push o }) (fun _ _ => rfl) fun _ => rfl)
    show wp M Γ (k s1.heap.objs.size) _ _ p _
    rw [show s1.heap.objs.size = s0.heap.objs.size from by rw [T.heap]]
    exact z
  | loadIfAlive a k ih =>
    intro Q E p s0 s1 h T
    show wp M Γ (k (s1.heap.get? a)) _ _ p _
    rw [T.heap]
    exact ih _ Q E p s0 s1 h T
  | point l k ih => exact fun Q E p s0 s1 h T => ih () Q E p s0 s1 h T
  | register a k ih => exact fun Q E p s0 s1 h T => h.elim
  | fresh k ih =>
    intro Q E p s0 s1 h T
    have z := ih _ Q E p _ _ h (T.with_ (fun s => { s with toks := s.toks + 1 }) (fun _ _ => rfl) fun _ => rfl)
    show wp M Γ (k s1.toks) _ _ p { s1 with toks := s1.toks + 1 }
    rw [show k s1.toks = k s0.toks from by rw [T.toks]]
    exact z
  | ask k ih => exact fun Q E p s0 s1 h T => ih _ Q E p s0 s1 h T
  | choose src n k ih =>
    rintro Q E p s0 s1 ⟨n0, h⟩ T
    have z := ih _ Q E p _ _ h (T.with_ (fun s => { s with drawn := s.drawn.bump src }) (fun _ _ => rfl) fun _ => rfl)
    refine ⟨n0, ?_⟩
    rw [show (s1.drawn.get src) = s0.drawn.get src from by rw [T.drawn]]
    exact z
  | os q l k ih =>
    intro Q E p s0 s1 h T
    have z := ih _ Q E p _ _ h (T.with_ (fun s => { s with os := (Os.step s.os q).1 }) (fun _ _ => rfl) fun _ => rfl)
    show wp M Γ (k (Os.step s1.os q).2) _ _ p { s1 with os := (Os.step s1.os q).1 }
    rw [show k (Os.step s1.os q).2 = k (Os.step s0.os q).2 from by rw [T.os]]
    exact z
  | call c h' g l k ih =>
    rintro Q E p s0 s1 ⟨r, s0', hr, h⟩ T
    obtain ⟨s1', T', r', _⟩ := ghost_runs hr real s1 rfl T
    exact ⟨r, s1', r', ih r Q E p s0' s1' h T'⟩
  | handled own k ih => exact fun Q E p s0 s1 h T => ih _ Q E p s0 s1 h T
  | newGen c k ih =>
    intro Q E p s0 s1 h T
    have z := ih _ Q E p _ _ h (T.push (y := .fresh c) fun _ _ _ _ _ _ q => by cases q)
    show wp M Γ (k s1.gens.size) _ _ p _
    rw [← T.size]
    exact z
  | genState g k ih =>
    rintro Q E p s0 s1 ⟨st, e, h⟩ T
    obtain ⟨y, ey, es⟩ := (T.at_ g).seen e
    exact ⟨y, ey, by rw [es]; exact ih _ Q E p s0 s1 h T⟩
  | resume g r l k ih =>
    rintro Q E p s0 s1 ⟨res, s0', hw, h⟩ T
    obtain ⟨s1', T', hw'⟩ := ghost_wakes hw T
    exact ⟨res, s1', hw', ih res Q E p s0' s1' h T'⟩
  | yield v g l k ih => exact fun Q E p s0 s1 h T => h.elim
  | stack k ih => exact fun Q E p s0 s1 h T => ih _ Q E p s0 s1 h T
  | fork c k ih => exact fun Q E p s0 s1 h T => h.elim
  | thread k ih => exact fun Q E p s0 s1 h T => ih 0 Q E p s0 s1 h T
  | await a t d l k ih => exact fun Q E p s0 s1 h T => h.elim
theorem ghost_any {α : Type} {M : Model} {A : Around} {t : Sem α} {Q : α → Shared → Prop} {E : Value → Shared → Prop} {real : Array GenState} {s0 s1 : Shared} (h : wpAny M A t Q E s0) (T : Tied real s0 s1) :
    wpAny M A t (fun a s1' => ∃ s0', Tied real s0' s1' ∧ Q a s0') (fun e s1' => ∃ s0', Tied real s0' s1' ∧ E e s0') s1 := fun Γ p hΓ => ghost_wp t _ _ p s0 s1 (h Γ p hΓ) T
/-- the ghosts beside a state's sleepers -/
def ghosted (s : Shared) : Shared := { s with gens := s.gens.map ghostG }
theorem ghosted_tied (s : Shared) : Tied s.gens (ghosted s) s := by
  refine ⟨rfl, ?_, ?_, fun i => ?_⟩
  · show (s.gens.map ghostG).size = _
    rw [Array.size_map]
  · show _ ≤ (s.gens.map ghostG).size
    rw [Array.size_map]
    exact Nat.le_refl _
  · show TiedAt s.gens i (s.gens.map ghostG) s.gens
    unfold TiedAt
    rw [Array.getElem?_map]
    split
    · rename_i e
      rw [e]
      exact ⟨rfl, rfl⟩
    · rename_i n
      cases e : s.gens[i]? with
      | none => exact ⟨rfl, fun _ _ _ _ _ _ z => by cases z⟩
      | some x =>
        cases x with
        | suspended k l c p fs cl => exact absurd e (n k l c p fs cl)
        | fresh c => exact ⟨rfl, fun _ _ _ _ _ _ z => by cases z⟩
        | running => exact ⟨rfl, fun _ _ _ _ _ _ z => by cases z⟩
        | finished => exact ⟨rfl, fun _ _ _ _ _ _ z => by cases z⟩
/-- a sleeper sleeps on -/
theorem Tied.sleeps {real : Array GenState} {s0 s1 : Shared} (T : Tied real s0 s1) {g : Nat} {k l c p fs cl} (e : real[g]? = some (.suspended k l c p fs cl)) : s1.gens[g]? = some (.suspended k l c p fs cl) := by
  have z := T.at_ g
  unfold TiedAt at z
  rw [e] at z
  exact z.2
end Ask

set_option Elab.async false
set_option linter.all false
set_option maxRecDepth 100000
set_option maxHeartbeats 2000000
namespace Ask
open PySem PySem.Spec PyProof.Rows L2 GenW
open Sem (wp)
/-! «yield from» a list, turn by turn, between which anything may happen that leaves the list's iterator and the list alone -/
/-- only the object at it may have turned; new ones may have come -/
structure KeptBut (it : Addr) (s s' : Shared) : Prop where
  same : s' = { s with heap := s'.heap, toks := s'.toks }
  kept : ∀ b o, b ≠ it → s.heap.get? b = some o → s'.heap.get? b = some o
theorem KeptBut.refl (it : Addr) (s : Shared) : KeptBut it s s := ⟨rfl, fun _ _ _ e => e⟩
theorem KeptBut.of {it : Addr} {s : Shared} {h' : Heap} {tk : Nat} (h : ∀ b o, b ≠ it → s.heap.get? b = some o → h'.get? b = some o) : KeptBut it s { s with heap := h', toks := tk } := ⟨rfl, h⟩
section
variable {prog : Program} {w : World} {A : Around} {E : Value → Shared → Prop} {s : Shared}
theorem special_list_item {it l : Addr} {i : Nat} {items : Array Value} {x : Value} {Q : Option Value → Shared → Prop} (hit : s.heap.IsListIter it l i) (hl : s.heap.IsList l items) (hx : items[i]? = some x)
    (hQ : ∀ h', h'.IsListIter it l (i + 1) → Heap.SameBut it s.heap h' → Q (some x) { s with heap := h' }) : wpAny (model prog w) A (callSpecial? (.ref it) "__next__") Q E s := by
  obtain ⟨o, ho, hc, hd⟩ := id hit
  obtain ⟨ol, hol, _, nl, hdl⟩ := hl
  refine wpAny_callSpecial?_slot (name := Str.ofString "__next__") hit.typeIs slot_listiter_next (wpAny_call_entry slot_listiter_next hit.typeIs entry_listiter_next ?_ (args_listiter_next _))
  show wpAny _ _ (field (.ref it) 0 >>= _) _ _ s
  refine wpAny_bind (wpAny_field ho hd (x := .ref l) rfl ?_)
  show wpAny _ _ (if (Value.ref l == Value.none) = true then _ else _) _ _ s
  rw [if_neg (show ¬ ((Value.ref l == Value.none) = true) from Bool.false_ne_true)]
  show wpAny _ _ (field (.ref it) 1 >>= _) _ _ s
  refine wpAny_bind (wpAny_field ho hd (x := .int i 0) rfl ?_)
  show wpAny _ _ (seqItems? (.ref l) >>= _) _ _ s
  refine wpAny_bind (wpAny_seqItems hol hdl ?_)
  simp only [Int.toNat_natCast, hx]
  refine wpAny_bind (wpAny_setField ho hd (by simp) (wpAny_pure ⟨x, rfl, hQ _ ?_ (Heap.SameBut.update ..)⟩))
  exact ⟨_, Heap.get?_update_self _ ho (Obj.isFreed_of_fields (Obj.data_mapFields hd _)), (Obj.cls_mapFields ..).trans hc, by
    rw [Obj.data_mapFields hd]; simp [rawInt]⟩
theorem special_list_end {it l : Addr} {i : Nat} {items : Array Value} {Q : Option Value → Shared → Prop} (hh : A.handled = none) (hit : s.heap.IsListIter it l i) (hl : s.heap.IsList l items) (hx : items[i]? = none)
    (hE : ∀ e h', StopX e h' → Heap.ExtBut it s.heap h' → E e { s with heap := h' }) : wpAny (model prog w) A (callSpecial? (.ref it) "__next__") Q E s := by
  obtain ⟨o, ho, hc, hd⟩ := id hit
  obtain ⟨ol, hol, _, nl, hdl⟩ := hl
  refine wpAny_callSpecial?_slot (name := Str.ofString "__next__") hit.typeIs slot_listiter_next (wpAny_call_entry slot_listiter_next hit.typeIs entry_listiter_next ?_ (args_listiter_next _))
  show wpAny _ _ (field (.ref it) 0 >>= _) _ _ s
  refine wpAny_bind (wpAny_field ho hd (x := .ref l) rfl ?_)
  show wpAny _ _ (if (Value.ref l == Value.none) = true then _ else _) _ _ s
  rw [if_neg (show ¬ ((Value.ref l == Value.none) = true) from Bool.false_ne_true)]
  show wpAny _ _ (field (.ref it) 1 >>= _) _ _ s
  refine wpAny_bind (wpAny_field ho hd (x := .int i 0) rfl ?_)
  show wpAny _ _ (seqItems? (.ref l) >>= _) _ _ s
  refine wpAny_bind (wpAny_seqItems hol hdl ?_)
  simp only [Int.toNat_natCast, hx]
  refine wpAny_bind (wpAny_rule (wpAny_bind (wpAny_setField ho hd (by simp) ?_)))
  show wpAny _ _ (newExc (.type "StopIteration") [] >>= _) _ _ _
  refine wpAny_bind ?_
  simp only [newExc, newTuple]
  refine wpAny_bind (wpAny_newObj_type ?_ (by size_fits))
  refine wpAny_bind (m := firstArgMember _ _) (wpAny_of_eq (a := Value.none) (by first | rfl | (simp only [firstArgMember]; rfl)) ?_)
  refine wpAny_newObj_type ?_ (by size_fits)
  simp only [raiseNew]
  refine wpAny_bind (wpAny_handled ?_)
  first | rw [show A.in1.handled = none from hh] | rw [hh]
  refine wpAny_bind (wpAny_pure (wpAny_throw ?_))
  refine hE _ _ ⟨_, _, _, rfl, Heap.get?_push_size _ rfl, rfl, rfl, ?_⟩ (((Heap.SameBut.update ..).extBut.push _).push _)
  first
    | rfl
    | (rw [Array.getElem?_append_left (by decide)]; rfl)
    | kernel_rfl
theorem close_list : typeLookup (.type "list_iterator") "close" = pure none := by rw [typeLookup_type, builtinLookup_eq_fast]; kernel_rfl
end
/-- where a list's iterator stands -/
structure YfSt (it l : Addr) (us : List Value) (j : Nat) (h : Heap) : Prop where
  iter : h.IsListIter it l j
  list : h.IsList l us.toArray
theorem YfSt.keeps {it l : Addr} {us : List Value} {j : Nat} {h h' : Heap} (x : YfSt it l us j h) (k : ∀ b o, b = it ∨ b = l → h.get? b = some o → h'.get? b = some o) : YfSt it l us j h' := by
  obtain ⟨⟨o, ho, r⟩, o2, ho2, r2⟩ := x
  exact ⟨⟨o, k _ o (.inl rfl) ho, r⟩, o2, k _ o2 (.inr rfl) ho2, r2⟩
/-- a sleeper that is woken with its list's iterator at j -/
def Wk (M : Model) (it l : Addr) (us : List Value) (j : Nat) (gs : GenState) (Φ : Shared → End → Shared → Prop) : Prop :=
  ∃ k lv c p fs cl, gs = .suspended k lv c p fs cl ∧ gs.bare = true ∧ ∀ (A : Around) (s : Shared), A.handled = none → YfSt it l us j s.heap → Sg M A (Φ s) c (k (.send .none)) fs s
def YfEnd (it : Addr) (s : Shared) (e : End) (s' : Shared) : Prop := (∃ f, e = .ret (.ok f) ∧ (f = .ret .none ∨ f = .next)) ∧ KeptBut it s s'
def YfOut (it l : Addr) (us : List Value) (j : Nat) (N : GenState → Prop) (s : Shared) (e : End) (s' : Shared) : Prop :=
  ∃ v, (∃ gd lv k c p fs, e = .susp v gd lv k c p fs) ∧ e.quiet = true ∧ us[j]? = some v ∧ YfSt it l us (j + 1) s'.heap ∧ KeptBut it s s' ∧ N e.genState
/-- a turn with r items to come, the next one at j -/
def Turns (M : Model) (it l : Addr) (us : List Value) : Nat → Nat → Shared → End → Shared → Prop
  | 0, _ => YfEnd it
  | r + 1, j => YfOut it l us j fun gs => Wk M it l us (j + 1) gs (Turns M it l us r (j + 1))
abbrev yfCode (it : Addr) : Code := .builtin "proto.yield_from" ⟨[.ref it, .bool false, .none], []⟩
section
variable {prog : Program} {w : World}
theorem entry_yf' : entryFor table "proto.yield_from" = some Builtin.«proto.yield_from» := entry_yf
theorem den_yf' {it : Value} : (model prog w).den (.builtin "proto.yield_from" ⟨[it, .bool false, .none], []⟩) = Builtin.«proto.yield_from» ⟨[it, .bool false, .none], []⟩ := by
  show (match entryFor table "proto.yield_from" with | some b => b ⟨[it, .bool false, .none], []⟩ | none => unsupported ((withoutEnding? "proto.yield_from" "#data").getD "proto.yield_from")) = _
  rw [entry_yf]
theorem sg_yf {it l : Addr} {us : List Value} {fs : List Frame} (hil : it ≠ l) (hsp : splitAtGen fs = none) (hgd : fs.any Frame.guarded = false) (ho : ∀ A : Around, A.handled = none → (A.over (yfCode it) fs).handled = none)
    (hend : ∀ (A : Around) (s0 s : Shared), A.handled = none → KeptBut it s0 s → Sg (model prog w) A (YfEnd it s0) (yfCode it) (.pure (.done (.ret .none))) fs s) :
    ∀ (r j : Nat) (A : Around) (s : Shared), j + r = us.length → A.handled = none → YfSt it l us j s.heap → Sg (model prog w) A (Turns (model prog w) it l us r j s) (yfCode it) ((model prog w).den (yfCode it)) fs s := by
  intro r
  induction r with
  | zero =>
    intro j A s hj hA hst
    rw [den_yf']
    unfold Builtin.«proto.yield_from»
    try dsimp only
    refine sg_bind (wpAny_pure ?_)
    try dsimp only
    refine sg_bind (wpAny_attempt (wpAny_holding ?_))
    rw [if_neg Bool.false_ne_true, if_pos (show (Value.none == Value.none) = true from rfl)]
    refine wpAny_bind (wpAny_rule (wpAny_bind ?_))
    refine special_list_end (ho A hA) hst.iter hst.list (by simp; omega) fun e h' hS hk => ?_
    obtain ⟨a, o, vs, rfl, hoa, hcls, hdat, h5⟩ := hS
    try dsimp only
    refine sg_bind (wpAny_endsTurn hoa hcls ?_)
    try dsimp only
    rw [if_pos rfl]
    first
      | refine sg_bind (wpAny_rule ?_)
      | (rw [if_neg Bool.false_ne_true]; refine sg_bind (wpAny_rule ?_))
      | (rw [if_neg Bool.false_ne_true]; refine sg_bind (wpAny_pure ?_); refine sg_bind (wpAny_rule ?_))
    refine sg_bind (wpAny_field hoa hdat h5 ?_)
    exact hend A s _ hA (KeptBut.of fun b ob hb eb => hk b ob hb eb)
  | succ r ih =>
    intro j A s hj hA hst
    have hjl : j < us.length := by omega
    obtain ⟨x, hx⟩ : ∃ x, us[j]? = some x := ⟨us[j], List.getElem?_eq_getElem hjl⟩
    rw [den_yf']
    unfold Builtin.«proto.yield_from»
    try dsimp only
    refine sg_bind (wpAny_pure ?_)
    try dsimp only
    refine sg_bind (wpAny_attempt (wpAny_holding ?_))
    rw [if_neg Bool.false_ne_true, if_pos (show (Value.none == Value.none) = true from rfl)]
    refine wpAny_bind (wpAny_rule (wpAny_bind ?_))
    refine special_list_item hst.iter hst.list (x := x) (by simpa using hx) fun h' hit' hs => ?_
    have hst' : YfSt it l us (j + 1) h' := ⟨hit', hst.list.extBut hs.extBut hil.symm⟩
    obtain ⟨oi, hoi, hoc, _⟩ := id hit'
    refine wpAny_pure ?_
    try dsimp only
    refine sg_bind (wpAny_typeOf (T := "list_iterator") ⟨oi, hoi, hoc⟩ ?_)
    try dsimp only
    first
      | (refine sg_bind (wpAny_of_eq close_list ?_); refine sg_bind (wpAny_pure ?_))
      | refine sg_bind (wpAny_bind (wpAny_of_eq close_list (wpAny_pure ?_)))
      | refine sg_bind (wpAny_of_eq close_list ?_)
    try dsimp only
    refine sg_bind (wpAny_sleptOver hoi hoc (by decide) ?_)
    have kb : KeptBut it s { s with heap := h' } := ⟨rfl, fun b ob hb eb => hs.extBut b ob hb eb⟩
    refine sg_yield hsp fun p => ?_
    have hq : (End.susp x false ([] : List Value) (fun _ => .unsupported "") (yfCode it) p fs).quiet = true := by
      show (!(false || fs.any Frame.guarded)) = true
      rw [hgd]; rfl
    refine ⟨x, ⟨_, _, _, _, _, _, rfl⟩, hq, hx, hst', kb, _, _, _, _, _, _, rfl, ?_, fun A' s2 hA' hst2 => ?_⟩
    · show (!(false || fs.any Frame.guarded)) = true
      rw [hgd]; rfl
    · obtain ⟨oj, hoj, hojc, _⟩ := id hst2.iter
      show Sg _ _ _ _ (Builtin.Generator.sleptOver (.ref it) false >>= fun _ => _) fs s2
      refine sg_bind (wpAny_sleptOver hoj hojc (by decide) ?_)
      try dsimp only
      refine sg_bind (wpAny_pure ?_)
      exact sg_again (plainId_quiet plain_yf _) (ih (j + 1) A' s2 (by omega) hA' hst2)
end
end Ask

set_option Elab.async false
set_option linter.all false
set_option maxRecDepth 100000
set_option maxHeartbeats 2000000
namespace Ask
open PySem PySem.Spec PyProof.Rows L2 GenW
open Sem (wp)
/-- a generator's code up to the first item that it hands out: Y is wanted of that item -/
abbrev TY := (V → Hp → Prop) → TS
structure GCf (X : Cx) (A : Around) (c : Code) (fs : List Frame) (gd : Bool → Bool) : Prop where
  over : A.over c fs = X.A
  split : splitAtGen fs = none
  guard : fs.any Frame.guarded = false
  gd : gd false = false
def OutF (X : Cx) (pins : List (Addr × Obj)) (Y : V → Hp → Prop) (v : Value) (s : Shared) : Prop := ∃ x σ H, Inv X pins σ H s ∧ RelV x v ∧ Y x H
structure GKf (X : Cx) (pins : List (Addr × Obj)) (A : Around) (Φ : End → Shared → Prop) (c : Code) (fs : List Frame) (K : Flow → Sem PySem.Fin) (J : Value → Sem PySem.Fin) (Y : V → Hp → Prop) (D : Ends) : Prop where
  ok : ∀ f s', SP X pins D f s' → Sg (model X.prog X.w) A Φ c (K f) fs s'
  exc : ∀ e s', X.xe e s' → Sg (model X.prog X.w) A Φ c (J e) fs s'
  out : ∀ v l k c' p' fs' s', (End.susp v false l k c' p' fs').quiet = true → OutF X pins Y v s' → Φ (.susp v false l k c' p' fs') s'
structure GF (X : Cx) (st : Stmt) (t : TY) : Prop where
  run : ∀ (A : Around) (c : Code) (fs : List Frame) (K : Flow → Sem PySem.Fin) (J : Value → Sem PySem.Fin) (gd : Bool → Bool) (lv : List Value → List Value) (Φ : End → Shared → Prop) (pins : List (Addr × Obj)) (s : Shared) (σ : L2.St) (H : Hp) (Y : V → Hp → Prop) (D : Ends),
    GCf X A c fs gd → GKf X pins A Φ c fs K J Y D → Inv X pins σ H s → t Y D σ H → Sg (model X.prog X.w) A Φ c ((exec st X.env).wrap K J gd lv) fs s
structure GFs (X : Cx) (st : List Stmt) (t : TY) : Prop where
  run : ∀ (A : Around) (c : Code) (fs : List Frame) (K : Flow → Sem PySem.Fin) (J : Value → Sem PySem.Fin) (gd : Bool → Bool) (lv : List Value → List Value) (Φ : End → Shared → Prop) (pins : List (Addr × Obj)) (s : Shared) (σ : L2.St) (H : Hp) (Y : V → Hp → Prop) (D : Ends),
    GCf X A c fs gd → GKf X pins A Φ c fs K J Y D → Inv X pins σ H s → t Y D σ H → Sg (model X.prog X.w) A Φ c ((execs st X.env).wrap K J gd lv) fs s
section
variable {X : Cx} {st : Stmt} {rest : List Stmt}
def fPlain (t : TS) : TY := fun _ D σ H => t D σ H
theorem gf_ps {t : TS} (h : PS X st t) : GF X st (fPlain t) := by
  refine ⟨fun A c fs K J gd lv Φ pins s σ H Y D g k I ht => ?_⟩
  refine sg_wrap ?_
  rw [g.over]
  exact wpAny_mono (h.run _ s σ H D I ht) (fun f s' hs => k.ok f s' hs) fun x s' hx => k.exc x s' hx
theorem gfs_pss {t : TS} (h : PSs X rest t) : GFs X rest (fPlain t) := by
  refine ⟨fun A c fs K J gd lv Φ pins s σ H Y D g k I ht => ?_⟩
  refine sg_wrap ?_
  rw [g.over]
  exact wpAny_mono (h.run _ s σ H D I ht) (fun f s' hs => k.ok f s' hs) fun x s' hx => k.exc x s' hx
def fThen (t u : TY) : TY := fun Y D σ H => t Y { D with nx := fun σ' H' => u Y D σ' H' } σ H
theorem gfs_cons {t u : TY} (a : GF X st t) (b : GFs X rest u) : GFs X (st :: rest) (fThen t u) := by
  refine ⟨fun A c fs K J gd lv Φ pins s σ H Y D g k I ht => ?_⟩
  refine sg_execs_cons ?_
  refine a.run A c fs _ J gd lv Φ pins s σ H Y { D with nx := fun σ' H' => u Y D σ' H' } g ⟨fun f s' hs => ?_, k.exc, k.out⟩ I ht
  cases f with
  | next =>
    obtain ⟨σ', H', I', q⟩ := hs
    exact b.run A c fs K J gd lv Φ pins s' σ' H' Y D g k I' q
  | brk => exact k.ok .brk s' hs
  | cont => exact k.ok .cont s' hs
  | ret u => exact k.ok (.ret u) s' hs
def fNil : TY := fun _ D σ H => D.nx σ H
theorem gfs_nil : GFs X [] fNil := by
  refine ⟨fun A c fs K J gd lv Φ pins s σ H Y D g k I ht => ?_⟩
  exact sg_execs_nil (k.ok .next s ⟨σ, H, I, ht⟩)
/-- yield e -/
def fYield (te : TE) : TY := fun Y _ σ H => te σ H Y
theorem gf_yield {e : Expr} {yp pos : Pos} {te : TE} (he : PE X e te) (hco : X.env.scope.isCoroutine = false := by rfl) (hi : interactive X.env = false := by rfl) : GF X (.Expr (.Yield (some e) yp) pos) (fYield te) := by
  refine ⟨fun A c fs K J gd lv Φ pins s σ H Y D g k I ht => ?_⟩
  refine sg_Expr_Yield g.split g.gd ?_ hco hi
  rw [g.over]
  refine wpAny_mono (he.run _ s σ H _ I ht) (fun v s' hv => ?_) fun x s' hx => k.exc x s' hx
  obtain ⟨x, H1, I1, rv, q⟩ := hv
  intro p l k'
  refine k.out v l k' c p fs s' ?_ ⟨x, σ, H1, I1, rv, q⟩
  show (!(false || fs.any Frame.guarded)) = true
  rw [g.guard]; rfl
/-- if c: a else: b -/
def fIf (tc : TT) (t u : TY) : TY := fun Y D σ H => tc σ H fun b H1 => if b = true then t Y D σ H1 else u Y D σ H1
theorem gf_if {c : Expr} {a b : List Stmt} {pos : Pos} {tc : TT} {t u : TY} (hc : PT X c tc) (ha : GFs X a t) (hb : GFs X b u) : GF X (.If c a b pos) (fIf tc t u) := by
  refine ⟨fun A c' fs K J gd lv Φ pins s σ H Y D g k I ht => ?_⟩
  rw [exec_If]
  refine sg_bw (wpAny_standAt ?_)
  refine sg_bw ?_
  rw [g.over]
  refine wpAny_mono (hc.run _ s σ H _ I ht) (fun d s' hd => ?_) fun x s' hx => k.exc x s' hx
  obtain ⟨H1, I1, q1⟩ := hd
  cases d with
  | true =>
    rw [if_pos rfl] at q1 ⊢
    exact ha.run A c' fs K J gd lv Φ pins s' σ H1 Y D g k I1 q1
  | false =>
    rw [if_neg Bool.false_ne_true] at q1 ⊢
    exact hb.run A c' fs K J gd lv Φ pins s' σ H1 Y D g k I1 q1
/-- for tg in iter: body -/
def fFor (wi : TI) (g : TG) (tb : TY) : TY := fun Y D σ H => wi σ H fun J H1 => ∃ W : Nat → Nat → L2.St → Hp → Prop, (∃ m, W 0 m σ H1) ∧ ∀ i m σ H, W i m σ H →
  (J.stop i H ∧ D.nx σ H) ∨ (J.go i H ∧ ∃ N : L2.St → Hp → Prop, (∀ σ' H', N σ' H' → ∃ m', m' < m ∧ W (i + 1) m' σ' H') ∧ ∀ x H', J.yld i H x H' → g x σ H' fun σ2 H2 => tb Y { D with nx := N, ct := N, bk := D.nx } σ2 H2)
theorem gcf_loop {A : Around} {c c' : Code} {fs : List Frame} {gd : Bool → Bool} {k : Result → Sem PySem.Fin} {l kp : List Value} {p : Pos} (g : GCf X A c fs gd) (hw : c'.weight = 0) (hu : c'.cUnits = 0) :
    GCf X A c' (.ret k none (gd false) l c p kp :: fs) id where
  over := (over_loop hw hu).trans g.over
  split := by
    show (splitAtGen fs).map _ = none
    rw [g.split]; rfl
  guard := by
    show (gd false || fs.any Frame.guarded) = false
    rw [g.gd, g.guard]; rfl
  gd := rfl
theorem gf_for {iter : Expr} {tg : Expr} {body : List Stmt} {wi : TI} {g : TG} {tb : TY} {pos : Pos} (hp : PassesOwn (model X.prog X.w) X.A X.env X.xe) (hc : X.calm = true) (hi : PI X tg iter wi) (hg : PG X tg g) (hb : GFs X body tb)
    (hs : ∀ x, foldedSetIterable iter X.env x = pure x := by intro _; rfl) : GF X (.For tg iter body [] pos) (fFor wi g tb) := by
  refine ⟨fun A c fs K J gd lv Φ pins s σ H Y D gc k I h => ?_⟩
  refine sg_For hs ?_
  rw [gc.over]
  refine wpAny_mono (hi.run pins s σ H _ I h) (fun v s1 h1 => wpAny_mono h1 (fun itv s2 h2 p => ?_) fun x s' hx => k.exc x s' hx) fun x s' hx => k.exc x s' hx
  obtain ⟨it, fp, tn, Jt, H2, e, I2, T, st2, f2, W, ⟨m0, w0⟩, turn⟩ := h2
  subst e
  have gl := gcf_loop (k := fun r => ((match r with | .ok f => (.pure f : Sem Flow) | .error e => .raise e).onRaise (cameBack X.env)).wrap K J gd lv) (c' := .forLoop tg (.ref it) body [] X.env) (l := lv []) (kp := []) (p := p) gc rfl rfl
  have stat : ∀ {H' : Hp}, (∀ b ∈ fp, H' b = none) → ∀ b ∈ fp, FpOk X pins H' b := fun hn b hb => ⟨hn b hb, (f2 b hb).2⟩
  -- an exception leaves the loop's code
  have ee : ∀ (x : Value) (s' : Shared), X.xe x s' → Sg (model X.prog X.w) A Φ (.forLoop tg (.ref it) body [] X.env) (noted X.env x)
      (.ret (fun r => ((match r with | .ok f => (.pure f : Sem Flow) | .error e => .raise e).onRaise (cameBack X.env)).wrap K J gd lv) none (gd false) (lv []) c p [] :: fs) s' := fun x s' hx => by
    have hz : ∀ y s3, cameBackBy (model X.prog X.w) X.A X.env X.xe y s3 → Sg (model X.prog X.w) A Φ c (((Sem.raise y : Sem Flow).onRaise (cameBack X.env)).wrap K J gd lv) fs s3 := fun y s3 hy => by
      show Sg _ _ _ _ (((cameBack X.env y).bind fun _ => (Sem.raise y : Sem Flow)).wrap K J gd lv) _ _
      rw [Sem.bind_eq_wrap, Sem.wrap_wrap]
      refine sg_wrap ?_
      rw [gc.over]
      exact wpAny_mono hy (fun _ s' hx => k.exc y s' hx) fun x s' hx => k.exc x s' hx
    refine sg_wrap ?_
    rw [gl.over]
    refine wpAny_bind (wpAny_mono (hp x s' hx) (fun _ s'' hcb => wpAny_theTreesLotGoes ?_) fun y s'' hcb => ?_)
    · exact sg_leaf (.error x) (hz x s'' hcb)
    · exact sg_leaf (.error y) (hz y s'' hcb)
  have loop : ∀ (m i : Nat) (s : Shared) (σ : L2.St) (H : Hp), Inv X pins σ H s → tn i s.heap → (∀ b ∈ fp, H b = none) → W i m σ H →
      Sg (model X.prog X.w) A Φ (.forLoop tg (.ref it) body [] X.env) ((model X.prog X.w).den (.forLoop tg (.ref it) body [] X.env))
        (.ret (fun r => ((match r with | .ok f => (.pure f : Sem Flow) | .error e => .raise e).onRaise (cameBack X.env)).wrap K J gd lv) none (gd false) (lv []) c p [] :: fs) s := by
    intro m
    induction m using Nat.strongRecOn with
    | ind m ih =>
      intro i s3 σ3 H3 I3 st3 fr3 w3
      refine sg_forLoop ?_
      rw [gl.over]
      rcases turn i m σ3 H3 w3 with ⟨stop, qn⟩ | ⟨go, N, hN, step⟩
      · refine wpAny_mono (T.done X rfl rfl rfl hc i pins s3 σ3 H3 X.xe I3 (stat fr3) st3 stop) (fun r s4 ⟨hr, I4⟩ => ?_) fun x s' hx => ee x s' hx
        subst hr
        exact sg_block_nil (k.ok .next s4 ⟨σ3, H3, I4, qn⟩)
      · refine wpAny_mono (T.item X rfl rfl rfl hc i pins s3 σ3 H3 X.xe I3 (stat fr3) st3 go) (fun r s4 ⟨u, hr, h4⟩ => ?_) fun x s' hx => ee x s' hx
        subst hr
        refine wpAny_mono h4 (fun _ s5 ⟨x, H5, I5, r5, y5, st5, fr5⟩ => ?_) fun x s' hx => ee x s' hx
        have I5' := I5.pinned (stat fr5) (T.obj _ _ st5)
        refine wpAny_mono (hg.run _ s5 σ3 H5 x u _ I5' r5 (step x H5 y5)) (fun _ s6 ⟨σ6, H6, I6, q6⟩ => ?_) fun x s' hx => ee x s' hx
        have again : ∀ {σ7 : L2.St} {H7 : Hp} {s7 : Shared}, Inv X (pins ++ pinsAt fp s5.heap) σ7 H7 s7 → N σ7 H7 → Sg (model X.prog X.w) A Φ (.forLoop tg (.ref it) body [] X.env) (.pure (.again (.forLoop tg (.ref it) body [] X.env)))
            (.ret (fun r => ((match r with | .ok f => (.pure f : Sem Flow) | .error e => .raise e).onRaise (cameBack X.env)).wrap K J gd lv) none (gd false) (lv []) c p [] :: fs) s7 := fun {σ7 H7 s7} I7 n7 => by
          obtain ⟨m', hm, w7⟩ := hN σ7 H7 n7
          refine sg_again rfl (ih m' hm (i + 1) s7 σ7 H7 I7.unpinned (T.keep _ _ _ st5 fun b hb o e => (I7.pin (b, o) (List.mem_append_right _ (List.mem_append_right _ (mem_pinsAt hb e)))).1) (fun b hb => ?_) w7)
          obtain ⟨o, e, d⟩ := T.obj _ _ st5 b hb
          exact (I7.pin (b, o) (List.mem_append_right _ (List.mem_append_right _ (mem_pinsAt hb e)))).2.1
        refine hb.run A (.forLoop tg (.ref it) body [] X.env) _ _ _ id id Φ (pins ++ pinsAt fp s5.heap) s6 σ6 H6 Y { D with nx := N, ct := N, bk := D.nx } gl ⟨fun f s7 q7 => ?_, fun e s' hx => ee e s' hx, fun v l k' c' p' fs' s' hq ho => ?_⟩ I6 q6
        · cases f with
          | next => obtain ⟨σ7, H7, I7, n7⟩ := q7; exact again I7 n7
          | cont => obtain ⟨σ7, H7, I7, n7⟩ := q7; exact again I7 n7
          | brk => obtain ⟨σ7, H7, I7, q7⟩ := q7; exact sg_leaf (.ok .next) (k.ok .next s7 ⟨σ7, H7, I7.unpinned, q7⟩)
          | ret v => obtain ⟨x7, σ7, H7, I7, r7, q7⟩ := q7; exact sg_leaf (.ok (.ret v)) (k.ok (.ret v) s7 ⟨x7, σ7, H7, I7.unpinned, r7, q7⟩)
        · obtain ⟨x, σ7, H7, I7, rv, hy⟩ := ho
          exact k.out v l k' c' p' fs' s' hq ⟨x, σ7, H7, I7.unpinned, rv, hy⟩
  exact loop m0 0 s2 σ H2 I2 st2 (fun b hb => (f2 b hb).1) w0
end
end Ask

set_option Elab.async false
set_option linter.all false
set_option maxRecDepth 100000
set_option maxHeartbeats 2000000
namespace Ask
open PySem PySem.Spec PyProof.Rows L2 GenW
open Sem (wp)
/-- behind a generator's first turn: it has ended without an item, an exception has left it, or it sleeps behind its first item -/
def EndF (P : Program) (w : World) (outer : List Env) (H : Hp) (s : Shared) (a : Addr) (g : Nat) (Y : V → Hp → Prop) (Z : Hp → Prop) (E : XK) : End → Shared → Prop
  | .ret (.ok f), s1 => (f = .ret .none ∨ f = .next) ∧ ∃ H', s1.os = s.os ∧ AllBare s1.gens ∧ Un (frs outer) [] H H' s.heap s1.heap ∧ HOk P w H' s1.heap ∧ Z H'
  | .ret (.error e), s1 => CX P w outer H s E e s1 ∧ s1.heap.IsGen a g
  | .susp v gd l k c p fs, s1 => (End.susp v gd l k c p fs).quiet = true ∧ s1.heap.IsGen a g ∧ ∃ x H', s1.os = s.os ∧ AllBare s1.gens ∧ Un (frs outer) [] H H' s.heap s1.heap ∧ HOk P w H' s1.heap ∧ RelV x v ∧ Y x H'
/-- a generator that has not begun -/
def MadeF (P : Program) (w : World) (k : Nat) (outer : List Env) (H : Hp) (s : Shared) (Y : V → Hp → Prop) (Z : Hp → Prop) (E : XK) (u : Value) (s' : Shared) : Prop :=
  ∃ (a : Addr) (g : Nat) (c : Code), u = .ref a ∧ s.heap.objs.size ≤ a ∧ s'.heap.IsGen a g ∧ s'.gens[g]? = some (.fresh c) ∧ s'.os = s.os ∧ AllBare s'.gens ∧ s'.heap.NoLimit ∧ (∀ b o, s.heap.get? b = some o → s'.heap.get? b = some o) ∧
    ∀ (A : Around) (s2 : Shared), Room k A → A.frames = some outer → (∀ b o, s'.heap.get? b = some o → s2.heap.get? b = some o) → s2.os = s.os → AllBare s2.gens →
      Sg (model P w) A (EndF P w outer H s a g Y Z E) c ((model P w).den c) [] s2
/-- a generator def's promise: its first item, or its end without one, or an exception -/
abbrev SpF := List V → Hp → (V → Hp → Prop) → (Hp → Prop) → XK → Prop
structure FFn (P : Program) (w : World) (K : PySem.W.Frag) (mg : Str → Option Value) (base : Heap) (k : Nat) (f : Addr) (fd : FuncData) (ps : List Str) (sp : SpF) : Prop where
  len : ∀ vs H Y Z E, sp vs H Y Z E → vs.length = ps.length
  run : ∀ (A : Around) (outer : List Env) (s : Shared) (H : Hp) (args : Args) (us : List Value) (vs : List V) (Y : V → Hp → Prop) (Z : Hp → Prop) (E : XK), Room k A → Env0 P w K mg base A outer s H → BindsTo s fd args (ps.zip us) → Vals vs us → sp vs H Y Z E →
    codeAny (model P w) A (.call (.ref f) args) (fun r s' => match r with | .ok (.ret u) => MadeF P w k outer H s Y Z E u s' | _ => False) s
/-- a generator def, by its body -/
theorem ffn_of {P : Program} {w : World} {K : PySem.W.Frag} {mg : Str → Option Value} {base : Heap} {k : Nat} {f : Addr} {name qual : Str} {params : Arguments} {body : List Stmt} {scope : Scope} {dV kV doc pm cdv ct oc : Value} {an od : Option Addr}
    {osl : Array (Option Value)} {N ps : List Str} {sp : SpF} (lk : K.lookup f = some ⟨oc, od, .func (PySem.W.fnOf name qual params body scope dV kV doc pm an cdv ct), osl⟩) (hcd : PySem.W.codeIn K cdv qual = true) (S : GScope N ps scope)
    (len : ∀ vs H Y Z E, sp vs H Y Z E → vs.length = ps.length)
    (hbody : ∀ (A : Around) (outer : List Env) (s : Shared) (H : Hp) (vs : List V) (Y : V → Hp → Prop) (Z : Hp → Prop) (E : XK) (pn : List (Addr × Obj)), Room k (A.deeper (envOfC qual scope s.heap.objs.size f cdv)) → sp vs H Y Z E →
      ∃ t, GFs (gcxOf P w K mg base N qual scope f cdv A outer s H E pn) body t ∧ t Y { nx := fun _ H' => Z H', rt := fun v H' => v = .non ∧ Z H' } (start N vs) H) :
    FFn P w K mg base (k + 1) f (PySem.W.fnOf name qual params body scope dV kV doc pm an cdv ct) ps sp := by
  refine ⟨len, fun A outer s H args us vs Y Z E hr e0 hb r hsp => ?_⟩
  have hl := len _ _ _ _ _ hsp
  have KX : K.In s.heap := e0.mod.kin.keeps fun b o e => (e0.bs b o e).1
  have lim : s.heap.NoLimit := e0.mod.nolimit.keeps fun b o e => (e0.bs b o e).1
  have hkind : ∀ y ∈ ps.zip us, scope.names.lookup y.1 = some .local ∨ (scope.names.lookup y.1 = some .cell ∧ ((cellsFrom (s.heap.objs.size + 1) scope.names []).lookup y.1).isSome = true) := fun ⟨n, v⟩ hy => by
    rcases S.par n (List.of_mem_zip hy).1 with q | q
    · exact .inl q
    · exact .inr ⟨q, PySem.W.cellsFrom_some _ _ _ (.inl q)⟩
  refine codeAny_call_generator hr.depth (KX _ _ lk) rfl S.co S.gen rfl (PySem.W.codeRec_of KX hcd) (hb _ _ _ _ ?_)
  refine wpAny_newFunctionEnv_cells S.kind hkind fun env he s1 x => ?_
  subst he
  have lim1 : s1.heap.NoLimit := lim.keeps x.toInCall.keep
  refine ⟨lim1, ?_⟩
  obtain ⟨h1, tk, es1, hk1⟩ := x.done
  have os1 : s1.os = s.os := by rw [es1]
  have gen1 : s1.gens = s.gens := by rw [es1]
  have lt1 : s.heap.objs.size < s1.heap.objs.size := x.toInCall.ns.lt
  have sz1 : s.heap.objs.size ≤ s1.heap.objs.size := Nat.le_of_lt lt1
  have kp1 : ∀ b o, s.heap.get? b = some o → s1.heap.get? b = some o := x.toInCall.keep
  have main : ∀ (go : Obj) (nm qn : Value) (tk2 : Nat), go.cls = .type "generator" → go.data = .fields #[.int s1.gens.size 0, nm, qn] → go.slots = #[] → (∀ h : Heap, (h.push go).get? h.objs.size = some go) →
      MadeF P w (k + 1) outer H s Y Z E (.ref s1.heap.objs.size) { s1 with gens := s1.gens.push (.fresh (.func body (envOfC qual scope s.heap.objs.size f cdv))), toks := tk2, heap := s1.heap.push go } := by
    intro go nm qn tk2 hgc hgd0 hgs hgp
    have hgen : ∀ h : Heap, h.get? s1.heap.objs.size = some go → h.IsGen s1.heap.objs.size s1.gens.size := fun h e => ⟨go, nm, qn, e, hgc, hgd0, hgs⟩
    have hpushed : (s1.heap.push go).get? s1.heap.objs.size = some go := hgp _
    refine ⟨s1.heap.objs.size, s1.gens.size, _, rfl, sz1, hgen _ hpushed, Array.getElem?_push_size .., os1, ?_, lim1.keeps fun b o e => Heap.get?_push_of_some _ e, fun b o e => Heap.get?_push_of_some _ (kp1 b o e), ?_⟩
    · exact AllBare.push (by rw [gen1]; exact e0.bare) rfl
    intro Aw s2 hrw hfr hk2 hos hba
    have e0w : Env0 P w K mg base Aw outer s H := ⟨hfr, e0.mod, e0.bs, e0.bsz, e0.funs, e0.frf, e0.hok, e0.bare⟩
    obtain ⟨t, ht, hq⟩ := hbody Aw outer s H vs Y Z E [(s1.heap.objs.size, go)] (hrw.deeper _) hsp
    have I1 : Inv (gcxOf P w K mg base N qual scope f cdv Aw outer s H E []) [] (start N vs) H s1 := inv_startG S hrw.hd e0w hl r x
    have kp2 : ∀ b o, s1.heap.get? b = some o → s2.heap.get? b = some o := fun b o e => hk2 b o (Heap.get?_push_of_some _ e)
    have I2 : Inv (gcxOf P w K mg base N qual scope f cdv Aw outer s H E []) [] (start N vs) H s2 :=
      I1.call' (ch := []) (hos.trans os1.symm) (Un.kept kp2) (I1.hok.kept kp2) hba fun b z => by simp at z
    have hea : s2.heap.get? s1.heap.objs.size = some go := hk2 s1.heap.objs.size go hpushed
    have hgd : ∀ v, go.data ≠ .cell v := fun v q => by rw [hgd0] at q; cases q
    have I3 : Inv (gcxOf P w K mg base N qual scope f cdv Aw outer s H E [(s1.heap.objs.size, go)]) [] (start N vs) H s2 := by
      refine Inv.pinnedG I2 fun p hp => ?_
      rw [List.append_nil] at hp
      rw [List.mem_singleton.mp hp]
      exact ⟨hea, I1.hok.fresh (Nat.le_refl _), Nat.ne_of_gt lt1, I1.nofs (Nat.le_refl _), hgd⟩
    have pinned : ∀ {s' : Shared} {σ' : L2.St} {H' : Hp}, Inv (gcxOf P w K mg base N qual scope f cdv Aw outer s H E [(s1.heap.objs.size, go)]) [] σ' H' s' → s'.heap.IsGen s1.heap.objs.size s1.gens.size := fun {s' σ' H'} J =>
      hgen _ (J.pin (s1.heap.objs.size, go) (List.mem_append_left _ (List.mem_singleton.mpr rfl))).1
    refine sg_func ?_
    refine ht.run Aw _ [] _ _ id id _ [] s2 (start N vs) H Y _ ⟨over_func, rfl, rfl, rfl⟩ ⟨fun fl s' hs => ?_, fun e s' hx => ?_, fun v l k' c' p' fs' s' hquiet ho => ?_⟩ I3 hq
    · cases fl with
      | next =>
        obtain ⟨σ', H', I', hZ⟩ := hs
        exact sg_end (.ok (.ret .none)) ⟨.inl rfl, H', I'.os, I'.bare, I'.base, I'.hok, hZ⟩
      | brk => obtain ⟨_, _, _, q⟩ := hs; exact False.elim q
      | cont => obtain ⟨_, _, _, q⟩ := hs; exact False.elim q
      | ret u =>
        obtain ⟨v, σ', H', I', rv, ev, hZ⟩ := hs
        subst ev
        obtain rfl : u = Value.none := rv
        exact sg_end (.ok (.ret .none)) ⟨.inl rfl, H', I'.os, I'.bare, I'.base, I'.hok, hZ⟩
    · refine sg_wrap ?_
      rw [over_func]
      refine wpAny_mono (show wpAny (model P w) (Aw.deeper (envOfC qual scope s.heap.objs.size f cdv)) (leaving (envOfC qual scope s.heap.objs.size f cdv) e) (fun _ s'' => CX P w outer H s E e s'' ∧ ∀ p ∈ [(s1.heap.objs.size, go)], s''.heap.get? p.1 = some p.2) (fun _ _ => False) s' from hx) (fun _ s'' q => ?_) fun _ s'' q => q.elim
      exact sg_end (.error e) ⟨q.1, hgen _ (q.2 (s1.heap.objs.size, go) (List.mem_singleton.mpr rfl))⟩
    · obtain ⟨y, σ', H', I', rv, hY⟩ := ho
      exact ⟨hquiet, pinned I', y, H', I'.os, I'.bare, I'.base, I'.hok, rv, hY⟩
  exact main _ _ _ _ rfl rfl rfl fun h => Heap.get?_push_size _ rfl

/-- the next item of a sleeper -/
def GoesS (M : Model) (A : Around) (Φ : End → Shared → Prop) (gs : GenState) (s : Shared) : Prop := match gs with
  | .fresh c => Sg M A Φ c (M.den c) [] s
  | .suspended k _ c _ fs _ => Sg M A Φ c (k (.send .none)) fs s
  | _ => False
theorem wpAny_resumeS {M : Model} {A : Around} {Φ : End → Shared → Prop} {E : Value → Shared → Prop} {s : Shared} {g : Nat} {gs : GenState} {l : List Value} {α : Type} {k : GenResult → Sem α} {Q : α → Shared → Prop} (hg : s.gens[g]? = some gs)
    (hgo : GoesS M A Φ gs (s.setGen g .running)) (hq : ∀ e s₁, Φ e s₁ → e.quiet = true ∧ wpAny M A (k e.result) Q E (s₁.setGen g e.genState)) : wpAny M A (.resume g (.send .none) l k) Q E s := by
  intro Γ p hΓ
  rw [Sem.wp_resume]
  have hB : ∀ c, (Γ.wake c p).Woken A := fun c => hΓ.wake c p
  cases gs with
  | fresh c =>
    obtain ⟨e₁, s₁, hr, he⟩ := hgo (Γ.wake c p) p rfl (hB c)
    exact ⟨_, _, by unfold Wakes; rw [hg]; exact ⟨e₁, s₁, hr, (hq e₁ s₁ he).1, rfl, rfl⟩, (hq e₁ s₁ he).2 Γ p hΓ⟩
  | suspended k₀ l₀ c₀ p₀ fs₀ cl =>
    obtain ⟨e₁, s₁, hr, he⟩ := hgo (Γ.wake c₀ p) p₀ rfl (hB c₀)
    exact ⟨_, _, by unfold Wakes; rw [hg]; exact ⟨e₁, s₁, hr, (hq e₁ s₁ he).1, rfl, rfl⟩, (hq e₁ s₁ he).2 Γ p hΓ⟩
  | running => exact hgo.elim
  | finished => exact hgo.elim
section
variable {P : Program} {w : World} {A : Around} {E : Value → Shared → Prop} {s : Shared}
theorem next_genS {a : Addr} {g : Nat} {gs : GenState} {Φ : End → Shared → Prop} {Q : Option Value → Shared → Prop} (hh : A.handled = none)
    (hl : s.heap.NoLimit) (hroom : A.depth < recursionLimit) (hg : s.heap.IsGen a g) (hgs : s.gens[g]? = some gs) (hgo : GoesS (model P w) A.in1 Φ gs (s.setGen g .running))
    (hY : ∀ v gd l k c p fs s₁, Φ (.susp v gd l k c p fs) s₁ → (End.susp v gd l k c p fs).quiet = true ∧ Q (some v) (s₁.setGen g (.suspended k l c p fs (gd || fs.any Frame.guarded))))
    (hP : ∀ f s₁, Φ (.ret (.ok f)) s₁ → (f = .ret .none ∨ f = .next) ∧ ∀ h', (∀ b o, s₁.heap.get? b = some o → h'.get? b = some o) → Q none { s₁.setGen g .finished with heap := h' })
    (hE : ∀ e s₁, Φ (.ret (.error e)) s₁ → s₁.heap.IsGen a g ∧ NotStop (model P w) e s₁.heap ∧ E e (s₁.setGen g .finished)) :
    wpAny (model P w) A (pyNext (.ref a)) Q E s := by
  unfold pyNext
  refine wpAny_bind (wpAny_attempt (wpAny_callSpecial?_slot (name := Str.ofString "__next__") hg.typeIs slot_gen_next
    (wpAny_call_entry slot_gen_next hg.typeIs entry_gen_next ?_ (args_gen_next _))))
  show wpAny _ A.in1 (Builtin.Generator.genWake (.ref a) (.send .none)) _ _ s
  unfold Builtin.Generator.genWake
  refine wpAny_bind (wpAny_holding (wpAny_genNumber hg (wpAny_bind (wpAny_genState hgs ?_))))
  cases gs with
  | running => exact hgo.elim
  | finished => exact hgo.elim
  | _ =>
    refine wpAny_bind (wpAny_roomToWake hl hroom ?_)
    show wpAny _ A.in1 (.resume g (.send .none) [] _) _ _ s
    refine wpAny_resumeS hgs hgo fun e s₁ he => ?_
    cases e with
    | ret r =>
      refine ⟨rfl, ?_⟩
      cases r with
      | ok f =>
        obtain ⟨hf, hp⟩ := hP f s₁ he
        have hres : End.result (.ret (.ok f)) = .returned .none := by
          rcases hf with hf | hf <;> rw [hf] <;> rfl
        first | rw [hres] | simp only [hres]
        show wpAny _ A.in1 (newExc (.type "StopIteration") [] >>= _) _ _ _
        refine wpAny_bind ?_
        simp only [newExc, newTuple]
        refine wpAny_bind (wpAny_newObj_type ?_ (by size_fits))
        refine wpAny_bind (m := firstArgMember _ _) (wpAny_of_eq (a := Value.none) (by first | rfl | (simp only [firstArgMember]; rfl)) ?_)
        refine wpAny_newObj_type ?_ (by size_fits)
        simp only [raiseNew]
        refine wpAny_bind (wpAny_bind (wpAny_handled ?_))
        first | rw [show A.in1.handled = none from hh] | rw [hh]
        refine wpAny_throw ?_
        refine wpAny_bind (wpAny_isInstance (T := "StopIteration") (b := true) ⟨_, Heap.get?_push_size _ rfl, rfl⟩ isSubtype_stop ?_)
        exact wpAny_pure (hp _ fun b o hb => Heap.get?_push_of_some _ (Heap.get?_push_of_some _ hb))
      | error e =>
        obtain ⟨hg1, hns, hq⟩ := hE e s₁ he
        obtain ⟨o, nm, qn, ho, hc, hd, hsl⟩ := hg1
        show wpAny _ A.in1 (Builtin.Generator.genLeft (.ref a) e) _ _ _
        unfold Builtin.Generator.genLeft Builtin.Generator.madeByALambda
        refine wpAny_bind (wpAny_bind (wpAny_load (o := o) ho (wpAny_pure ?_)))
        refine wpAny_bind (hns _ _ _ _ rfl ?_)
        rw [Bool.and_false, if_neg Bool.false_ne_true]
        unfold Builtin.Generator.genEscaped
        first
          | refine wpAny_bind (hns _ _ _ _ rfl ?_)
          | refine wpAny_bind (wpAny_pure (wpAny_bind (hns _ _ _ _ rfl ?_)))
        rw [if_pos (show (!false) = true from rfl)]
        first
          | refine wpAny_throw ?_
          | refine wpAny_bind (wpAny_throw ?_)
        refine wpAny_bind (hns _ _ _ _ rfl ?_)
        rw [if_neg Bool.false_ne_true]
        exact wpAny_throw hq
    | susp v gd l k c p fs =>
      obtain ⟨h1, h2⟩ := hY v gd l k c p fs s₁ he
      exact ⟨h1, wpAny_pure ⟨v, rfl, wpAny_pure h2⟩⟩
end

/-! ### for tg in g(..): body, where the body never comes to the next turn -/
abbrev TGnF := L2.St → Hp → (V → Hp → Prop) → (Hp → Prop) → Prop
structure PGF (X : Cx) (k : Nat) (e : Expr) (tg : TGnF) (E : XK) : Prop where
  run : ∀ (pins : List (Addr × Obj)) (s : Shared) (σ : L2.St) (H : Hp) (Y : V → Hp → Prop) (Z : Hp → Prop), Inv X pins σ H s → tg σ H Y Z → wpAny (model X.prog X.w) X.A (eval e X.env)
    (fun u s' => ∃ H1 sc, Inv X pins σ H1 sc ∧ MadeF X.prog X.w k X.stack H1 sc Y Z E u s') X.xe s
section
variable {X : Cx} {k : Nat} {f C : Addr} {fd : FuncData} {ps : List Str} {sp : SpF} {dvs : List V} {ds : List Value} {x m : Str} {p pos pos' apos : Pos} {o : Expr} {ta : TE} {E : XK}
theorem run_ffn {pins : List (Addr × Obj)} {σ : L2.St} {H : Hp} {s : Shared} {us : List Value} {vs : List V} {Y : V → Hp → Prop} {Z : Hp → Prop} {E1 : Value → Shared → Prop} (F : FFn X.prog X.w X.K X.mg X.base k f fd ps sp) (hr : Room k X.A) (hb : Binds X.K fd ps ds) (hd : Vals dvs ds)
    (I : Inv X pins σ H s) (r : Vals vs us) (h : sp (vs ++ dvs) H Y Z E) :
    wpAny (model X.prog X.w) X.A (call (.ref f) us) (fun u s' => ∃ H1 sc, Inv X pins σ H1 sc ∧ MadeF X.prog X.w k X.stack H1 sc Y Z E u s') E1 s := by
  have r2 : Vals (vs ++ dvs) (us ++ ds) := r.append hd
  have hl2 : (us ++ ds).length = ps.length := by rw [← r2.length]; exact F.len _ _ _ _ _ h
  refine wpAny_call (codeAny_mono (F.run X.A X.stack s H ⟨us, []⟩ (us ++ ds) (vs ++ dvs) Y Z E hr I.env0 (hb s us I.kIn hl2) r2 h) fun r s' hq => ?_)
  cases r with
  | error e => exact False.elim hq
  | ok fl =>
    cases fl with
    | ret u => exact ⟨H, s, I, hq⟩
    | next => exact False.elim hq
    | brk => exact False.elim hq
    | cont => exact False.elim hq
def tMethGF (C : Addr) (m : Str) (sp : SpF) (dvs : List V) (E : XK) (ta : TE) (t : TA) : TGnF := fun σ H Y Z => ta σ H fun x H1 => ∃ a dx fs, x = .ref a ∧ H1 a = some (.ins C dx fs) ∧ fs.lookup m = none ∧
  t σ H1 fun vs H2 => sp (x :: (vs ++ dvs)) H2 Y Z E
/-- o.m() of a generator method -/
theorem pgf_meth0 {pl : Sem Bool} (he : PE X o ta) (c : Cls X.K C) (hm : Meth X.K C m f) (F : FFn X.prog X.w X.K X.mg X.base k f fd ps sp) (hr : Room k X.A) (hb : Binds X.K fd ps ds) (hd : Vals dvs ds)
    (ht : eval (.Call (.Attribute o m apos) [] [] pos') X.env = (do
      let ov ← eval o X.env
      standAt apos.atName
      let (f, first) ← holding [ov] (getMethod ov m pl)
      callWith pos' f first (backTo pos' (starEach [] X.env)) (backToKw pos' (keywordEach [] X.env))) := by rfl) :
    PGF X k (.Call (.Attribute o m apos) [] [] pos') (tMethGF C m sp dvs E ta tNil) E := by
  refine ⟨fun pins s σ H Y Z I h => ?_⟩
  refine PySem.W.methodCall_KW (pl := pl) (thn (he.run pins s σ H _ I h) fun u s1 ⟨x, H1, I1, rx, a, dx, fs, ex, ea, l, q⟩ => ?_) ht
  subst ex
  obtain rfl : u = Value.ref a := rx
  refine getmeth_ok I1 ea c hm l ?_
  exact PySem.W.callWith_K0 (first := [.ref a]) I1.kIn hm.kp (run_ffn (us := [.ref a]) (vs := [.ref a]) F hr hb hd I1 (.cons rfl .nil) q)
def tCallGF (sp : SpF) (dvs : List V) (E : XK) (t : TA) : TGnF := fun σ H Y Z => t σ H fun vs H1 => sp (vs ++ dvs) H1 Y Z E
/-- f(e, ..) of a generator def -/
theorem pgf_call {e : Expr} {es : List Expr} {t : TA} (F : FFn X.prog X.w X.K X.mg X.base k f fd ps sp) (hr : Room k X.A) (hg : Gl X x) (hm : X.mg x = some (.ref f)) (hk : PySem.W.keepIn X.K (.ref f) = true) (hb : Binds X.K fd ps ds) (hd : Vals dvs ds)
    (ha : PA X (e :: es) t) (hdb : (x == ("__debug__" : Str)) = false := by decide) (he : starEach (e :: es) X.env = (false, eval e X.env) :: starEach es X.env := by rfl) (hpl : (backTo pos' (starEach es X.env)).any (·.1) = false := by rfl) :
    PGF X k (.Call (.Name x p) (e :: es) [] pos') (tCallGF sp dvs E t) E := by
  refine ⟨fun pins s σ H Y Z I h => ?_⟩
  refine wpAny_Call_Name_kw (ld_glob I hg hm ?_ hdb)
  refine PySem.W.callWith_K (h₀ := X.base) I.ok.mod.kin hk (thn (ha.run pos' pins s σ H _ I h) fun us s1 ⟨vs, H1, I1, r, q⟩ => ⟨I1.kIn, ?_⟩) he hpl
  exact run_ffn F hr hb hd I1 r q
def tForF (tgn : TGnF) (g : TG) (tb : TS) : TS := fun D σ H => tgn σ H (fun x H1 => g x σ H1 fun σ2 H2 => tb { D with nx := fun _ _ => False, ct := fun _ _ => False, bk := D.nx } σ2 H2) (fun H1 => D.nx σ H1)
theorem ps_forF {iter tg : Expr} {body : List Stmt} {tgn : TGnF} {g : TG} {tb : TS} (hi : PGF X k iter tgn E) (hx : Passes (CX X.prog X.w) X E) (hns : NoStop X.K E) (hr : Room (k + 1) X.A) (hp : PassesOwn (model X.prog X.w) X.A X.env X.xe) (hg : PG X tg g) (hb : PSs X body tb)
    (hs : ∀ x, foldedSetIterable iter X.env x = pure x := by intro _; rfl) : PS X (.For tg iter body [] pos) (tForF tgn g tb) := by
  refine ⟨fun pins s σ H D I h => ?_⟩
  refine wpAny_For (thn (hi.run pins s σ H _ _ I h) fun u s1 ⟨H1, sc, I1, a, g1, c, eu, ha1, hgen, hgs, hos, hba, hlim, hkp, wake⟩ => ?_) hs
  subst eu
  refine wpAny_pyIter_gen hgen ?_
  refine codeAny_forLoop_any (fun n s' => s' = s1) ?_ 0 rfl
  rintro n s3 rfl
  refine wpAny_passesOwn hp ?_
  refine next_genS (Φ := EndF X.prog X.w X.stack H1 sc a g1 (fun x H1 => g x σ H1 fun σ2 H2 => tb { D with nx := fun _ _ => False, ct := fun _ _ => False, bk := D.nx } σ2 H2) (fun H1 => D.nx σ H1) E) hr.hd hlim (by have := hr.dp; omega) hgen hgs ?_ ?_ ?_ ?_
  · exact wake X.A.in1 _ hr.in1 I1.ok.frames (fun b o e => e) hos (allBare_setGen hba rfl)
  · rintro v gd l k' c' p' fs s4 ⟨hq, hg4, xv, H4, os4, ba4, un4, hok4, rv, hY⟩
    refine ⟨hq, ?_⟩
    have I4 : Inv X pins σ H4 (s4.setGen g1 (.suspended k' l c' p' fs (gd || fs.any Frame.guarded))) :=
      I1.call' (ch := []) os4 un4 hok4 (allBare_setGen ba4 (End.bare_of_quiet hq)) fun b z => by simp at z
    obtain ⟨go, nm, qn, ho, hc, hd, _⟩ := hg4
    refine go_of (s := s4.setGen g1 (.suspended k' l c' p' fs (gd || fs.any Frame.guarded))) (n := "generator") ho hc hd (by decide) ?_
    refine wpAny_passesOwn hp (thn (hg.run _ _ σ H4 xv v _ I4 rv hY) fun _ s6 ⟨σ6, H6, I6, q6⟩ => ?_)
    refine wpAny_passesOwn hp (thn (hb.run _ s6 σ6 H6 _ I6 q6) fun fl s7 q7 => ?_)
    cases fl with
    | next => obtain ⟨_, _, _, q⟩ := q7; exact False.elim q
    | cont => obtain ⟨_, _, _, q⟩ := q7; exact False.elim q
    | brk => exact q7
    | ret u => exact q7
  · rintro fl s4 ⟨hf, H4, os4, ba4, un4, hok4, hZ⟩
    refine ⟨hf, fun h' hk => ?_⟩
    refine wpAny_execs_nil ⟨σ, H4, ?_, hZ⟩
    have I4 : Inv X pins σ H4 (s4.setGen g1 .finished) := I1.call' (ch := []) os4 un4 hok4 (allBare_setGen ba4 rfl) fun b z => by simp at z
    exact I4.call' (s' := { s4.setGen g1 .finished with heap := h' }) (ch := []) rfl (Un.kept hk) (I4.hok.kept hk) (allBare_setGen ba4 rfl) fun b z => by simp at z
  · rintro e s4 ⟨hc, hg4⟩
    have kin : X.K.In s4.heap := by
      obtain ⟨a, B, H', cls, d, _, fl, _, ub, _⟩ := id hc
      refine I1.ok.mod.kin.keeps fun b o eb => fl.1 b o (ub.keep b o (I1.bs b o eb).1 (I1.bs b o eb).2 fun hm => ?_)
      rcases List.mem_cons.mp (I1.stkSub b hm) with z | z
      · have h1 := Heap.lt_size eb
        have h2 := Nat.le_trans I1.ok.bsz I1.ok.above
        rw [z] at h1
        exact absurd (Nat.lt_of_lt_of_le h1 h2) (Nat.lt_irrefl _)
      · exact I1.ok.nofr eb z
    refine ⟨hg4, notStop_of hns kin hc, hx pins σ H1 sc e _ I1 ?_⟩
    obtain ⟨a, B, H', cls, d, z1, fl, z2, ub, z3, z4, z5, z6⟩ := hc
    exact ⟨a, B, H', cls, d, z1, fl, z2, ub, z3, z4, allBare_setGen z5 rfl, z6⟩
end
end Ask

set_option Elab.async false
set_option linter.all false
set_option maxRecDepth 100000
set_option maxHeartbeats 4000000
namespace Ask
open PySem PySem.Spec PyProof.Rows L2 GenW
open Sem (wp)
section
variable {M : Model} {A : Around} {Φ : End → Shared → Prop} {s : Shared} {c : Code} {fs : List Frame}
theorem sg_bind2 {α β γ : Type} {m : Sem α} {f : α → Sem β} {f2 : β → Sem γ} {K : γ → Sem PySem.Fin} {J : Value → Sem PySem.Fin} {gd : Bool → Bool} {lv : List Value → List Value}
    (h : wpAny M (A.over c fs) m (fun a s' => Sg M A Φ c ((f a).wrap (fun b => (f2 b).wrap K J gd lv) J gd lv) fs s') (fun x s' => Sg M A Φ c (J x) fs s') s) :
    Sg M A Φ c (((m >>= f) >>= f2).wrap K J gd lv) fs s := by
  rw [Sem.bind_eq_wrap' (m >>= f) f2, Sem.wrap_wrap]
  exact sg_bw h
end
section
variable {P : Program} {w : World} {A : Around} {s : Shared} {Φ : End → Shared → Prop}
/-- the first turn of a def whose whole body is «yield from e», e a new list -/
theorem sg_walk {e : Expr} {yp pos : Pos} {env : Env} (hh : A.handled = none) (hi : interactive env = false)
    (he : wpAny (model P w) (A.deeper env) (eval e env) (fun v s1 => ∃ (l : Addr) (us : List Value) (n : Nat), v = .ref l ∧ s1.heap.get? l = some (seqObj "list" us.toArray n) ∧
      ∀ e' s', Turns (model P w) s1.heap.objs.size l us us.length 0 { s1 with heap := s1.heap.push { cls := .type "list_iterator", data := .fields #[.ref l, .int 0 0] } } e' s' → Φ e' s') (fun _ _ => False) s) :
    Sg (model P w) A Φ (.func [.Expr (.YieldFrom e yp) pos] env) ((model P w).den (.func [.Expr (.YieldFrom e yp) pos] env)) [] s := by
  refine sg_func ?_
  refine sg_execs_cons ?_
  rw [exec_Expr env _ pos hi rfl]
  refine sg_at ?_
  show Sg _ _ _ _ (((eval e env >>= fun v => (standAt yp >>= fun _ => yieldFrom env v)) >>= fun x => dropValue (.YieldFrom e yp) pos x).wrap _ _ _ _) _ s
  refine sg_bind2 ?_
  rw [over_func]
  refine wpAny_mono he (fun v s1 hv => ?_) fun x s' hx => hx.elim
  obtain ⟨l, us, n, rfl, hl, hq⟩ := hv
  have hL : s1.heap.IsList l us.toArray := ⟨_, hl, rfl, n, rfl⟩
  refine sg_at ?_
  show Sg _ _ _ _ ((yieldFrom env (.ref l)).wrap _ _ _ _) _ s1
  unfold yieldFrom
  refine sg_bw (wpAny_typeOf (T := "list") hL.typeIs ?_)
  rw [if_neg (show ¬ ((Value.type "list" == Value.type "coroutine") = true) from by decide)]
  refine sg_bw (wpAny_holding (wpAny_pyIter_list hL ?_))
  refine sg_call fun p => ?_
  have ne : s1.heap.objs.size ≠ l := Nat.ne_of_gt (Heap.lt_size hl)
  refine Sg.imp (sg_yf (it := s1.heap.objs.size) (l := l) (us := us) ne rfl rfl (fun A hA => ?_) (fun A' s0 s' hA kb => ?_) us.length 0 A _ (Nat.zero_add _) hh ⟨⟨_, Heap.get?_push_size _ rfl, rfl, rfl⟩, hL.push _⟩) fun e' s' ht => hq e' s' ht
  · show A.handled = none
    exact hA
  · refine sg_leaf (.ok (.ret .none)) ?_
    show Sg (model P w) A' _ _ (leafOf (.ok (.ret .none))) [] s'
    exact sg_end (.ok (.ret .none)) ⟨⟨_, rfl, .inl rfl⟩, kb⟩
end
end Ask

set_option Elab.async false
set_option linter.all false
set_option maxRecDepth 100000
set_option maxHeartbeats 4000000
namespace Ask
open PySem PySem.Spec PyProof.Rows L2
open PySem.W (KeepsBut AllAlike Sortable EachIs KeyedOut dataLe)
/-! sorted(xs, key=f), f a function that the hand layer runs -/
/-- a plain value and its data -/
def FlatV : V → PyData → Prop
  | .int i, d => d = .int i
  | .bl b, d => d = .bool b
  | .str x, d => d = .str x
  | _, _ => False
/-- a key: an int, or a new tuple of plain values -/
def KeyIs (H : Hp) (y : V) (d : PyData) : Prop := (∃ i, y = .int i ∧ d = .int i) ∨ ∃ t vs ds, y = .ref t ∧ d = .tuple ds ∧ H t = some (.tup vs) ∧ Paired FlatV vs ds
theorem KeyIs.same {H H' : Hp} {y : V} {d : PyData} (h : KeyIs H y d) (s : Same H H') : KeyIs H' y d := by
  rcases h with h | ⟨t, vs, ds, e1, e2, e3, e4⟩
  · exact .inl h
  · exact .inr ⟨t, vs, ds, e1, e2, s _ _ e3, e4⟩
theorem flat_dp {K : PySem.W.Frag} {H : Hp} {v : V} {d : PyData} (h : FlatV v d) : Dp K H v d := by
  cases v <;> first | exact h.elim | (have h : d = _ := h; subst h; constructor)
theorem flats_dp {K : PySem.W.Frag} {H : Hp} : ∀ {vs : List V} {ds : List PyData}, Paired FlatV vs ds → DpAll K H vs ds
  | _, _, .nil => .nil
  | _, _, .cons h t => .cons (flat_dp h) (flats_dp t)
theorem KeyIs.dp {K : PySem.W.Frag} {H : Hp} {y : V} {d : PyData} (h : KeyIs H y d) : Dp K H y d := by
  rcases h with ⟨i, rfl, rfl⟩ | ⟨t, vs, ds, rfl, rfl, e3, e4⟩
  · exact .int i
  · exact .tup (SqT.of e3) (flats_dp e4)
theorem each_snoc' {α β : Type} {R : α → β → Prop} {x : α} {y : β} : ∀ {xs : List α} {ys : List β}, EachIs R xs ys → R x y → EachIs R (xs ++ [x]) (ys ++ [y])
  | _, _, .nil, h => .cons h .nil
  | _, _, .cons a r, h => .cons a (each_snoc' r h)
theorem each_imp {α β : Type} {R R' : α → β → Prop} (f : ∀ x y, R x y → R' x y) : ∀ {xs : List α} {ys : List β}, EachIs R xs ys → EachIs R' xs ys
  | _, _, .nil => .nil
  | _, _, .cons a r => .cons (f _ _ a) (each_imp f r)
theorem each_vals : ∀ {xs : List V} {vs : List Value}, Vals xs vs → EachIs (fun v x => RelV x v) vs xs
  | _, _, .nil => .nil
  | _, _, .cons a r => .cons a (each_vals r)
theorem vals_each : ∀ {vs : List Value} {xs : List V}, EachIs (fun v x => RelV x v) vs xs → Vals xs vs
  | _, _, .nil => .nil
  | _, _, .cons a r => .cons a (vals_each r)
section
variable {X : Cx} {pins : List (Addr × Obj)} {σ : L2.St}
/-- between two calls of the key -/
structure KeyLoop (X : Cx) (pins : List (Addr × Obj)) (σ : L2.St) (H0 : Hp) (f a kS : Addr) (of : Obj) (e1 : Nat) (kd : List PyData) (H' : Hp) (kA : Array Value) (s' : Shared) : Prop where
  inv : Inv X pins σ H' s'
  same : Same H0 H'
  fp : ∀ b ∈ [f, a, kS], FpOk X pins H' b
  hf : s'.heap.get? f = some of
  ha : s'.heap.get? a = some (seqObj "list" #[] e1)
  hk : ∃ e, s'.heap.get? kS = some (seqObj "list" kA e)
  keys : ∃ ys, Vals ys kA.toList ∧ Paired (KeyIs H') ys kd
theorem relv_reads {s : Shared} {H : Hp} (I : Inv X pins σ H s) {ys : List V} {ds : List PyData} {vs : List Value} (r : Vals ys vs) (p : Paired (KeyIs H) ys ds) : EachIs (fun v d => ∃ as, Reads s.heap v d as) vs ds := by
  induction p generalizing vs with
  | nil => cases r; exact .nil
  | cons k _ ih =>
    cases r with
    | cons r1 r2 => exact .cons (Dp.reads I _ _ _ k.dp r1) (ih r2)
/-- xs.sort(key=f), xs a new list at a -/
theorem sort_tree_I {f a : Addr} {of : Obj} {xs : List V} {vs : List Value} {kf : V → PyData} {H0 : Hp} {s0 : Shared} {hc : Heap} {tk0 : Nat} {Q : Value → Shared → Prop} {E : Value → Shared → Prop} (I0 : Inv X pins σ H0 s0) (hv : Vals xs vs) (hz : xs.length ≤ sizeLine)
    (old1 : ∀ b o, s0.heap.get? b = some o → hc.get? b = some o) (ho : hc.get? a = some (seqObj "list" vs.toArray 0)) (sza : s0.heap.objs.size ≤ a)
    (hf : s0.heap.get? f = some of) (hfd : ∀ v, of.data ≠ .cell v) (hfp : FpOk X pins H0 f) (hal : AllAlike (xs.map kf)) (hsk : Sortable (xs.map kf)) (hu : ∀ x ∈ xs, X.A.units + 2 + (kf x).depth < cLine)
    (turn : ∀ x ∈ xs, ∀ (v : Value) (pins' : List (Addr × Obj)) (s' : Shared) (H' : Hp), RelV x v → Inv X pins' σ H' s' → Same H0 H' → s'.heap.get? f = some of →
      wpAny (model X.prog X.w) X.A.in1.in1 (call (.ref f) [v]) (fun u s'' => ∃ y H'', Inv X pins' σ H'' s'' ∧ RelV y u ∧ Same H' H'' ∧ KeyIs H'' y (kf x)) (fun _ _ => False) s')
    (fin : ∀ (out : List Value) (c : Nat) (s' : Shared) (H' : Hp), Inv X pins σ H' s' → Same H0 H' → s'.heap.get? a = some (seqObj "list" out.toArray c) → FpOk X pins H' a → Vals (xs.mergeSort (dataLe false kf)) out → Q (.ref a) s') :
    wpAny (model X.prog X.w) X.A.in1.in1 (ksk_tree a (.ref f) false) (fun fr s' => fr = .done (.ret .none) ∧ Q (.ref a) s') E { s0 with heap := hc, toks := tk0 } := by
  have vl : vs.length = xs.length := hv.length.symm
  obtain ⟨e1, ho1⟩ : ∃ e1, (hc.update a (Obj.mapSeq fun _ => (#[] : Array Value))).get? a = some (seqObj "list" #[] e1) := ⟨_, get?_update_seq ho fun _ => #[]⟩
  have ha : a < hc.objs.size := Heap.lt_size ho
  unfold ksk_tree
  refine wpAny_bind (listItems_at ho rfl ?_)
  refine wpAny_bind (listUpdate_at ho rfl ?_ (by rw [List.size_toArray, vl]; exact hz) (Nat.zero_le _))
  refine wpAny_bind (seqEpoch_at ho1 rfl ?_)
  refine wpAny_bind (wpAny_newTuple ?_ (by show vs.length ≤ _; rw [vl]; exact hz))
  refine wpAny_bind (wpAny_newList ?_ (Nat.zero_le _))
  refine wpAny_holding ?_
  have hkS : ((hc.update a (Obj.mapSeq fun _ => (#[] : Array Value))).push (seqObj "tuple" vs.toArray 0)).objs.size = hc.objs.size + 1 := by rw [size_push', Heap.size_update]
  have hkk : (((hc.update a (Obj.mapSeq fun _ => (#[] : Array Value))).push (seqObj "tuple" vs.toArray 0)).push (seqObj "list" #[] 0)).get? ((hc.update a (Obj.mapSeq fun _ => (#[] : Array Value))).push (seqObj "tuple" vs.toArray 0)).objs.size = some (seqObj "list" #[] 0) := Heap.get?_push_size _ rfl
  have haa : (((hc.update a (Obj.mapSeq fun _ => (#[] : Array Value))).push (seqObj "tuple" vs.toArray 0)).push (seqObj "list" #[] 0)).get? a = some (seqObj "list" #[] e1) := Heap.get?_push_of_some _ (Heap.get?_push_of_some _ ho1)
  have old2 : ∀ b o, s0.heap.get? b = some o → (((hc.update a (Obj.mapSeq fun _ => (#[] : Array Value))).push (seqObj "tuple" vs.toArray 0)).push (seqObj "list" #[] 0)).get? b = some o := fun b o e => PySem.W.sortingHeap_old (Nat.ne_of_lt (Nat.lt_of_lt_of_le (Heap.lt_size e) sza)) (old1 b o e)
  generalize ekS : ((hc.update a (Obj.mapSeq fun _ => (#[] : Array Value))).push (seqObj "tuple" vs.toArray 0)).objs.size = kS at hkS hkk ⊢
  have hka : kS ≠ a := by rw [hkS]; exact Nat.ne_of_gt (Nat.lt_succ_of_lt ha)
  have szk : s0.heap.objs.size ≤ kS := by rw [hkS]; exact Nat.le_of_lt (Nat.lt_succ_of_lt (Nat.lt_of_le_of_lt sza ha))
  generalize (((hc.update a (Obj.mapSeq fun _ => (#[] : Array Value))).push (seqObj "tuple" vs.toArray 0)).push (seqObj "list" #[] 0)) = hh at hkk haa old2 ⊢
  have fpa := I0.fpOk sza (I0.hok.fresh sza)
  have fpk := I0.fpOk szk (I0.hok.fresh szk)
  have fps : ∀ b ∈ [f, a, kS], FpOk X pins H0 b := fun b hb => by
    simp only [List.mem_cons, List.not_mem_nil, or_false] at hb
    rcases hb with rfl | rfl | rfl
    · exact hfp
    · exact fpa
    · exact fpk
  have fa : f ≠ a := fun z => by rw [z] at hf; exact absurd (Heap.lt_size hf) (Nat.not_lt_of_le sza)
  have fk : f ≠ kS := fun z => by rw [z] at hf; exact absurd (Heap.lt_size hf) (Nat.not_lt_of_le szk)
  have L0 : KeyLoop X pins σ H0 f a kS of e1 [] H0 #[] { s0 with heap := hh, toks := tk0 } := ⟨I0.kept (t' := tk0) old2, Same.refl _, fps, old2 _ _ hf, haa, ⟨0, hkk⟩, [], .nil, .nil⟩
  show wpAny (model X.prog X.w) X.A.in1.in1 (ksk_rest a (.ref f) false vs.toArray e1 (.ref kS)) _ _ { s0 with heap := hh, toks := tk0 }
  unfold ksk_rest
  refine wpAny_bind (wpAny_rule ?_)
  first
    | rw [List.forIn_toArray]
    | (rw [← Array.forIn_toList]; simp only [List.toList_toArray])
    | rw [← Array.forIn_toList]
  refine wpAny_bind (ksk_fold (fun i s' => ∃ H' kA, KeyLoop X pins σ H0 f a kS of e1 ((xs.map kf).take i) H' kA s') vs 0 _ ⟨H0, #[], by rw [List.take_zero]; exact L0⟩ ?step ?done)
  case step =>
    rintro j v s' hx ⟨H', kA, L⟩
    simp only [Nat.zero_add] at L ⊢
    obtain ⟨x, ex, rx⟩ : ∃ x, xs[j]? = some x ∧ RelV x v := by
      have hj : j < xs.length := by rw [← vl]; exact (List.getElem?_eq_some_iff.mp hx).1
      obtain ⟨u, eu, ru⟩ := Vals.get hv (List.getElem?_eq_getElem hj)
      rw [hx] at eu
      cases eu
      exact ⟨_, List.getElem?_eq_getElem hj, ru⟩
    obtain ⟨e, hk⟩ := L.hk
    obtain ⟨ys, ry, py⟩ := L.keys
    have objs : ∀ b ∈ [f, a, kS], ∃ o, s'.heap.get? b = some o ∧ ∀ v, o.data ≠ .cell v := fun b hb => by
      simp only [List.mem_cons, List.not_mem_nil, or_false] at hb
      rcases hb with rfl | rfl | rfl
      · exact ⟨_, L.hf, hfd⟩
      · exact ⟨_, L.ha, fun v z => by cases z⟩
      · exact ⟨_, hk, fun v z => by cases z⟩
    have Ip := L.inv.pinned L.fp objs
    have kl : kA.size ≤ xs.length := by
      have h1 : ys.length = kA.toList.length := ry.length
      have h2 : ys.length = ((xs.map kf).take j).length := paired_len py
      have h3 : ((xs.map kf).take j).length ≤ (xs.map kf).length := List.length_take_le' _ _
      rw [List.length_map] at h3
      have h4 : kA.toList.length = kA.size := by simp
      calc kA.size = kA.toList.length := h4.symm
        _ = ys.length := h1.symm
        _ = _ := h2
        _ ≤ _ := h3
    refine wpAny_bind (wpAny_attempt (wpAny_mono (turn x (List.mem_of_getElem? ex) v _ s' H' rx Ip L.same L.hf) (fun u s'' he => ?_) fun _ _ hF => hF.elim))
    obtain ⟨y, H'', I'', ru, S'', ky⟩ := he
    try dsimp only
    have pin : ∀ b ∈ [f, a, kS], ∀ o, s'.heap.get? b = some o → s''.heap.get? b = some o ∧ H'' b = none := fun b hb o eo =>
      let z := I''.pin (b, o) (List.mem_append_right _ (List.mem_append_right _ (mem_pinsAt hb eo)))
      ⟨z.1, z.2.1⟩
    have pf := pin f (by simp) _ L.hf
    have pa := pin a (by simp) _ L.ha
    have pk := pin kS (by simp) _ hk
    have fp' : ∀ b ∈ [f, a, kS], FpOk X pins H'' b := fun b hb => by
      obtain ⟨o, eo, _⟩ := objs b hb
      exact ⟨(pin b hb o eo).2, (L.fp b hb).2⟩
    have I2 : Inv X pins σ H'' s'' := I''.unpinned
    have s1 := Heap.SameBut.update s''.heap kS (Obj.mapSeq (·.push u))
    obtain ⟨c2, hc2⟩ : ∃ c2, (s''.heap.update kS (Obj.mapSeq (·.push u))).get? kS = some (seqObj "list" (kA.push u) c2) := ⟨_, get?_update_seq pk.1 (·.push u)⟩
    refine wpAny_bind (listUpdate_at pk.1 rfl ?_ (Nat.le_trans kl hz) (Nat.le_trans (Nat.le_of_eq (Array.size_push ..)) (Nat.succ_le_succ (Nat.le_trans kl hz))))
    have kd : (xs.map kf).take (j + 1) = (xs.map kf).take j ++ [kf x] := by
      rw [List.take_add_one, List.getElem?_map, ex]
      rfl
    refine wpAny_pure ⟨rfl, H'', kA.push u, ?_⟩
    rw [kd]
    refine ⟨I2.turnedL (t' := s''.toks) (ch := [kS]) (fun b o hb eo => (s1.2 b (fun z => hb (by simp [z]))).trans eo) (fun b hb => fp' b (by simp at hb; simp [hb])), L.same.trans S'', fp', (s1.2 f fk).trans pf.1, (s1.2 a hka.symm).trans pa.1, ⟨c2, hc2⟩, ys ++ [y], ?_, ?_⟩
    · rw [show (kA.push u).toList = kA.toList ++ [u] from by simp]
      exact Vals.append ry (.cons ru .nil)
    · exact Paired.snoc (paired_imp (fun _ _ z => z.same S'') py) ky
  case done =>
    rintro s' ⟨H', kA, L⟩
    have ek : (xs.map kf).take (0 + vs.length) = xs.map kf := List.take_of_length_le (by rw [List.length_map]; omega)
    rw [ek] at L
    obtain ⟨e, hk⟩ := L.hk
    obtain ⟨ys, ry, py⟩ := L.keys
    have er := relv_reads L.inv ry py
    have ksz : kA.size = vs.length := by
      have h1 := er.length
      rw [Array.length_toList, List.length_map] at h1
      omega
    obtain ⟨G, g1, g2⟩ := restrict s'.heap fun b => decide (b ≠ kS)
    try dsimp only
    refine wpAny_bind (listItems_at hk rfl ?_)
    have kp : KeepsBut a G s'.heap := fun b o _ eo => by
      by_cases hb : b = kS
      · have z := g2 b (decide_eq_false (fun n => n hb))
        rw [z] at eo
        cases eo
      · rw [← g1 b (decide_eq_true hb)]
        exact eo
    refine PySem.W.keyH_end (κ := PySem.W.dataKind s'.heap (xs.map kf)) (h₁ := G) kp (g2 kS (decide_eq_false fun n => n rfl)) hk L.ha hka (PySem.W.SortsAt.data er hal hsk fun d hd => ?_) ksz (by rw [vl]; exact hz) fun h3 tk3 c k3 n3 => ⟨rfl, ?_⟩
    · obtain ⟨x, hx, rfl⟩ := List.mem_map.mp hd
      exact hu x hx
    have ko : KeyedOut false (xs.map kf) vs (PySem.W.sortVals (PySem.W.dataKind s'.heap (xs.map kf)) false kA.toList vs) := ⟨s'.heap, kA.toList, hal, rfl, er⟩
    refine fin _ c _ H' (L.inv.turnedL (t' := tk3) (ch := [a, kS]) (fun b o hb eo => ?_) fun b hb => L.fp b (by simp at hb; rcases hb with rfl | rfl <;> simp)) L.same n3 (L.fp a (by simp)) (vals_each (PySem.W.keyedOut_each kf ko (each_vals hv)))
    have nb : b ≠ a ∧ b ≠ kS := ⟨fun z => hb (by simp [z]), fun z => hb (by simp [z])⟩
    exact k3 b o nb.1 (by rw [g1 b (decide_eq_true nb.2)]; exact eo)
/-- sorted(xs, key=f) -/
theorem sort_key_I {f l : Addr} {of : Obj} {xs : List V} {vs : List Value} {kf : V → PyData} {H0 : Hp} {s0 : Shared} {Q : Value → Shared → Prop} {E : Value → Shared → Prop} (I0 : Inv X pins σ H0 s0) (hl : s0.heap.IsList l vs.toArray) (hv : Vals xs vs) (hz : xs.length ≤ sizeLine)
    (hf : s0.heap.get? f = some of) (hfd : ∀ v, of.data ≠ .cell v) (hfp : FpOk X pins H0 f) (hal : AllAlike (xs.map kf)) (hsk : Sortable (xs.map kf)) (hu : ∀ x ∈ xs, X.A.units + 2 + (kf x).depth < cLine)
    (turn : ∀ x ∈ xs, ∀ (v : Value) (pins' : List (Addr × Obj)) (s' : Shared) (H' : Hp), RelV x v → Inv X pins' σ H' s' → Same H0 H' → s'.heap.get? f = some of →
      wpAny (model X.prog X.w) X.A.in1.in1 (call (.ref f) [v]) (fun u s'' => ∃ y H'', Inv X pins' σ H'' s'' ∧ RelV y u ∧ Same H' H'' ∧ KeyIs H'' y (kf x)) (fun _ _ => False) s')
    (fin : ∀ (a : Addr) (out : List Value) (c : Nat) (s' : Shared) (H' : Hp), Inv X pins σ H' s' → Same H0 H' → s0.heap.objs.size ≤ a → s'.heap.get? a = some (seqObj "list" out.toArray c) → FpOk X pins H' a → Vals (xs.mergeSort (dataLe false kf)) out → Q (.ref a) s') :
    wpAny (model X.prog X.w) X.A (call (.builtin "sorted") [.ref l] [(Str.ofString "key", .ref f)]) Q E s0 := by
  have vl : vs.length = xs.length := hv.length.symm
  refine PySem.W.sorted_of_sort hl (by rw [vl]; exact hz) (ksk_s1 _ _) (fun x => ksk_l1 _ _) fun E' => ?_
  rw [ksk_t1]
  exact sort_tree_I (tk0 := s0.toks) I0 hv hz (fun b o e => PySem.W.copyHeap_old e) (PySem.W.copyHeap_at s0.heap vs) (Nat.le_succ _) hf hfd hfp hal hsk hu turn fun out c s' H' I' S' e1 e2 e3 => fin _ out c s' H' I' S' (Nat.le_succ _) e1 e2 e3
/-- what an iterable hands out, collected -/
theorem collect_src {prog : Program} {w : World} {A : Around} {E : Value → Shared → Prop} {s : Shared} {T : String} {r d : Addr} {n : Nat} {Pv : Nat → Value → Prop} {OK : Heap → Prop} {Q : List Value → Shared → Prop} (K : PySem.W.KdlSrc prog w T r d n Pv OK) (hh : A.handled = none) (hok : OK s.heap) (hn : n ≤ sizeLine)
    (h : ∀ (h' : Heap) (tk : Nat) (acc : Array Value), (∀ b o, s.heap.get? b = some o → h'.get? b = some o) → s.heap.objs.size ≤ h'.objs.size → ItemsOf Pv acc n → Q acc.toList { s with heap := h', toks := tk }) : wpAny (model prog w) A (collect (.ref r)) Q E s := by
  unfold collect
  refine wpAny_bind (wpAny_runValue (codeAny_builtin entry_proto_collect' ?_))
  show wpAny _ _ (do again (.builtin "list.__iadd__" ⟨[← newList [], .ref r], []⟩)) _ _ s
  refine wpAny_bind (wpAny_newList (wpAny_pure ⟨Code.quiet_builtin _ (by decide +kernel), codeAny_builtin entry_list_iadd' ?_⟩))
  show wpAny _ _ (Builtin.List.listExtendWith (.ref s.heap.objs.size) (.ref r) (.ref s.heap.objs.size)) _ _ { s with heap := s.heap.push (seqObj "list" #[] 0) }
  rw [Around.under_plainId (by decide +kernel)]
  have lt := K.there _ hok
  have hS : (s.heap.push (seqObj "list" #[] 0)).get? s.heap.objs.size = some (seqObj "list" #[] 0) := Heap.get?_push_size _ rfl
  have kp : ∀ b o, s.heap.get? b = some o → (s.heap.push (seqObj "list" #[] 0)).get? b = some o := fun b o e => Heap.get?_push_of_some _ e
  refine PySem.W.kdl_extend (A := A) (s := { s with heap := s.heap.push (seqObj "list" #[] 0) }) (R := fun r s' => match r with
      | .ok (.ret v) => wpAny (model prog w) A (match v with
          | Value.ref a => do
            let o ← load a
            match o.data with
            | .seq xs _ => pure xs.toList
            | _ => unsupported "internal:collect"
          | _ => unsupported "internal:collect") Q E s'
      | .ok _ => False
      | .error e => E e s') K hh (K.keep _ _ hok fun b _ o e => kp b o e) s.heap.objs.size (Nat.ne_of_gt lt.1) (Nat.ne_of_gt lt.2) _ 0 hS (fun h' tk acc c' hk hS' hi => ?_) hn
  refine wpAny_bind (wpAny_load hS' ?_)
  refine wpAny_pure (h h' tk acc (fun b o e => hk b o (Nat.ne_of_lt (Heap.lt_size e)) (kp b o e)) (Nat.le_of_lt (Heap.lt_size hS')) hi)
/-- sorted(v, key=f), v a view or another iterable -/
theorem sort_src_I {T : String} {r d f : Addr} {n : Nat} {Pv : Nat → Value → Prop} {OK : Heap → Prop} {of : Obj} {xs : List V} {kf : V → PyData} {H0 : Hp} {s0 : Shared} {Q : Value → Shared → Prop} {E : Value → Shared → Prop} (K : PySem.W.KdlSrc X.prog X.w T r d n Pv OK) (hh : X.A.handled = none) (hok : OK s0.heap) (I0 : Inv X pins σ H0 s0)
    (hv : ∀ acc : Array Value, ItemsOf Pv acc n → Vals xs acc.toList) (hn : n ≤ sizeLine) (hz : xs.length ≤ sizeLine)
    (hf : s0.heap.get? f = some of) (hfd : ∀ v, of.data ≠ .cell v) (hfp : FpOk X pins H0 f) (hal : AllAlike (xs.map kf)) (hsk : Sortable (xs.map kf)) (hu : ∀ x ∈ xs, X.A.units + 2 + (kf x).depth < cLine)
    (turn : ∀ x ∈ xs, ∀ (v : Value) (pins' : List (Addr × Obj)) (s' : Shared) (H' : Hp), RelV x v → Inv X pins' σ H' s' → Same H0 H' → s'.heap.get? f = some of →
      wpAny (model X.prog X.w) X.A.in1.in1 (call (.ref f) [v]) (fun u s'' => ∃ y H'', Inv X pins' σ H'' s'' ∧ RelV y u ∧ Same H' H'' ∧ KeyIs H'' y (kf x)) (fun _ _ => False) s')
    (fin : ∀ (a : Addr) (out : List Value) (c : Nat) (s' : Shared) (H' : Hp), Inv X pins σ H' s' → Same H0 H' → s0.heap.objs.size ≤ a → s'.heap.get? a = some (seqObj "list" out.toArray c) → FpOk X pins H' a → Vals (xs.mergeSort (dataLe false kf)) out → Q (.ref a) s') :
    wpAny (model X.prog X.w) X.A (call (.builtin "sorted") [.ref r] [(Str.ofString "key", .ref f)]) Q E s0 := by
  refine call_function_entry_kw kind_sorted plain_sorted entry_sorted (ksk_s1 _ _) ?_
  unfold Builtin.«sorted»
  refine wpAny_bind (m := checkCount "sorted" 1 1 _) (wpAny_pure ?_)
  refine wpAny_bind (collect_src K hh hok hn fun h' tk acc hk hs hi => ?_)
  have rv := hv acc hi
  have al : acc.toList.length = xs.length := rv.length.symm
  refine wpAny_bind (wpAny_newList ?_ (by rw [al]; exact hz))
  have hoL : (h'.push (seqObj "list" acc.toList.toArray 0)).get? h'.objs.size = some (seqObj "list" acc.toList.toArray 0) := Heap.get?_push_size _ rfl
  show wpAny _ _ _ _ _ { s0 with heap := h'.push (seqObj "list" acc.toList.toArray 0), toks := tk }
  refine wpAny_bind (wpAny_holding (wpAny_call_entry_kw slot_list_sort ⟨_, hoL, rfl⟩ entry_list_sort ?body (ksk_l1 _ _)))
  case body =>
    show wpAny (model X.prog X.w) X.A.in1.in1 (Builtin.«list.sort» ⟨[.ref h'.objs.size], [(Str.ofString "key", .ref f)]⟩) _ _ _
    rw [ksk_t1]
    refine wpAny_mono (sort_tree_I (E := fun _ _ => False) I0 rv hz (fun b o e => Heap.get?_push_of_some _ (hk b o e)) hoL hs hf hfd hfp hal hsk hu turn (Q := Q) fun out c s' H' I' S' e1 e2 e3 => fin _ out c s' H' I' S' hs e1 e2 e3) (fun fr s' hf => ?_) fun _ _ e => e.elim
    obtain ⟨rfl, hq⟩ := hf
    exact ⟨_, rfl, wpAny_pure ⟨_, rfl, hq⟩⟩
end
end Ask

set_option Elab.async false
set_option linter.all false
set_option maxRecDepth 100000
set_option maxHeartbeats 4000000
namespace Ask
open PySem PySem.Spec PyProof.Rows L2 LamX
/-! a lambda with parameters that captures nothing: its making, its calls -/
theorem clo_none : ∀ {cells : List (Str × Addr)} {names : List (Str × NameKind)} {acc : List (Str × Addr)}, (∀ y ∈ names, y.2 ≠ .free) → cloFrom cells names acc = acc
  | _, [], _, _ => rfl
  | cells, (n, k) :: r, acc, h => by
    unfold cloFrom
    rw [if_neg (fun c => h (n, k) List.mem_cons_self (by simpa using c))]
    exact clo_none fun y hy => h y (List.mem_cons_of_mem _ hy)
theorem no_fr {X : Cx} {pins : List (Addr × Obj)} {σ : L2.St} {H : Hp} {s : Shared} (I : Inv X pins σ H s) {b : Addr} (hb : s.heap.objs.size ≤ b) : b ∉ frs X.stack := fun z => by
  rcases List.mem_cons.mp (I.stkSub _ z) with e | e
  · rw [e] at hb
    exact absurd I.lt (Nat.not_lt_of_le hb)
  · exact I.nofs hb e
/-- the lambda's object -/
abbrev lamO (q : Str) (params : Arguments) (body : Expr) (scope : Scope) (pm : Value) (c' : Addr) (ctv : Value) : Obj := PySem.W.kla_obj "<lambda>" q params body scope [] pm c' ctv
section
variable {X : Cx} {pins : List (Addr × Obj)} {σ : L2.St} {H : Hp} {s : Shared}
/-- it is made: nothing that stood has changed but its table -/
theorem lam_new {T : List (Addr × Str)} {c P : Addr} {params : Arguments} {body : Expr} {scope : Scope} {pos : Pos} {E : Value → Shared → Prop} {Q : Value → Shared → Prop} (I : Inv X pins σ H s) (TB : TabB X.base X.mg c P) (hcode : X.env.code = .ref c)
    (hm : (P, X.env.qual ++ "<lambda>") ∈ T) (hu : ∀ p ∈ T, p.1 = P → p.2 = X.env.qual ++ "<lambda>") (hT : Tabs T H) (hdef : defaultsOf params X.env = ([], [])) (hfree : ∀ y ∈ scope.names, y.2 ≠ .free)
    (h : ∀ (f c' : Addr) (pm ctv : Value) (H1 : Hp) (s' : Shared), s.heap.objs.size ≤ f → Inv X pins σ H1 s' → ExtN H H1 → Tabs T H1 → s'.heap.get? f = some (lamO (X.env.qual ++ "<lambda>") params body scope pm c' ctv) → H1 f = none → H1 c' = some (CodeO c' (X.env.qual ++ "<lambda>")) → (∀ b, H b = none → b ≠ c' → H1 b = none) → Q (.ref f) s') :
    wpAny (model X.prog X.w) X.A (eval (.Lambda params body scope pos) X.env) Q E s := by
  obtain ⟨ps, tP, tOk, tAll⟩ := hT _ hm
  have clo : closureFor scope X.env = pure [] := by
    rw [closure_ok (fun y hy e => absurd e (hfree y hy)), clo_none hfree]
  have bP := TB.bm.keeps I.bk
  have oP : s.heap.get? P = some { cls := .none, data := .fields ps } := I.hok P _ tP
  have gl := I.mod.glob.keeps I.bk
  refine PySem.W.kla_eval hdef ?_
  rcases hc : codeAmong pos ps.toList with _ | cv
  · refine PySem.W.kla_makeFunction (mg := X.mg) (c := c) (P := P) (ps := ps) clo I.ok.glob gl hcode (TB.code.keeps I.bk) oP tOk hc TB.gP bP fun c' ctv g tk ext le lt rec tab => ?_
    obtain ⟨c2, oc, ws, t, rfl, hoc, hd, hw⟩ : ∃ (c2 : Addr) (oc : Obj) (ws : Array Value) (t : Tok), c' = c2 ∧ g.get? c2 = some oc ∧ oc.data = .fields ws ∧ ws[1]? = some (.str (X.env.qual ++ "<lambda>") t) := by
      obtain ⟨c2, oc, ws, t, e2, z⟩ := rec
      cases e2
      exact ⟨c', oc, ws, t, rfl, z⟩
    have nc : H c' = none := I.hok.fresh le
    have gs : s.heap.objs.size ≤ g.objs.size := Nat.le_trans le (Nat.le_of_lt lt)
    have nP : P ≠ c' := ne_of_none tP nc
    generalize hof : lamO (X.env.qual ++ "<lambda>") params body scope ((X.mg "__name__").getD .none) c' ctv = lo
    have J := inv_table (t' := tk) (more := #[rawInt pos.line, rawInt pos.col, .ref c']) (h' := g.push lo) I tP (fun b o hb e => Heap.get?_push_of_some _ (ext b o hb e)) (Heap.get?_push_of_some _ tab) le ⟨oc, ws, t, Heap.get?_push_of_some _ hoc, hd, hw⟩
    have stay : ExtN H (upd (upd H P (.tbl (ps ++ #[rawInt pos.line, rawInt pos.col, .ref c']))) c' (CodeO c' (X.env.qual ++ "<lambda>"))) := fun b o e n => by
      have bc : b ≠ c' := ne_of_none e nc
      have bP' : b ≠ P := fun z => by
        rw [z, tP] at e
        exact n ps (Option.some.inj e).symm
      rw [upd_ne bc, upd_ne bP']
      exact e
    have snoc : (ps ++ #[rawInt pos.line, rawInt pos.col, Value.ref c']).toList = ps.toList ++ [rawInt pos.line, rawInt pos.col, .ref c'] := by simp
    subst hof
    refine h g.objs.size c' _ ctv _ _ gs J stay (fun p hp => ?_) (Heap.get?_push_size _ rfl) ?_ upd_same fun b nb bc => ?_
    · by_cases hb : p.1 = P
      · have e2 := hu p hp hb
        rw [e2, hb]
        refine ⟨ps ++ #[rawInt pos.line, rawInt pos.col, .ref c'], by rw [upd_ne nP, upd_same], by rw [snoc]; exact PySem.TriplesOk_snoc _ _ _ _ tOk, fun p' cv hcv => ?_⟩
        rw [snoc] at hcv
        rcases among_app _ tOk hcv with z | z
        · obtain ⟨c0, f1, f2⟩ := tAll p' cv z
          exact ⟨c0, f1, stay _ _ f2 codeO_ne⟩
        · exact ⟨c', z, upd_same⟩
      · obtain ⟨qs, f1, f2, f3⟩ := hT p hp
        have pc : p.1 ≠ c' := ne_of_none f1 nc
        refine ⟨qs, by rw [upd_ne pc, upd_ne hb]; exact f1, f2, fun p' cv hcv => ?_⟩
        obtain ⟨c0, g1, g2⟩ := f3 p' cv hcv
        exact ⟨c0, g1, stay _ _ g2 codeO_ne⟩
    · rw [upd_ne (Nat.ne_of_gt lt), upd_ne (Nat.ne_of_gt (Nat.lt_of_lt_of_le (Heap.lt_size oP) gs))]
      exact I.hok.fresh gs
    · rw [upd_ne bc, upd_ne (fun z => by rw [z, tP] at nb; cases nb)]
      exact nb
  · obtain ⟨c', rfl, hco⟩ := tAll pos cv hc
    refine PySem.W.kla_makeFunctionHit (mg := X.mg) (c := c) (P := P) (ps := ps) clo I.ok.glob gl hcode (TB.code.keeps I.bk) oP tOk hc bP fun ctv g tk ext le => ?_
    have J : Inv X pins σ H { s with heap := g.push (lamO (X.env.qual ++ "<lambda>") params body scope ((X.mg "__name__").getD .none) c' ctv), toks := tk } := I.kept fun b o e => Heap.get?_push_of_some _ (ext b o e)
    exact h g.objs.size c' _ ctv H _ le J (ExtN.refl H) hT (Heap.get?_push_size _ rfl) (I.hok.fresh le) hco fun b nb _ => nb
end
/-- a call of it -/
theorem run_lam {P : Program} {w : World} {K : PySem.W.Frag} {mg : Str → Option Value} {base : Heap} {k : Nat} {f c' : Addr} {q : Str} {params : Arguments} {body : Expr} {scope : Scope} {pm ctv : Value} {N ps : List Str} {A : Around} {outer : List Env} {s : Shared} {H : Hp} {us : List Value} {vs : List V} {Q : VK} {E : XK}
    (ho : s.heap.get? f = some (lamO q params body scope pm c' ctv)) (hc : H c' = some (CodeO c' q)) (S : FnScope N ps scope) (hr : Room (k + 1) A) (e0 : Env0 P w K mg base A outer s H)
    (hb : bindArgs (PySem.W.kla_fn "<lambda>" q params body scope [] pm (.ref c') ctv) ⟨us, []⟩ = pure (ps.zip us)) (r : Vals vs us) (hl : vs.length = ps.length)
    (hbody : Room k (A.deeper (envOfC q scope s.heap.objs.size f (.ref c'))) → ∃ te, PE (cxOf C8.CX0 P w K mg base N q scope f (.ref c') A outer s H E) body te ∧ te (L2.start N vs) H Q) :
    codeAny (model P w) A (.call (.ref f) ⟨us, []⟩) (CR C8.CX0 outer P w H s Q E) s := by
  obtain ⟨⟨oc, ws, t, hoc, hdc, hwc⟩, _, _⟩ := e0.hok c' _ hc
  have lim : s.heap.NoLimit := e0.mod.nolimit.keeps fun b o e => (e0.bs b o e).1
  refine PySem.W.kla_callFunE hr.depth ho rfl S.co S.gen rfl ⟨c', oc, ws, t, rfl, hoc, hdc, hwc⟩ ?_
  rw [hb]
  refine wpAny_pure ?_
  have hkind : ∀ y ∈ ps.zip us, scope.names.lookup y.1 = some .local ∨ (scope.names.lookup y.1 = some .cell ∧ ((cellsFrom (s.heap.objs.size + 1) scope.names []).lookup y.1).isSome = true) := fun ⟨n, v⟩ hy => by
    rcases S.par n (List.of_mem_zip hy).1 with z | z
    · exact .inl z
    · exact .inr ⟨z, PySem.W.cellsFrom_some _ _ _ (.inl z)⟩
  refine wpAny_newFunctionEnv_cells S.kind hkind fun env he s1 x => ?_
  subst he
  refine ⟨lim.keeps x.toInCall.keep, ?_⟩
  obtain ⟨te, ht, hq⟩ := hbody (hr.deeper _)
  have I : Inv (cxOf C8.CX0 P w K mg base N q scope f (.ref c') A outer s H E) [] (L2.start N vs) H s1 := inv_start S hr.hd e0 hl r x
  refine PySem.W.kla_codeExpr (wpAny_mono (ht.run [] s1 (L2.start N vs) H Q I hq) (fun v s' hv => ?_) fun e s' hx => hx)
  obtain ⟨y, H', J, rv, z⟩ := hv
  exact ⟨y, H', J.os, J.bare, J.base, J.hok, rv, z⟩
end Ask

set_option Elab.async false
set_option linter.all false
set_option maxRecDepth 100000
set_option maxHeartbeats 4000000
namespace Ask
open PySem PySem.Spec PyProof.Rows L2 LamX
open PySem.W (AllAlike Sortable dataLe)
/-- a key's lambda: one parameter p, its body reads as te -/
structure KeyLam (P : Program) (w : World) (K : PySem.W.Frag) (mg : Str → Option Value) (base : Heap) (k : Nat) (q : Str) (params : Arguments) (body : Expr) (scope : Scope) (p : Str) (te : TE) : Prop where
  sc : FnScope [p] [p] scope
  bind : ∀ (pm cv ctv u : Value), bindArgs (PySem.W.kla_fn "<lambda>" q params body scope [] pm cv ctv) ⟨[u], []⟩ = pure [(p, u)]
  run : ∀ (f : Addr) (cd : Value) (A : Around) (outer : List Env) (s : Shared) (H : Hp), Room k (A.deeper (envOfC q scope s.heap.objs.size f cd)) → PE (cxOf C8.CX0 P w K mg base [p] q scope f cd A outer s H C8.E0).nox body te
/-- what it reads of an item: a key, with all that stood kept -/
def KeyOf (te : TE) (H0 : Hp) (x : V) (d : PyData) : Prop := ∀ H', ExtN H0 H' → te [some x] H' fun y H'' => Same H' H'' ∧ KeyIs H'' y d
section
variable {X : Cx} {pins : List (Addr × Obj)} {σ : L2.St} {H : Hp} {s : Shared} {k : Nat}
theorem lam_turn {q : Str} {params : Arguments} {body : Expr} {scope : Scope} {p : Str} {te : TE} {f c' : Addr} {pm ctv v : Value} {x : V} {d : PyData} (L : KeyLam X.prog X.w X.K X.mg X.base k q params body scope p te) (hr : Room (k + 3) X.A) (I : Inv X pins σ H s)
    (ho : s.heap.get? f = some (lamO q params body scope pm c' ctv)) (hc : H c' = some (CodeO c' q)) (r : RelV x v) (hq : te [some x] H fun y H'' => Same H H'' ∧ KeyIs H'' y d) :
    wpAny (model X.prog X.w) X.A.in1.in1 (call (.ref f) [v]) (fun u s'' => ∃ y H'', Inv X pins σ H'' s'' ∧ RelV y u ∧ Same H H'' ∧ KeyIs H'' y d) (fun _ _ => False) s := by
  have e0 : Env0 X.prog X.w X.K X.mg X.base X.A.in1.in1 X.stack s H := { I.env0 with frames := I.ok.frames }
  refine wpAny_call (codeAny_mono (run_lam (N := [p]) (ps := [p]) (us := [v]) (vs := [x]) ho hc L.sc hr.in1.in1 e0 (L.bind pm (.ref c') ctv v) (.cons r .nil) rfl fun hr' => ⟨te, (L.run f (.ref c') _ _ s H hr').nox, hq⟩) fun r s' hz => ?_)
  cases r with
  | error e => exact (show False from hz).elim
  | ok fl =>
    cases fl with
    | ret u =>
      obtain ⟨y, H', I', rv, S, ky⟩ := I.after hz
      exact ⟨y, H', I', rv, S, ky⟩
    | next => exact False.elim hz
    | brk => exact False.elim hz
    | cont => exact False.elim hz
/-- sorted(d.values(), key=lambda p: body): the new list, not yet one of ours -/
theorem sort_values {T : List (Addr × Str)} {c P : Addr} {e : Expr} {td te : TE} {xs : List V} {kf : V → PyData} {params : Arguments} {body : Expr} {scope : Scope} {p : Str} {np apos cpos lpos kpos pos : Pos} {E : Value → Shared → Prop} {Q : Value → Shared → Prop}
    (hcalm : X.calm = true) (hg : Gl X "sorted") (hm : X.mg "sorted" = none) (he : PE X e td) (TB : TabB X.base X.mg c P) (hcode : X.env.code = .ref c) (hmT : (P, X.env.qual ++ "<lambda>") ∈ T) (hu : ∀ p ∈ T, p.1 = P → p.2 = X.env.qual ++ "<lambda>")
    (L : KeyLam X.prog X.w X.K X.mg X.base k (X.env.qual ++ "<lambda>") params body scope p te) (hr : Room (k + 3) X.A) (hdef : defaultsOf params X.env = ([], []))
    (hbase : attributeBase e "values" X.env (eval e X.env) = eval e X.env) (hline : (apos.endLine == cpos.line) = true)
    (hs : backTo pos (starEach [.Call (.Attribute e "values" apos) [] [] cpos] X.env) = [(false, eval (.Call (.Attribute e "values" apos) [] [] cpos) X.env)])
    (hk : backToKw pos (keywordEach [⟨some (Str.ofString "key"), .Lambda params body scope lpos, kpos⟩] X.env) = [(some (Str.ofString "key"), do let v ← eval (.Lambda params body scope lpos) X.env; standAt pos; pure v)])
    (I : Inv X pins σ H s) (hT : Tabs T H) (hx : X.xe = E)
    (hrd : td σ H fun v H1 => ∃ (d : Addr) (kvs : List (Key × V)), v = .ref d ∧ Same H H1 ∧ H1 d = some (.dK kvs) ∧ kvs.length ≤ 64 ∧ xs = kvs.map (·.2))
    (hal : AllAlike (xs.map kf)) (hsk : Sortable (xs.map kf)) (hdp : ∀ x ∈ xs, (kf x).depth ≤ 8) (hkey : ∀ x ∈ xs, KeyOf te H x (kf x))
    (h : ∀ (a : Addr) (out : List Value) (n : Nat) (s' : Shared) (H' : Hp), Inv X pins σ H' s' → ExtN H H' → Tabs T H' → s'.heap.get? a = some (seqObj "list" out.toArray n) → FpOk X pins H' a → Vals (xs.mergeSort (dataLe false kf)) out → Q (.ref a) s') :
    wpAny (model X.prog X.w) X.A (eval (.Call (.Name "sorted" np) [.Call (.Attribute e "values" apos) [] [] cpos] [⟨some (Str.ofString "key"), .Lambda params body scope lpos, kpos⟩] pos) X.env) Q E s := by
  subst hx
  refine wpAny_Call_Name_kw (ld_blt I hg hm (by rfl) ?_)
  refine PyProof.Rows.callWith_kw ?_ hs (by rw [hs]; rfl) (by rw [hk]; rfl) (by rw [hk]; rfl)
  rw [hs, hk]
  refine Calls.spliced_cons ?_
  refine wpAny_Call_method (T := "dict") (id := "dict.values") hbase rfl hline F.plainAttrs_dict F.slot_dict_values F.type_dict_values (thn (he.run pins s σ H _ I hrd) fun u s1 ⟨v, H1, I1, rv, d, kvs, ev, S1, hd, few, exs⟩ => ?_)
  subst ev
  obtain rfl : u = Value.ref d := rv
  obtain ⟨hz, hs0, ws, kv, hdo⟩ := I1.hok d _ hd
  obtain ⟨ep, hat⟩ := hdo.dictAt
  have lk : kvs.length = ws.length := Paired.length kv
  refine ⟨hdo.typeIs, hdo.mapOf.noDict, ?_⟩
  show wpAny _ _ (callWith cpos (.builtin "dict.values") [.ref d] [] []) _ X.xe s1
  refine method_meetsIn F.slot_dict_values F.entry_dict_values rfl (PySem.evalArgs_none ⟨rfl, hdo.typeIs, F.args_dict_values_1 _, _, meets_dict_values (mixKind X.prog X.w) d hs0, ⟨ws, hdo⟩, ?_⟩)
  refine Calls.spliced_nil ?_
  -- the view
  have vo : (s1.heap.push { cls := .type "dict_values", data := .fields #[.ref d] }).get? s1.heap.objs.size = some { cls := .type "dict_values", data := .fields #[.ref d] } := Heap.get?_push_size _ rfl
  have I2 : Inv X pins σ H1 { s1 with heap := s1.heap.push { cls := .type "dict_values", data := .fields #[.ref d] } } := I1.kept (t' := s1.toks) fun b ob q => Heap.get?_push_of_some _ q
  have fpr : FpOk X pins H1 s1.heap.objs.size := I1.fpOk (Nat.le_refl _) (I1.hok.fresh (Nat.le_refl _))
  have I3 := I2.pinned (fp := [s1.heap.objs.size]) (fun b hb => by rw [List.mem_singleton.mp hb]; exact fpr) (fun b hb => by rw [List.mem_singleton.mp hb]; exact ⟨_, vo, fun v z => by cases z⟩)
  -- the lambda
  refine wpAny_evalAll_cons (wpAny_bind (lam_new I3 TB hcode hmT hu (hT.ext fun b o e => S1 b o e) hdef (fun y hy => L.sc.nofree y hy) fun f c' pm ctv H2 s2 szf J xt T2 ho nf hco hnn => ?_))
  refine wpAny_bind (wpAny_standAt (wpAny_pure ?_))
  refine wpAny_evalAll_nil ?_
  have hd2 : H2 d = some (.dK kvs) := xt _ _ hd fun ps z => by cases z
  obtain ⟨hz2, _, ws2, kv2, hdo2⟩ := J.hok d _ hd2
  obtain ⟨ep2, hat2⟩ := hdo2.dictAt
  have lk2 : kvs.length = ws2.length := Paired.length kv2
  have vo2 := (J.pin (s1.heap.objs.size, _) (List.mem_append_right _ (List.mem_append_right _ (mem_pinsAt (List.mem_singleton.mpr rfl) vo)))).1
  have fpf := I3.fpOk szf nf
  have xl : xs.length = kvs.length := by rw [exs, List.length_map]
  have ext : ∀ {H' : Hp}, Same H2 H' → ExtN H H' := fun {H'} S => (ExtN.of fun b o e => S1 b o e).trans (xt.trans (ExtN.of fun b o e => S b o e))
  show wpAny (model X.prog X.w) X.A (call (.builtin "sorted") [.ref s1.heap.objs.size] [(Str.ofString "key", .ref f)]) Q X.xe s2
  refine sort_src_I (OK := fun h => h.IsValuesView s1.heap.objs.size d ∧ h.DictAt (mixKind X.prog X.w) d ws2 ep2) (PySem.W.kdl_values (knd := mixKind X.prog X.w) (kvs := ws2) (ep := ep2)) (J.ok.hd hcalm) ⟨⟨_, vo2, rfl, rfl⟩, hat2⟩ J (fun acc hacc => ?_) (by rw [← lk2]; exact hz2) (by rw [xl]; exact hz) ho (fun v z => by cases z) fpf hal hsk (fun x hx => ?_)
    (fun x hx v pins' s' H' rx I' S hf' => lam_turn L hr I' hf' (S _ _ hco) rx (hkey x hx H' (ext S))) (fun a out n s' H' I' S' _ e1 e2 e3 => ?_)
  · have k2 := (kv_keys kv2).2
    rw [exs]
    refine vals_of_ix ((List.length_map ..).trans (lk2.trans (hacc.1.symm.trans Array.length_toList.symm))) fun j x u e1 e2 => ?_
    obtain ⟨kk, e3⟩ := hacc.2 j u (by rw [← Array.getElem?_toList]; exact e2)
    have e4 : (ws2.map (·.2))[j]? = some u := by rw [List.getElem?_map, e3]; rfl
    obtain ⟨y, f1, f2⟩ := LiI.paired_get k2 e1
    rw [e4] at f1
    cases f1
    exact f2
  · have z1 := hr.un
    have z2 := hdp x hx
    omega
  · refine h a out n s' H' I'.unpinned (ext S') (T2.ext fun b o e => S' b o e) e1 ⟨e2.1, e2.2.1, e2.2.2.1, e2.2.2.2.1, e2.2.2.2.2.1, fun p hp => e2.2.2.2.2.2 p ?_⟩ e3
    rcases List.mem_append.mp hp with z | z
    · exact List.mem_append_left _ z
    · exact List.mem_append_right _ (List.mem_append_left _ z)
end
end Ask

set_option Elab.async false
set_option linter.all false
set_option maxRecDepth 100000
set_option maxHeartbeats 4000000
namespace Ask
open PySem PySem.Spec PyProof.Rows L2 GenW LamX
/-! a generator def whose body is «yield from» a new list, sorted: called, and its first turn, whenever that comes -/
section
variable {X : Cx} {pins : List (Addr × Obj)} {σ : L2.St} {H H' : Hp} {s s' : Shared}
theorem inv_gens (I : Inv X pins σ H s) {g' : Array GenState} (h : AllBare g') : Inv X pins σ H { s with gens := g' } := ⟨I.ok, I.os, h, I.base, I.loc, I.cell, I.free, I.freeC, I.pin, I.hok, I.len⟩
theorem inv_ghost (I : Inv X pins σ H s) : Inv X pins σ H (ghosted s) := inv_gens I fun y hy => by
  obtain ⟨x, hx, rfl⟩ := Array.mem_map.mp hy
  have z := I.bare x hx
  cases x <;> exact z
theorem inv_tied {real : Array GenState} (I : Inv X pins σ H s) (T : Tied real s s') (hb : AllBare real) : Inv X pins σ H s' := by
  rw [T.same]
  refine inv_gens I fun y hy => ?_
  obtain ⟨i, hi, e⟩ := Array.mem_iff_getElem.mp hy
  have e1 : s'.gens[i]? = some y := by rw [Array.getElem?_eq_getElem hi, e]
  have z := T.at_ i
  unfold TiedAt at z
  split at z
  · rename_i e2
    rw [z.2] at e1
    cases e1
    exact hb _ (Array.mem_of_getElem? e2)
  · rw [← z.1] at e1
    exact I.bare y (Array.mem_of_getElem? e1)
end
/-- an object of the generator's own, and the sleeper's list -/
structure OwnOk (outer : List Env) (s : Shared) (a : Addr) (pn : List (Addr × Obj)) (H' : Hp) (b : Addr) : Prop where
  none_ : H' b = none
  young : s.heap.objs.size < b
  ne : b ≠ a
  fr : b ∉ frs outer
  pin : ∀ p ∈ pn, p.1 ≠ b
/-- behind the first turn -/
structure EndW (P : Program) (w : World) (outer : List Env) (T : List (Addr × Str)) (H : Hp) (s : Shared) (xs : List V) (a : Addr) (g : Nat) (pn : List (Addr × Obj)) (e : End) (s1 : Shared) (H' : Hp) : Prop where
  os : s1.os = s.os
  bare : AllBare s1.gens
  gsz : g < s1.gens.size
  gen : s1.heap.IsGen a g
  na : H' a = none
  pins : ∀ p ∈ pn, s1.heap.get? p.1 = some p.2 ∧ H' p.1 = none
  ext : ExtN H H'
  tabs : Tabs T H'
  un : Un (frs outer) [] H H' s.heap s1.heap
  hok : HOk P w H' s1.heap
  ends : (xs = [] ∧ ∃ f, e = .ret (.ok f) ∧ (f = .ret .none ∨ f = .next)) ∨
    ∃ (it l : Addr) (us : List Value) (v : Value), (∃ gd lv k c p fs, e = .susp v gd lv k c p fs) ∧ e.quiet = true ∧ Vals xs us ∧ us[0]? = some v ∧ it ≠ l ∧ OwnOk outer s a pn H' it ∧ OwnOk outer s a pn H' l ∧ YfSt it l us 1 s1.heap ∧
      ∃ r, r + 1 = us.length ∧ Wk (model P w) it l us 1 e.genState (Turns (model P w) it l us r 1)
/-- the generator just made -/
def MadeW (P : Program) (w : World) (k : Nat) (outer : List Env) (T : List (Addr × Str)) (H : Hp) (s : Shared) (xs : List V) (u : Value) (s' : Shared) : Prop :=
  ∃ (a : Addr) (g : Nat) (c : Code), u = .ref a ∧ a = s.heap.objs.size + 1 ∧ s'.heap.objs.size = s.heap.objs.size + 2 ∧ (∀ b, b < s.heap.objs.size → s'.heap.get? b = s.heap.get? b) ∧ s'.heap.IsGen a g ∧ s'.gens[g]? = some (.fresh c) ∧ s'.os = s.os ∧ AllBare s'.gens ∧ s'.heap.NoLimit ∧ (∀ b o, s.heap.get? b = some o → s'.heap.get? b = some o) ∧
    ∀ (A : Around) (s2 : Shared) (pn : List (Addr × Obj)), Room k A → A.frames = some outer → (∀ b o, s'.heap.get? b = some o → s2.heap.get? b = some o) → s2.os = s.os → AllBare s2.gens → g < s2.gens.size → (∀ p ∈ pn, s2.heap.get? p.1 = some p.2 ∧ s'.heap.objs.size ≤ p.1 ∧ ∀ v, p.2.data ≠ .cell v) →
      Sg (model P w) A (fun e s1 => ∃ H', EndW P w outer T H s xs a g pn e s1 H') c ((model P w).den c) [] s2
structure WFn (P : Program) (w : World) (K : PySem.W.Frag) (mg : Str → Option Value) (base : Heap) (k : Nat) (f : Addr) (fd : FuncData) (ps : List Str) (T : List (Addr × Str)) (sp : List V → Hp → List V → Prop) : Prop where
  len : ∀ vs H xs, sp vs H xs → vs.length = ps.length
  run : ∀ (A : Around) (outer : List Env) (s : Shared) (H : Hp) (args : Args) (us : List Value) (vs xs : List V), Room k A → Env0 P w K mg base A outer s H → BindsTo s fd args (ps.zip us) → Vals vs us → sp vs H xs → Tabs T H →
    codeAny (model P w) A (.call (.ref f) args) (fun r s' => match r with | .ok (.ret u) => MadeW P w k outer T H s xs u s' | _ => False) s
theorem cells_none : ∀ {n : Nat} {names : List (Str × NameKind)} {acc : List (Str × Addr)}, (∀ y ∈ names, y.2 ≠ .cell) → cellsFrom n names acc = acc
  | _, [], _, _ => rfl
  | n, (x, k) :: r, acc, h => by
    unfold cellsFrom
    rw [if_neg (fun c => h (x, k) List.mem_cons_self (by simpa using c))]
    exact cells_none fun y hy => h y (List.mem_cons_of_mem _ hy)
theorem bindL_rev {kindOf : Str → Option NameKind} {y : Str} : ∀ (binds : List (Str × Value)) (m : Str → Option Value), (∀ z ∈ binds, kindOf z.1 = some .local) → bindL kindOf binds m y = (binds.reverse.lookup y).or (m y)
  | [], m, _ => rfl
  | (n, v) :: r, m, h => by
    unfold bindL
    rw [if_pos (h (n, v) List.mem_cons_self), bindL_rev r _ fun z hz => h z (List.mem_cons_of_mem _ hz), List.reverse_cons, List.lookup_append]
    cases r.reverse.lookup y with
    | some u => rfl
    | none =>
      show (if y = n then some v else m y) = ((List.lookup y [(n, v)]).or (m y))
      rw [List.lookup_cons]
      by_cases e : y = n
      · subst e
        simp
      · rw [if_neg e, show (y == n) = false from by simpa using e]
        rfl
theorem wfn_of {P : Program} {w : World} {K : PySem.W.Frag} {mg : Str → Option Value} {base : Heap} {k : Nat} {f : Addr} {name qual : Str} {params : Arguments} {e : Expr} {yp pos : Pos} {scope : Scope} {dV kV doc pm cdv ct oc : Value} {an od : Option Addr}
    {osl : Array (Option Value)} {N ps : List Str} {T : List (Addr × Str)} {sp : List V → Hp → List V → Prop} (lk : K.lookup f = some ⟨oc, od, .func (PySem.W.fnOf name qual params [.Expr (.YieldFrom e yp) pos] scope dV kV doc pm an cdv ct), osl⟩) (hcd : PySem.W.codeIn K cdv qual = true) (S : GScope N ps scope) (nocell : ∀ y ∈ scope.names, y.2 ≠ .cell)
    (len : ∀ vs H xs, sp vs H xs → vs.length = ps.length) (hint : ∀ (A : Addr) (s : Shared), interactive (envOfC qual scope s.heap.objs.size A cdv) = false)
    (hbody : ∀ (A : Around) (outer : List Env) (s s2 : Shared) (H : Hp) (vs xs : List V) (pn : List (Addr × Obj)), Room k (A.deeper (envOfC qual scope s.heap.objs.size f cdv)) → sp vs H xs → Tabs T H → Inv (gcxOf P w K mg base N qual scope f cdv A outer s H C8.E0 pn).nox [] (start N vs) H s2 →
      wpAny (model P w) (A.deeper (envOfC qual scope s.heap.objs.size f cdv)) (eval e (envOfC qual scope s.heap.objs.size f cdv)) (fun v s' => ∃ (l : Addr) (out : List Value) (n : Nat) (H' : Hp), v = .ref l ∧ Inv (gcxOf P w K mg base N qual scope f cdv A outer s H C8.E0 pn).nox [] (start N vs) H' s' ∧ ExtN H H' ∧ Tabs T H' ∧
        s'.heap.get? l = some (seqObj "list" out.toArray n) ∧ FpOk (gcxOf P w K mg base N qual scope f cdv A outer s H C8.E0 pn).nox [] H' l ∧ Vals xs out) (fun _ _ => False) s2) :
    WFn P w K mg base (k + 1) f (PySem.W.fnOf name qual params [.Expr (.YieldFrom e yp) pos] scope dV kV doc pm an cdv ct) ps T sp := by
  refine ⟨len, fun A outer s H args us vs xs hr e0 hb r hsp hT => ?_⟩
  have hl := len _ _ _ hsp
  have KX : K.In s.heap := e0.mod.kin.keeps fun b o e => (e0.bs b o e).1
  have lim : s.heap.NoLimit := e0.mod.nolimit.keeps fun b o e => (e0.bs b o e).1
  have hcf : cellsFrom (s.heap.objs.size + 1) scope.names [] = [] := cells_none nocell
  have hloc : ∀ y ∈ ps.zip us, scope.names.lookup y.1 = some .local := fun ⟨n, v⟩ hy => by
    rcases S.par n (List.of_mem_zip hy).1 with q | q
    · exact q
    · exact absurd rfl (nocell _ (PySem.mem_of_lookup q))
  refine codeAny_call_generator hr.depth (KX _ _ lk) rfl S.co S.gen rfl (PySem.W.codeRec_of KX hcd) (hb _ _ _ _ ?_)
  refine wpAny_newFunctionEnv nocell hloc (fun h₁ hns hsb => ?_) S.kind
  have hsz : h₁.objs.size = s.heap.objs.size + 1 := by
    have z := hsb.1
    rw [Heap.size_push] at z
    exact z
  have agree : ∀ b, b < s.heap.objs.size → h₁.get? b = s.heap.get? b := fun b hb => by
    rw [hsb.2 b (Nat.ne_of_lt hb), Heap.get?_push_ne _ _ _ (Nat.ne_of_lt hb)]
  have henv : newEnv scope s.heap.objs.size mainGlobals [] (qual ++ ".<locals>.") (some f) cdv none builtinsNs = envOfC qual scope s.heap.objs.size f cdv := by
    unfold envOfC
    rw [hcf]
    rfl
  generalize hs1 : ({ s with heap := h₁, toks := s.toks + (ps.zip us).length } : Shared) = s1
  have hh1 : s1.heap = h₁ := by rw [← hs1]
  have x : InCallC s s.heap.objs.size (bindL (envOfC qual scope s.heap.objs.size f cdv).kindOf (ps.zip us) fun _ => none) (cellsFrom (s.heap.objs.size + 1) scope.names []) (bindC (envOfC qual scope s.heap.objs.size f cdv).kindOf (ps.zip us) fun _ => none) s1 := by
    rw [hcf, ← hs1]
    refine ⟨⟨⟨_, _, rfl⟩, ?_, fun b o e => ?_, Nat.le_refl _⟩, fun n c e => (nomatch e), List.Pairwise.nil, fun n c hm => (nomatch hm)⟩
    · obtain ⟨o, es, ep, e1, e2, e3, e4⟩ := hns
      refine ⟨o, es, ep, e1, e2, e3, fun name => ?_⟩
      rw [e4, bindL_rev (ps.zip us) (fun _ => none) fun y hy => hloc y hy]
      show (ps.zip us).reverse.lookup name = _
      cases (ps.zip us).reverse.lookup name <;> rfl
    · show h₁.get? b = some o
      rw [agree b (Heap.lt_size e)]
      exact e
  have lim1 : s1.heap.NoLimit := lim.keeps x.toInCall.keep
  refine ⟨lim1, ?_⟩
  obtain ⟨h1, tk, es1, hk1⟩ := x.done
  have os1 : s1.os = s.os := by rw [es1]
  have gen1 : s1.gens = s.gens := by rw [es1]
  have lt1 : s.heap.objs.size < s1.heap.objs.size := x.toInCall.ns.lt
  have kp1 : ∀ b o, s.heap.get? b = some o → s1.heap.get? b = some o := x.toInCall.keep
  have main : ∀ (go : Obj) (nm qn : Value) (tk2 : Nat), go.cls = .type "generator" → go.data = .fields #[.int s1.gens.size 0, nm, qn] → go.slots = #[] → (∀ h : Heap, (h.push go).get? h.objs.size = some go) →
      MadeW P w (k + 1) outer T H s xs (.ref s1.heap.objs.size) { s1 with gens := s1.gens.push (.fresh (.func [.Expr (.YieldFrom e yp) pos] (envOfC qual scope s.heap.objs.size f cdv))), toks := tk2, heap := s1.heap.push go } := by
    intro go nm qn tk2 hgc hgd0 hgs hgp
    have hgen : ∀ h : Heap, h.get? s1.heap.objs.size = some go → h.IsGen s1.heap.objs.size s1.gens.size := fun h e => ⟨go, nm, qn, e, hgc, hgd0, hgs⟩
    have hpushed : (s1.heap.push go).get? s1.heap.objs.size = some go := hgp _
    refine ⟨s1.heap.objs.size, s1.gens.size, _, rfl, by rw [hh1]; exact hsz, by rw [Heap.size_push, hh1, hsz], fun b hb => by rw [Heap.get?_push_ne _ _ _ (Nat.ne_of_lt (Nat.lt_trans hb lt1)), hh1]; exact agree b hb, hgen _ hpushed, Array.getElem?_push_size .., os1, ?_, lim1.keeps fun b o e => Heap.get?_push_of_some _ e, fun b o e => Heap.get?_push_of_some _ (kp1 b o e), ?_⟩
    · exact AllBare.push (by rw [gen1]; exact e0.bare) rfl
    intro Aw s2 pn hrw hfr hk2 hos hba hgz hpn
    have e0w : Env0 P w K mg base Aw outer s H := ⟨hfr, e0.mod, e0.bs, e0.bsz, e0.funs, e0.frf, e0.hok, e0.bare⟩
    have I1 : Inv (gcxOf P w K mg base N qual scope f cdv Aw outer s H C8.E0 []) [] (start N vs) H s1 := inv_startG S hrw.hd e0w hl r x
    have kp2 : ∀ b o, s1.heap.get? b = some o → s2.heap.get? b = some o := fun b o e => hk2 b o (Heap.get?_push_of_some _ e)
    have I2 : Inv (gcxOf P w K mg base N qual scope f cdv Aw outer s H C8.E0 []) [] (start N vs) H s2 :=
      I1.call' (ch := []) (hos.trans os1.symm) (Un.kept kp2) (I1.hok.kept kp2) hba fun b z => by simp at z
    have hea : s2.heap.get? s1.heap.objs.size = some go := hk2 s1.heap.objs.size go hpushed
    have hgd : ∀ v, go.data ≠ .cell v := fun v q => by rw [hgd0] at q; cases q
    have I3 : Inv (gcxOf P w K mg base N qual scope f cdv Aw outer s H C8.E0 ((s1.heap.objs.size, go) :: pn)) [] (start N vs) H s2 := by
      refine Inv.pinnedG I2 fun p hp => ?_
      rw [List.append_nil] at hp
      rcases List.mem_cons.mp hp with hp | hp
      · rw [hp]
        exact ⟨hea, I1.hok.fresh (Nat.le_refl _), Nat.ne_of_gt lt1, I1.nofs (Nat.le_refl _), hgd⟩
      · obtain ⟨p1, p2, p3⟩ := hpn p hp
        have ge : s1.heap.objs.size ≤ p.1 := Nat.le_trans (by rw [Heap.size_push]; exact Nat.le_succ _) p2
        exact ⟨p1, I1.hok.fresh ge, Nat.ne_of_gt (Nat.lt_of_lt_of_le lt1 ge), I1.nofs ge, p3⟩
    have I4 : Inv (gcxOf P w K mg base N qual scope f cdv Aw outer s H C8.E0 ((s1.heap.objs.size, go) :: pn)).nox [] (start N vs) H s2 := I3.wish _
    refine sg_walk hrw.hd (hint f s) (wpAny_mono (ghost_any (hbody Aw outer s (ghosted s2) H vs xs _ (hrw.deeper _) hsp hT (inv_ghost I4)) (ghosted_tied s2)) (fun v s' hv => ?_) fun _ _ ⟨_, _, z⟩ => z)
    obtain ⟨s0', TT, l, out, n, H', rfl, J0, xt, T', hl0, fl, rv⟩ := hv
    have J := inv_tied J0 TT hba
    have hl' : s'.heap.get? l = some (seqObj "list" out.toArray n) := by rw [TT.heap]; exact hl0
    have gz : s1.gens.size < s'.gens.size := by rw [← TT.size]; exact Nat.lt_of_lt_of_le hgz TT.big
    refine ⟨l, out, n, rfl, hl', fun e' s'' ht => ⟨H', ?_⟩⟩
    -- the list's iterator
    have J2 : Inv (gcxOf P w K mg base N qual scope f cdv Aw outer s H C8.E0 ((s1.heap.objs.size, go) :: pn)).nox [] (start N vs) H' { s' with heap := s'.heap.push { cls := .type "list_iterator", data := .fields #[.ref l, .int 0 0] } } := J.kept (t' := s'.toks) fun b o eb => Heap.get?_push_of_some _ eb
    have fi := J.fpOk (H' := H') (b := s'.heap.objs.size) (Nat.le_refl _) (J.hok.fresh (Nat.le_refl _))
    have lts : s.heap.objs.size < s'.heap.objs.size := J.lt
    have gin : ((s1.heap.objs.size, go) : Addr × Obj) ∈ ((s1.heap.objs.size, go) :: pn) ++ [] := List.mem_append_left _ List.mem_cons_self
    have own : ∀ b, FpOk (gcxOf P w K mg base N qual scope f cdv Aw outer s H C8.E0 ((s1.heap.objs.size, go) :: pn)).nox [] H' b → OwnOk outer s s1.heap.objs.size pn H' b := fun b q => by
      obtain ⟨q0, q1, q2, q3, q4, q5⟩ := q
      refine ⟨q0, ?_, fun z => q5 _ gin z.symm, q2, fun p hp => q5 p (List.mem_append_left _ (List.mem_cons_of_mem _ hp))⟩
      rcases q3 with z | z
      · exact absurd (show b ∈ ([] : List Addr) from z) (by simp)
      · exact Nat.lt_of_le_of_ne z (Ne.symm q1)
    have fin : ∀ {s3 : Shared}, KeptBut s'.heap.objs.size { s' with heap := s'.heap.push { cls := .type "list_iterator", data := .fields #[.ref l, .int 0 0] } } s3 →
        ((xs = [] ∧ ∃ f, e' = .ret (.ok f) ∧ (f = .ret .none ∨ f = .next)) ∨ ∃ (it l : Addr) (us : List Value) (v : Value), (∃ gd lv k c p fs, e' = .susp v gd lv k c p fs) ∧ e'.quiet = true ∧ Vals xs us ∧ us[0]? = some v ∧ it ≠ l ∧ OwnOk outer s s1.heap.objs.size pn H' it ∧ OwnOk outer s s1.heap.objs.size pn H' l ∧ YfSt it l us 1 s3.heap ∧
          ∃ r, r + 1 = us.length ∧ Wk (model P w) it l us 1 e'.genState (Turns (model P w) it l us r 1)) → EndW P w outer T H s xs s1.heap.objs.size s1.gens.size pn e' s3 H' := fun {s3} kb en => by
      have J3 : Inv (gcxOf P w K mg base N qual scope f cdv Aw outer s H C8.E0 ((s1.heap.objs.size, go) :: pn)).nox [] (start N vs) H' s3 := by
        rw [kb.same]
        exact J2.turnedL (t' := s3.toks) (ch := [s'.heap.objs.size]) (fun b o hb eb => kb.kept b o (fun z => hb (by simp [z])) eb) fun b hb => by rw [List.mem_singleton.mp hb]; exact fi
      have pn3 : ∀ p ∈ (s1.heap.objs.size, go) :: pn, s3.heap.get? p.1 = some p.2 ∧ H' p.1 = none := fun p hp => by
        have z := J3.pin p (List.mem_append_left _ hp)
        exact ⟨z.1, z.2.1⟩
      exact ⟨J3.os, J3.bare, by rw [kb.same]; exact gz, hgen _ (pn3 _ List.mem_cons_self).1, (pn3 _ List.mem_cons_self).2, fun p hp => pn3 p (List.mem_cons_of_mem _ hp), xt, T', J3.base, J3.hok, en⟩
    cases rv with
    | nil =>
      obtain ⟨hf, kb⟩ := ht
      exact fin kb (.inl ⟨rfl, hf⟩)
    | @cons x v xs' us' r1 r2 =>
      obtain ⟨v', he', hq', hv', hst, kb, hw⟩ := ht
      exact fin kb (.inr ⟨_, l, _, v', he', hq', .cons r1 r2, hv', Nat.ne_of_gt (Heap.lt_size hl'), own _ fi, own _ fl, hst, us'.length, rfl, hw⟩)
  have z := main { cls := .type "generator", data := .fields #[.int s1.gens.size 0, .str name s1.toks, .str qual (s1.toks + 1)] } _ _ (s1.toks + 1 + 1) rfl rfl rfl fun h => Heap.get?_push_size _ rfl
  rw [← henv] at z
  exact z
end Ask

set_option Elab.async false
set_option linter.all false
set_option maxRecDepth 100000
set_option maxHeartbeats 4000000
namespace Ask
open PySem PySem.Spec PyProof.Rows L2 GenW LamX
/-! a comprehension over a sorted generator -/
section
variable {X : Cx} {pins : List (Addr × Obj)} {σ : L2.St} {H H' : Hp} {s s' : Shared}
/-- tables may have grown, else nothing has changed -/
def Stp (T : List (Addr × Str)) (H H' : Hp) : Prop := ExtN H H' ∧ (Tabs T H → Tabs T H')
theorem Stp.refl (T : List (Addr × Str)) (H : Hp) : Stp T H H := ⟨ExtN.refl H, id⟩
theorem addr_four {b n : Nat} (n1 : b ≠ n) (n2 : b ≠ n + 1) (n3 : b ≠ n + 2) (h : n ≤ b) (lt : b < n + 4) : b = n + 3 := by omega
theorem addr_three {b n : Nat} (h : n < b) (n1 : b ≠ n + 1) (n2 : b ≠ n + 2) : n + 3 ≤ b := by omega
/-- a later turn -/
theorem next_later {xs : List V} {a it l : Addr} {g i r : Nat} {us : List Value} {gs : GenState} {E : Value → Shared → Prop} (I : Inv X pins σ H s) (hh : X.A.handled = none) (room : X.A.depth < recursionLimit) (hg : s.heap.IsGen a g) (hgs : s.gens[g]? = some gs)
    (na : a ≠ it) (st : YfSt it l us i s.heap) (hr : i + r = us.length) (hw : Wk (model X.prog X.w) it l us i gs (Turns (model X.prog X.w) it l us r i)) (fit : FpOk X pins H it) :
    wpAny (model X.prog X.w) X.A (pyNext (.ref a)) (fun o s1 => (o = none ∧ r = 0 ∧ Inv X pins σ H s1) ∨ ∃ v r' gs', o = some v ∧ r = r' + 1 ∧ us[i]? = some v ∧ Inv X pins σ H s1 ∧ s1.heap.IsGen a g ∧ s1.gens[g]? = some gs' ∧ YfSt it l us (i + 1) s1.heap ∧
      Wk (model X.prog X.w) it l us (i + 1) gs' (Turns (model X.prog X.w) it l us r' (i + 1)) ∧ ∀ b o, b ≠ it → s.heap.get? b = some o → s1.heap.get? b = some o) E s := by
  have gl : g < s.gens.size := (Array.getElem?_eq_some_iff.mp hgs).1
  refine next_genS (Φ := Turns (model X.prog X.w) it l us r i (s.setGen g .running)) hh I.nolimit room hg hgs ?_ (fun v gd lv k c p fs s1 hΦ => ?_) (fun f s1 hΦ => ?_) (fun e s1 hΦ => ?_)
  · obtain ⟨k, lv, c, p, fs, cl, rfl, _, go⟩ := hw
    exact go X.A.in1 _ hh st
  · cases r with
    | zero => obtain ⟨⟨f, e, _⟩, _⟩ := hΦ; cases e
    | succ r =>
      obtain ⟨v', ⟨gd', lv', k', c', p', fs', e⟩, hq, hv, st', kb, hw'⟩ := hΦ
      cases e
      refine ⟨hq, .inr ⟨v, r, _, rfl, rfl, hv, ?_, ?_, ?_, st', hw', kb.kept⟩⟩
      · have J : Inv X pins σ H { s with heap := s1.heap, toks := s1.toks } := I.turnedL (ch := [it]) (fun b o hb eb => kb.kept b o (fun z => hb (by simp [z])) eb) fun b hb => by rw [List.mem_singleton.mp hb]; exact fit
        have e1 : s1 = { s.setGen g .running with heap := s1.heap, toks := s1.toks } := kb.same
        rw [e1]
        refine inv_gens J (g' := ((s.gens.setIfInBounds g .running).setIfInBounds g (.suspended k lv c p fs (gd || fs.any Frame.guarded)))) ?_
        exact allBare_setGen (s := s.setGen g .running) (allBare_setGen I.bare rfl) (End.bare_of_quiet hq)
      · obtain ⟨o, nm, qn, ho, z⟩ := hg
        exact ⟨o, nm, qn, kb.kept _ o na ho, z⟩
      · refine setGen_at ?_
        rw [kb.same]
        show g < (s.gens.setIfInBounds g .running).size
        rw [Array.size_setIfInBounds]
        exact gl
  · cases r with
    | zero =>
      obtain ⟨⟨f', e, hf⟩, kb⟩ := hΦ
      cases e
      refine ⟨hf, fun h' hk => .inl ⟨rfl, rfl, ?_⟩⟩
      have J : Inv X pins σ H { s with heap := h', toks := s1.toks } := I.turnedL (ch := [it]) (fun b o hb eb => hk b o (kb.kept b o (fun z => hb (by simp [z])) eb)) fun b hb => by rw [List.mem_singleton.mp hb]; exact fit
      have e1 : s1 = { s.setGen g .running with heap := s1.heap, toks := s1.toks } := kb.same
      rw [e1]
      exact inv_gens J (g' := ((s.gens.setIfInBounds g .running).setIfInBounds g .finished)) (allBare_setGen (s := s.setGen g .running) (allBare_setGen I.bare rfl) rfl)
    | succ r =>
      obtain ⟨v', ⟨gd', lv', k', c', p', fs', e⟩, _⟩ := hΦ
      cases e
  · cases r with
    | zero => obtain ⟨⟨f, e, _⟩, _⟩ := hΦ; cases e
    | succ r => obtain ⟨v', ⟨gd', lv', k', c', p', fs', e⟩, _⟩ := hΦ; cases e
/-- the first turn, just behind the block's start: D the new list, C the block's names -/
theorem next_first {outer : List Env} {T : List (Addr × Str)} {H1 : Hp} {sc : Shared} {xs : List V} {a D C : Addr} {oC : Obj} {g : Nat} {c : Code} {E : Value → Shared → Prop} (I : Inv X [] σ (upd H1 D (.lst [])) s) (hpn : X.pn = []) (hst : X.stack = outer) (hfs : X.fs = frs outer) (hh : X.A.handled = none) (room : X.A.depth < recursionLimit)
    (ea : a = sc.heap.objs.size + 1) (eD : D = sc.heap.objs.size + 2) (eC : C = sc.heap.objs.size + 3) (sz : s.heap.objs.size = sc.heap.objs.size + 4) (low : ∀ b, b < sc.heap.objs.size → s.heap.get? b = sc.heap.get? b) (os : s.os = sc.os)
    (hD : s.heap.get? D = some (seqObj "list" #[] 0)) (hC : s.heap.get? C = some oC) (fresh : ∀ b, sc.heap.objs.size ≤ b → H1 b = none) (hT : Tabs T H1)
    (hg : s.heap.IsGen a g) (hgs : s.gens[g]? = some (.fresh c)) (eL : X.env.locals = C) (cells : ∀ x c, X.env.cells.lookup x = some c → c < sc.heap.objs.size) (hex : ∀ b ∈ [sc.heap.objs.size, a], b ∈ X.ex) (s0 : X.s_0.heap.objs.size ≤ sc.heap.objs.size + 3) (nfC : C ∉ frs outer)
    (wake : Sg (model X.prog X.w) X.A.in1 (fun e s1 => ∃ Hw, EndW X.prog X.w outer T H1 sc xs a g [(D, seqObj "list" #[] 0), (C, oC)] e s1 Hw) c ((model X.prog X.w).den c) [] (s.setGen g .running)) :
    wpAny (model X.prog X.w) X.A (pyNext (.ref a)) (fun o s1 => ∃ H', ExtN (upd H1 D (.lst [])) H' ∧ Tabs T H' ∧ Inv X [] σ H' s1 ∧ H' a = none ∧ ((o = none ∧ xs = []) ∨ ∃ (it l : Addr) (us : List Value) (v : Value) (gs : GenState) (r : Nat), o = some v ∧ Vals xs us ∧ us[0]? = some v ∧ a ≠ it ∧ a ≠ l ∧ it ≠ l ∧ FpOk X [] H' it ∧ FpOk X [] H' l ∧
      s1.heap.IsGen a g ∧ s1.gens[g]? = some gs ∧ YfSt it l us 1 s1.heap ∧ 1 + r = us.length ∧ Wk (model X.prog X.w) it l us 1 gs (Turns (model X.prog X.w) it l us r 1))) E s := by
  have Dsz : sc.heap.objs.size ≤ D := by rw [eD]; exact Nat.le_add_right _ _
  have Csz : sc.heap.objs.size ≤ C := by rw [eC]; exact Nat.le_add_right _ _
  have aD : a ≠ D := by rw [ea, eD]; exact Nat.ne_of_lt (Nat.lt_succ_self _)
  have DC : D ≠ C := by rw [eD, eC]; exact Nat.ne_of_lt (Nat.lt_succ_self _)
  have step : ∀ {e : End} {s1 : Shared} {Hw : Hp} {h' : Heap} {g' : Array GenState}, EndW X.prog X.w outer T H1 sc xs a g [(D, seqObj "list" #[] 0), (C, oC)] e s1 Hw → (∀ b o, s1.heap.get? b = some o → h'.get? b = some o) → AllBare g' →
      ExtN (upd H1 D (.lst [])) (upd Hw D (.lst [])) ∧ Tabs T (upd Hw D (.lst [])) ∧ Inv X [] σ (upd Hw D (.lst [])) { s1 with heap := h', gens := g' } := fun {e s1 Hw h' g'} W hk hb => by
    have pD := W.pins _ List.mem_cons_self
    have pC := W.pins _ (List.mem_cons_of_mem _ List.mem_cons_self)
    have wD : Hw D = none := pD.2
    have hokw := W.hok.kept hk
    have unw : Un (frs outer) [] H1 Hw sc.heap h' := W.un.trans (Un.kept hk)
    have sameD : ∀ b u, Hw b = some u → upd Hw D (.lst []) b = some u := fun b u e => by rw [upd_ne (ne_of_none e wD)]; exact e
    refine ⟨fun b o e n => ?_, W.tabs.ext sameD, ?_⟩
    · by_cases hb : b = D
      · rw [hb, upd_same] at e ⊢
        exact e
      · rw [upd_ne hb] at e ⊢
        exact W.ext b o e n
    · have hokD : HOk X.prog X.w (upd Hw D (.lst [])) h' := hokw.laidN (fun _ _ e => e) wD ⟨Nat.zero_le _, [], 0, .nil, hk _ _ pD.1⟩
      refine I.call' (s' := { s1 with heap := h', gens := g' }) (ch := [sc.heap.objs.size, a]) (W.os.trans os.symm) ?_ hokD hb fun b hb => ?_
      · have inlow : ∀ {b : Addr} {o : Obj}, s.heap.get? b = some o → b ∉ [sc.heap.objs.size, a] → b < sc.heap.objs.size ∨ b = D ∨ b = C := fun {b o} e hb => by
          have lt := Heap.lt_size e
          rw [sz] at lt
          simp only [List.mem_cons, List.not_mem_nil, or_false, not_or] at hb
          rcases Nat.lt_or_ge b sc.heap.objs.size with z | z
          · exact .inl z
          · have n1 : b ≠ sc.heap.objs.size := hb.1
            have n2 : b ≠ sc.heap.objs.size + 1 := fun z => hb.2 (z.trans ea.symm)
            have lt' : b < sc.heap.objs.size + 4 := lt
            have z' : sc.heap.objs.size ≤ b := z
            by_cases c2 : b = sc.heap.objs.size + 2
            · exact .inr (.inl (c2.trans eD.symm))
            · refine .inr (.inr (Eq.trans ?_ eC.symm))
              generalize sc.heap.objs.size = n at n1 n2 lt' z' c2
              have b' : Nat := b
              exact addr_four n1 n2 c2 z' lt'
        have at1 : ∀ {b : Addr}, b ≠ D → (upd H1 D (.lst []) b = H1 b) ∧ (upd Hw D (.lst []) b = Hw b) := fun {b} hb => ⟨upd_ne hb, upd_ne hb⟩
        rw [hst]
        refine ⟨fun b o e n hf hc => ?_, fun b o e n hf hc => ?_, fun b o e n hc => ?_, fun b o e hc => ?_, fun b ys e => ?_, fun b o u e => ?_, fun b ps e => ?_⟩
        · rcases inlow e hc with z | rfl | rfl
          · have hb : b ≠ D := fun q => by rw [q] at z; exact absurd z (Nat.not_lt_of_le Dsz)
            rw [(at1 hb).1] at n
            rw [low b z] at e
            exact unw.keep b o e n hf (by simp)
          · rw [upd_same] at n; cases n
          · rw [hC] at e
            cases e
            exact hk _ _ pC.1
        · rcases inlow e hc with z | rfl | rfl
          · have hb : b ≠ D := fun q => by rw [q] at z; exact absurd z (Nat.not_lt_of_le Dsz)
            rw [(at1 hb).1] at n
            rw [low b z] at e
            exact unw.slot b o e n hf (by simp)
          · rw [upd_same] at n; cases n
          · exact absurd hf nfC
        · rcases inlow e hc with z | rfl | rfl
          · have hb : b ≠ D := fun q => by rw [q] at z; exact absurd z (Nat.not_lt_of_le Dsz)
            rw [(at1 hb).1] at n
            rw [(at1 hb).2]
            rw [low b z] at e
            exact unw.free b o e n (by simp)
          · rw [upd_same] at n; cases n
          · rw [(at1 DC.symm).2]
            exact pC.2
        · rcases inlow e hc with z | rfl | rfl
          · rw [low b z] at e
            exact unw.there b o e (by simp)
          · exact ⟨_, hk _ _ pD.1⟩
          · exact ⟨_, hk _ _ pC.1⟩
        · by_cases hb : b = D
          · rw [hb, upd_same] at e; cases e
          · rw [(at1 hb).1] at e
            rw [(at1 hb).2]
            exact unw.tups b ys e
        · by_cases hb : b = D
          · rw [hb, upd_same] at e; cases e
          · rw [(at1 hb).1] at e
            rw [(at1 hb).2]
            exact unw.frzs b o u e
        · by_cases hb : b = D
          · rw [hb, upd_same] at e; cases e
          · rw [(at1 hb).1] at e
            rw [(at1 hb).2]
            exact unw.tbls b ps e
      · have lo : sc.heap.objs.size ≤ b ∧ b ≠ C := by
          simp only [List.mem_cons, List.not_mem_nil, or_false] at hb
          rcases hb with rfl | rfl
          · exact ⟨Nat.le_refl _, by rw [eC]; exact Nat.ne_of_lt (Nat.lt_add_of_pos_right (by decide))⟩
          · exact ⟨by rw [ea]; exact Nat.le_succ _, by rw [ea, eC]; exact Nat.ne_of_lt (Nat.add_lt_add_left (by decide) _)⟩
        refine ⟨.inl (hex b hb), by rw [eL]; exact lo.2, fun x c e z => ?_, fun p hp => ?_⟩
        · have q := cells x c e
          rw [z] at q
          exact absurd q (Nat.not_lt_of_le lo.1)
        · rw [hpn] at hp
          cases hp
  refine next_genS (Φ := fun e s1 => ∃ Hw, EndW X.prog X.w outer T H1 sc xs a g [(D, seqObj "list" #[] 0), (C, oC)] e s1 Hw) hh I.nolimit room hg hgs wake (fun v gd lv k c' p fs s1 hΦ => ?_) (fun f s1 hΦ => ?_) (fun e s1 hΦ => ?_)
  · obtain ⟨Hw, W⟩ := hΦ
    rcases W.ends with ⟨_, f, e, _⟩ | ⟨it, l, us, v', ⟨gd', lv', k', c2, p', fs', e⟩, hq, rv, hv, ne, oi, ol, st, r, er, hw⟩
    · cases e
    · cases e
      obtain ⟨x1, x2, J⟩ := step (h' := s1.heap) (g' := s1.gens.setIfInBounds g (.suspended k lv c' p fs (gd || fs.any Frame.guarded))) W (fun _ _ e => e) (allBare_setGen W.bare (End.bare_of_quiet hq))
      have own : ∀ {b : Addr}, OwnOk outer sc a [(D, seqObj "list" #[] 0), (C, oC)] Hw b → FpOk X [] (upd Hw D (.lst [])) b := fun {b} o => by
        have bD : D ≠ b := o.pin _ List.mem_cons_self
        have bC : C ≠ b := o.pin _ (List.mem_cons_of_mem _ List.mem_cons_self)
        refine ⟨by rw [upd_ne bD.symm]; exact o.none_, by rw [eL]; exact bC.symm, by rw [hfs]; exact o.fr, .inr (Nat.le_trans s0 ?_), fun x c e z => ?_, fun p hp => ?_⟩
        · have y := o.young
          have n1 : b ≠ sc.heap.objs.size + 1 := fun z => o.ne (z.trans ea.symm)
          have n2 : b ≠ sc.heap.objs.size + 2 := fun z => bD (z.trans eD.symm).symm
          exact addr_three y n1 n2
        · have q := cells x c e
          rw [z] at q
          exact absurd o.young (Nat.lt_asymm q)
        · rw [hpn] at hp
          cases hp
      exact ⟨hq, _, x1, x2, J, by rw [upd_ne aD]; exact W.na, .inr ⟨it, l, us, v, _, r, rfl, rv, hv, oi.ne.symm, ol.ne.symm, ne, own oi, own ol, W.gen, setGen_at W.gsz, st, by omega, hw⟩⟩
  · obtain ⟨Hw, W⟩ := hΦ
    rcases W.ends with ⟨ex, f', e, hf⟩ | ⟨it, l, us, v', ⟨gd', lv', k', c2, p', fs', e⟩, _⟩
    · cases e
      refine ⟨hf, fun h' hk => ?_⟩
      obtain ⟨x1, x2, J⟩ := step (h' := h') (g' := s1.gens.setIfInBounds g .finished) W hk (allBare_setGen W.bare rfl)
      exact ⟨_, x1, x2, J, by rw [upd_ne aD]; exact W.na, .inl ⟨rfl, ex⟩⟩
    · cases e
  · obtain ⟨Hw, W⟩ := hΦ
    rcases W.ends with ⟨_, f, e, _⟩ | ⟨it, l, us, v', ⟨gd', lv', k', c2, p', fs', e⟩, _⟩ <;> cases e
end
end Ask

set_option Elab.async false
set_option linter.all false
set_option maxRecDepth 100000
set_option maxHeartbeats 4000000
namespace Ask
open PySem PySem.Spec PyProof.Rows L2 GenW LamX
/-- the call of a sorted generator def under «for .. in» -/
abbrev TWk := L2.St → Hp → (List V → Hp → Prop) → Prop
structure PWI (X : Cx) (k : Nat) (T : List (Addr × Str)) (iter : Expr) (tw : TWk) : Prop where
  run : ∀ (pins : List (Addr × Obj)) (s : Shared) (σ : L2.St) (H : Hp) (R : List V → Hp → Prop), Inv X pins σ H s → tw σ H R →
    wpAny (model X.prog X.w) X.A (eval iter X.env) (fun u s' => ∃ (H1 : Hp) (sc : Shared) (xs : List V), Inv X pins σ H1 sc ∧ MadeW X.prog X.w k X.stack T H1 sc xs u s' ∧ Tabs T H1 ∧ R xs H1) X.xe s
section
variable {X : Cx} {k : Nat} {T : List (Addr × Str)} {f C : Addr} {fd : FuncData} {ps : List Str} {sp : List V → Hp → List V → Prop} {dvs : List V} {ds : List Value} {m : Str} {pos' apos : Pos} {o : Expr} {ta : TE}
theorem run_wfn {pins : List (Addr × Obj)} {σ : L2.St} {H : Hp} {s : Shared} {us : List Value} {vs xs : List V} {R : List V → Hp → Prop} {E1 : Value → Shared → Prop} (F : WFn X.prog X.w X.K X.mg X.base k f fd ps T sp) (hr : Room k X.A) (hb : Binds X.K fd ps ds) (hd : Vals dvs ds)
    (I : Inv X pins σ H s) (r : Vals vs us) (h : sp (vs ++ dvs) H xs) (hT : Tabs T H) (q : R xs H) :
    wpAny (model X.prog X.w) X.A (call (.ref f) us) (fun u s' => ∃ (H1 : Hp) (sc : Shared) (xs : List V), Inv X pins σ H1 sc ∧ MadeW X.prog X.w k X.stack T H1 sc xs u s' ∧ Tabs T H1 ∧ R xs H1) E1 s := by
  have r2 : Vals (vs ++ dvs) (us ++ ds) := r.append hd
  have hl2 : (us ++ ds).length = ps.length := by rw [← r2.length]; exact F.len _ _ _ h
  refine wpAny_call (codeAny_mono (F.run X.A X.stack s H ⟨us, []⟩ (us ++ ds) (vs ++ dvs) xs hr I.env0 (hb s us I.kIn hl2) r2 h hT) fun r s' hq => ?_)
  cases r with
  | error e => exact False.elim hq
  | ok fl =>
    cases fl with
    | ret u => exact ⟨H, s, xs, I, hq, hT, q⟩
    | next => exact False.elim hq
    | brk => exact False.elim hq
    | cont => exact False.elim hq
/-- o.m() -/
def tMethW (T : List (Addr × Str)) (C : Addr) (m : Str) (sp : List V → Hp → List V → Prop) (ta : TE) : TWk := fun σ H R => ta σ H fun x H1 => ∃ a dx fs xs, x = .ref a ∧ H1 a = some (.ins C dx fs) ∧ fs.lookup m = none ∧ Tabs T H1 ∧ sp [x] H1 xs ∧ R xs H1
theorem pw_meth0 {pl : Sem Bool} (he : PE X o ta) (c : Cls X.K C) (hm : Meth X.K C m f) (F : WFn X.prog X.w X.K X.mg X.base k f fd ps T sp) (hr : Room k X.A) (hb : Binds X.K fd ps [])
    (ht : eval (.Call (.Attribute o m apos) [] [] pos') X.env = (do
      let ov ← eval o X.env
      standAt apos.atName
      let (f, first) ← holding [ov] (getMethod ov m pl)
      callWith pos' f first (backTo pos' (starEach [] X.env)) (backToKw pos' (keywordEach [] X.env))) := by rfl) :
    PWI X k T (.Call (.Attribute o m apos) [] [] pos') (tMethW T C m sp ta) := by
  refine ⟨fun pins s σ H R I h => ?_⟩
  refine PySem.W.methodCall_KW (pl := pl) (thn (he.run pins s σ H _ I h) fun u s1 ⟨x, H1, I1, rx, a, dx, fs, xs, ex, ea, l, hT, q, r⟩ => ?_) ht
  subst ex
  obtain rfl : u = Value.ref a := rx
  refine getmeth_ok I1 ea c hm l ?_
  exact PySem.W.callWith_K0 (first := [.ref a]) I1.kIn hm.kp (run_wfn (us := [.ref a]) (vs := [.ref a]) (dvs := []) F hr hb .nil I1 (.cons rfl .nil) (by rw [List.append_nil]; exact q) hT r)
end
theorem pushCells_none : ∀ {names : List (Str × NameKind)} {h : Heap}, (∀ y ∈ names, y.2 ≠ .cell) → pushCells h names = h
  | [], _, _ => rfl
  | (n, k) :: r, h, hn => by
    unfold pushCells
    rw [if_neg (fun c => hn (n, k) List.mem_cons_self (by simpa using c))]
    exact pushCells_none fun y hy => hn y (List.mem_cons_of_mem _ hy)
theorem thnG {α : Type} {t : Sem α} {Q Q' : α → Shared → Prop} {M : Model} {A : Around} {E : Value → Shared → Prop} {real : Array GenState} {s0 s1 : Shared} (h : wpAny M A t Q (fun _ _ => False) s0) (T : Tied real s0 s1) (hQ : ∀ a s0' s1', Tied real s0' s1' → Q a s0' → Q' a s1') : wpAny M A t Q' E s1 :=
  wpAny_mono (ghost_any h T) (fun a s' ⟨s0', T', q⟩ => hQ a s0' s' T' q) fun _ _ ⟨_, _, z⟩ => z.elim
/-- asleep, i items handed out -/
structure Slept (X : Cx) (xs : List V) (a : Addr) (g i : Nat) (H : Hp) (s : Shared) (it l : Addr) (us : List Value) (gs : GenState) (r : Nat) : Prop where
  gen : s.heap.IsGen a g
  st : s.gens[g]? = some gs
  rv : Vals xs us
  nai : a ≠ it
  nal : a ≠ l
  nil_ : it ≠ l
  yf : YfSt it l us i s.heap
  len : i + r = us.length
  wk : Wk (model X.prog X.w) it l us i gs (Turns (model X.prog X.w) it l us r i)
  fa : FpOk X [] H a
  fi : FpOk X [] H it
  fl : FpOk X [] H l
section
variable {X : Cx} {k : Nat} {T : List (Addr × Str)}
def tLcW (T : List (Addr × Str)) (tw : TWk) (g : TG) (tt : TT) (te : TE) (vs : List Nat) : TE := fun σ H Q => tw σ H fun xs H1 => ∀ D, H1 D = none → ∃ W : Nat → Nat → Hp → Prop, (∃ m, W 0 m (upd H1 D (.lst []))) ∧ ∀ i m H, W i m H →
  (i = xs.length ∧ ∀ H', Stp T H H' → Q (.ref D) H') ∨ (∃ x, xs[i]? = some x ∧ ∃ Nx : Hp → Prop, (∀ H', Nx H' → ∃ m', m' < m ∧ W (i + 1) m' H') ∧ ∀ H', Stp T H H' → g x (wipe σ vs) H' fun σ2 H2 => wipe σ2 vs = wipe σ vs ∧ tt σ2 H2 fun b H3 =>
    if b = true then te σ2 H3 fun y H4 => ∃ acc, H4 D = some (.lst acc) ∧ acc.length < sizeLine ∧ Nx (upd H4 D (.lst (acc ++ [y]))) else Nx H3)
theorem lcW_core {pins : List (Addr × Obj)} {s : Shared} {σ : L2.St} {H : Hp} {Q : VK} {elt tg iter : Expr} {ifs : List Expr} {scope : Scope} {own : List (Str × Nat)} {pos pos' : Pos} {tw : TWk} {g : TG} {tt : TT} {te : TE} {use : Option (Value → Sem Unit)} {Qf : Value → Shared → Prop}
    (hc : X.calm = true) (hN : X.N.Nodup) (I : Inv X pins σ H s) (hi : PWI X k T iter tw) (hr : Room (k + 1) X.A) (ok : BlkOk X.N X.env.scope scope own) (nocell : ∀ y ∈ scope.names, y.2 ≠ .cell)
    (hg : ∀ (s : Shared) (H : Hp) (C : Addr) (cl : List (Str × Addr)) (fp : List Addr), PG (X.blk s H scope (compEnvC scope cl C X.env) fp) tg g) (ht : ∀ (s : Shared) (H : Hp) (C : Addr) (cl : List (Str × Addr)) (fp : List Addr), PTs (X.blk s H scope (compEnvC scope cl C X.env) fp) ifs tt)
    (he : ∀ (s : Shared) (H : Hp) (C : Addr) (cl : List (Str × Addr)) (fp : List Addr), PE (X.blk s H scope (compEnvC scope cl C X.env) fp) elt te) (hs : ∀ x, foldedSetIterable iter X.env x = pure x)
    (h : tLcW T tw g tt te (own.map (·.2)) σ H Q)
    (hRR : ∀ D C s' m H', Inv X pins σ H' s' → Q (.ref D) H' → s'.heap.Ns C m → FpOk X pins H' C → compPost (model X.prog X.w) X.A X.xe use Qf (.ref D) C (.ok .next) s') :
    wpAny (model X.prog X.w) X.A (comprehension (.ListComp elt [⟨tg, iter, ifs, 0⟩] scope pos) scope X.env pos' (newList []) false (eval iter X.env) use) Qf X.xe s := by
  have hfree : ∀ y ∈ scope.names, y.2 = .free → ∃ c, X.env.cells.lookup y.1 = some c := fun y hy e => (ok.free y hy e).elim (fun z => I.ok.has _ (.inl z)) fun z => I.ok.has _ (.inr z)
  refine wpAny_comprehension_free (use := use) rfl hs (closure_ok hfree) ok.kind (fun y hy e => by rw [ok.uniq y hy, e]) (thn (hi.run pins s σ H _ I h) fun xv s2 hx => ?_)
  obtain ⟨H1, sc, xs, I1, ⟨a, g0, c0, rfl, ea, sz2, low2, hgen, hgs, hos, hba, hlim, hkp, wake⟩, hT, q⟩ := hx
  refine wpAny_pyIter_gen hgen ?_
  refine wpAny_newObj_type (newEnv_comp ?_) (by show 0 ≤ sizeLine; decide)
  have I2 : Inv X pins σ H1 s2 := I1.call' (ch := []) hos (Un.kept hkp) (I1.hok.kept hkp) hba fun b z => by simp at z
  have fresh : ∀ b, sc.heap.objs.size ≤ b → H1 b = none := fun b hb => I1.hok.fresh hb
  generalize hD : s2.heap.objs.size = D
  have eD : D = sc.heap.objs.size + 2 := hD.symm.trans sz2
  have hDn : H1 D = none := I2.hok.fresh (Nat.le_of_eq hD)
  obtain ⟨W, ⟨m0, w0⟩, turn⟩ := q D hDn
  generalize hs3 : ({ s2 with heap := s2.heap.push { cls := .type "list", data := .seq ([] : List Value).toArray } } : Shared) = s3
  have h3 : s3.heap = s2.heap.push (seqObj "list" #[] 0) := by rw [← hs3]
  have oD3 : s3.heap.get? D = some (seqObj "list" #[] 0) := by rw [h3, ← hD]; exact Heap.get?_push_size _ rfl
  have I3 : Inv X pins σ (upd H1 D (.lst [])) s3 := by
    rw [← hs3]
    refine I2.laid (t' := s2.toks) (fun b o e => Heap.get?_push_of_some _ e) (Nat.le_of_eq hD) ⟨Nat.zero_le _, [], 0, .nil, ?_⟩
    have z := oD3
    rw [← hs3] at z
    exact z
  have sz3 : s3.heap.objs.size = sc.heap.objs.size + 3 := by rw [h3, Heap.size_push, sz2]
  -- the generator's own two objects may turn
  have f3 : ∀ b ∈ [sc.heap.objs.size, a], FpOk X pins (upd H1 D (.lst [])) b ∧ b < s3.heap.objs.size := fun b hb => by
    have lo : sc.heap.objs.size ≤ b ∧ b < sc.heap.objs.size + 2 := by
      simp only [List.mem_cons, List.not_mem_nil, or_false] at hb
      rcases hb with rfl | rfl
      · exact ⟨Nat.le_refl _, Nat.lt_add_of_pos_right (by decide)⟩
      · rw [ea]
        exact ⟨Nat.le_succ _, Nat.lt_succ_self _⟩
    have f2 := I1.fpOk lo.1 (fresh b lo.1)
    refine ⟨⟨?_, f2.2⟩, by rw [sz3]; exact Nat.lt_of_lt_of_le lo.2 (Nat.le_succ _)⟩
    rw [upd_ne (by rw [eD]; exact Nat.ne_of_lt lo.2)]
    exact f2.1
  have I4 := block_start I3 ok hN f3
  have pg := hg s3 (upd H1 D (.lst [])) s3.heap.objs.size (cellsFrom (s3.heap.objs.size + 1) scope.names (cloFrom X.env.cells scope.names [])) [sc.heap.objs.size, a]
  have pt := ht s3 (upd H1 D (.lst [])) s3.heap.objs.size (cellsFrom (s3.heap.objs.size + 1) scope.names (cloFrom X.env.cells scope.names [])) [sc.heap.objs.size, a]
  have pe := he s3 (upd H1 D (.lst [])) s3.heap.objs.size (cellsFrom (s3.heap.objs.size + 1) scope.names (cloFrom X.env.cells scope.names [])) [sc.heap.objs.size, a]
  show codeAny _ _ (.compStart (.ListComp elt [⟨tg, iter, ifs, 0⟩] scope pos) 0 (.ref a) (.ref D) (compEnvC scope (cellsFrom (s3.heap.objs.size + 1) scope.names (cloFrom X.env.cells scope.names [])) s3.heap.objs.size X.env)) (compPost (model X.prog X.w) X.A X.xe use Qf (.ref D) s3.heap.objs.size) { s3 with heap := pushCells (s3.heap.push { cls := .type "dict", data := .dict #[] }) scope.names }
  have cl : ∀ x c, (compEnvC scope (cellsFrom (s3.heap.objs.size + 1) scope.names (cloFrom X.env.cells scope.names [])) s3.heap.objs.size X.env).cells.lookup x = some c → c < sc.heap.objs.size := fun x c e => by
    have e : (cellsFrom (s3.heap.objs.size + 1) scope.names (cloFrom X.env.cells scope.names [])).lookup x = some c := e
    rw [cells_none nocell] at e
    rcases cloFrom_mem (PySem.mem_of_lookup e) with hm | ⟨h1, h2⟩
    · cases hm
    · obtain ⟨c', hc'⟩ := hfree _ h1 rfl
      have hc' : X.env.cells.lookup x = some c' := hc'
      rw [hc'] at h2
      have h2 : c = c' := h2
      obtain ⟨w', z⟩ := I1.cell _ _ hc'
      rw [h2]
      exact z.lt
  rw [pushCells_none nocell] at I4 ⊢
  generalize hce : compEnvC scope (cellsFrom (s3.heap.objs.size + 1) scope.names (cloFrom X.env.cells scope.names [])) s3.heap.objs.size X.env = ce at I4 pg pt pe cl ⊢
  have cL : ce.locals = s3.heap.objs.size := by subst hce; rfl
  generalize hs4 : ({ s3 with heap := s3.heap.push { cls := .type "dict", data := .dict #[] } } : Shared) = s4 at I4 ⊢
  have h4 : s4.heap = s3.heap.push { cls := .type "dict", data := .dict #[] } := by rw [← hs4]
  have g4 : s4.gens = s2.gens := by rw [← hs4, ← hs3]
  have o4 : s4.os = s2.os := by rw [← hs4, ← hs3]
  have kp4 : ∀ b o, s2.heap.get? b = some o → s4.heap.get? b = some o := fun b o e => by
    rw [h4, h3]
    exact Heap.get?_push_of_some _ (Heap.get?_push_of_some _ e)
  have gen4 : s4.heap.IsGen a g0 := by
    obtain ⟨o, nm, qn, ho, z⟩ := hgen
    exact ⟨o, nm, qn, kp4 _ _ ho, z⟩
  generalize eC : s3.heap.objs.size = C at I4 pg pt pe cL ⊢
  have eC' : C = sc.heap.objs.size + 3 := eC.symm.trans sz3
  have oC4 : s4.heap.get? C = some { cls := .type "dict", data := .dict #[] } := by rw [h4, ← eC]; exact Heap.get?_push_size _ rfl
  have gl : g0 < s2.gens.size := (Array.getElem?_eq_some_iff.mp hgs).1
  have nfC : C ∉ frs X.stack := no_fr I3 (Nat.le_of_eq eC)
  have wk4 : Sg (model X.prog X.w) X.A.in1 (fun e s1 => ∃ Hw, EndW X.prog X.w X.stack T H1 sc xs a g0 [(D, seqObj "list" #[] 0), (C, { cls := .type "dict", data := .dict #[] })] e s1 Hw) c0 ((model X.prog X.w).den c0) [] (s4.setGen g0 .running) := by
    refine wake X.A.in1 (s4.setGen g0 .running) _ hr.in1 I1.ok.frames kp4 (o4.trans hos) (allBare_setGen (by rw [g4]; exact hba) rfl) ?_ fun p hp => ?_
    · show g0 < (s4.gens.setIfInBounds g0 .running).size
      rw [Array.size_setIfInBounds, g4]
      exact gl
    · simp only [List.mem_cons, List.not_mem_nil, or_false] at hp
      rcases hp with rfl | rfl
      · refine ⟨?_, Nat.le_of_eq hD, fun v z => by cases z⟩
        show s4.heap.get? D = _
        rw [h4]
        exact Heap.get?_push_of_some _ oD3
      · exact ⟨oC4, by rw [eC', sz2]; exact Nat.le_succ _, fun v z => by cases z⟩
  have loop : codeAny (model X.prog X.w) X.A (.compLoop (.ListComp elt [⟨tg, iter, ifs, 0⟩] scope pos) 0 (.ref a) (.ref D) ce) (compPost (model X.prog X.w) X.A X.xe use Qf (.ref D) C) s4 := by
    refine compLoop_any (fun n s' => ∃ i H', Inv (X.blk s3 (upd H1 D (.lst [])) scope ce [sc.heap.objs.size, a]) [] (wipe σ (own.map (·.2))) H' s' ∧ W i n H' ∧
      ((i = 0 ∧ s' = s4 ∧ H' = upd H1 D (.lst [])) ∨ ∃ it l us gs r, Slept (X.blk s3 (upd H1 D (.lst [])) scope ce [sc.heap.objs.size, a]) xs a g0 i H' s' it l us gs r)) ?_ m0 ⟨0, _, I4, w0, .inl ⟨rfl, rfl, rfl⟩⟩
    rintro n s5 ⟨i, H5, I5, w5, ph⟩
    -- the end
    have ends : ∀ {s6 : Shared} {H6 : Hp}, Inv (X.blk s3 (upd H1 D (.lst [])) scope ce [sc.heap.objs.size, a]) [] (wipe σ (own.map (·.2))) H6 s6 → Q (.ref D) H6 → compPost (model X.prog X.w) X.A X.xe use Qf (.ref D) C (.ok .next) s6 := fun {s6 H6} I6 qq => by
      have I7 : Inv X pins σ H6 s6 := I3.call' (ch := [sc.heap.objs.size, a]) I6.os I6.base I6.hok I6.bare fun b hb => ⟨(f3 b hb).1.2.2.2.1, (f3 b hb).1.2.1, (f3 b hb).1.2.2.2.2.1, (f3 b hb).1.2.2.2.2.2⟩
      have nC : H6 C = none := by
        have z : H6 ce.locals = none := I6.free
        rw [cL] at z
        exact z
      obtain ⟨m, hn, _⟩ := I6.loc
      have hn : s6.heap.Ns ce.locals m := hn
      rw [cL] at hn
      exact hRR D C s6 m H6 I7 qq hn (I3.fpOk (Nat.le_of_eq eC) nC)
    -- a turn's body, the generator asleep behind its item
    have body : ∀ {s6 : Shared} {H6 : Hp} {x : V} {v : Value} {it l : Addr} {us : List Value} {gs : GenState} {r : Nat} {Nx : Hp → Prop}, Inv (X.blk s3 (upd H1 D (.lst [])) scope ce [sc.heap.objs.size, a]) [] (wipe σ (own.map (·.2))) H6 s6 → RelV x v →
        Slept (X.blk s3 (upd H1 D (.lst [])) scope ce [sc.heap.objs.size, a]) xs a g0 (i + 1) H6 s6 it l us gs r → (∀ H', Nx H' → ∃ m', m' < n ∧ W (i + 1) m' H') →
        (g x (wipe σ (own.map (·.2))) H6 fun σ2 H2 => wipe σ2 (own.map (·.2)) = wipe σ (own.map (·.2)) ∧ tt σ2 H2 fun b H3 => if b = true then te σ2 H3 fun y H4 => ∃ acc, H4 D = some (.lst acc) ∧ acc.length < sizeLine ∧ Nx (upd H4 D (.lst (acc ++ [y]))) else Nx H3) →
        wpAny (model X.prog X.w) X.A (letOwnedTupleGo tg (.ref a) v) (fun _ s₁' => wpAny (model X.prog X.w) X.A (assign tg ce v) (fun _ s₂ =>
          wpAny (model X.prog X.w) X.A (forIn ifs true fun c r => if r = true then do let ok ← isTrue c ce (eval c ce); pure (ForInStep.yield ok) else pure (ForInStep.yield r)) (fun ok s₃ =>
            if ok = true then wpAny (model X.prog X.w) X.A (eval elt ce) (fun x s₄ =>
              wpAny (model X.prog X.w) X.A (call (.builtin "list.append") [.ref D, x]) (fun _ s₅ => ∃ m, m < n ∧ ∃ i H', Inv (X.blk s3 (upd H1 D (.lst [])) scope ce [sc.heap.objs.size, a]) [] (wipe σ (own.map (·.2))) H' s₅ ∧ W i m H' ∧
                ((i = 0 ∧ s₅ = s4 ∧ H' = upd H1 D (.lst [])) ∨ ∃ it l us gs r, Slept (X.blk s3 (upd H1 D (.lst [])) scope ce [sc.heap.objs.size, a]) xs a g0 i H' s₅ it l us gs r)) (notedBy (model X.prog X.w) X.A ce fun e s' => compPost (model X.prog X.w) X.A X.xe use Qf (.ref D) C (.error e) s') s₄) (notedBy (model X.prog X.w) X.A ce fun e s' => compPost (model X.prog X.w) X.A X.xe use Qf (.ref D) C (.error e) s') s₃
            else ∃ m, m < n ∧ ∃ i H', Inv (X.blk s3 (upd H1 D (.lst [])) scope ce [sc.heap.objs.size, a]) [] (wipe σ (own.map (·.2))) H' s₃ ∧ W i m H' ∧
                ((i = 0 ∧ s₃ = s4 ∧ H' = upd H1 D (.lst [])) ∨ ∃ it l us gs r, Slept (X.blk s3 (upd H1 D (.lst [])) scope ce [sc.heap.objs.size, a]) xs a g0 i H' s₃ it l us gs r)) (notedBy (model X.prog X.w) X.A ce fun e s' => compPost (model X.prog X.w) X.A X.xe use Qf (.ref D) C (.error e) s') s₂) (notedBy (model X.prog X.w) X.A ce fun e s' => compPost (model X.prog X.w) X.A X.xe use Qf (.ref D) C (.error e) s') s₁') (notedBy (model X.prog X.w) X.A ce fun e s' => compPost (model X.prog X.w) X.A X.xe use Qf (.ref D) C (.error e) s') s6 := by
      intro s6 H6 x v it l us gs r Nx I6 rv S6 hNx hrd
      obtain ⟨og, nm, qn, hog, hoc, hod, hos'⟩ := id S6.gen
      refine go_of (n := "generator") hog hoc hod (by decide) ?_
      obtain ⟨oi, hoi, hic, hid⟩ := id S6.yf.iter
      obtain ⟨ol, hol, hlc, nl, hld⟩ := id S6.yf.list
      obtain ⟨k1, lv1, c1, p1, fs1, cl1, egs, _, _⟩ := id S6.wk
      have objs : ∀ b ∈ [a, it, l], ∃ o, s6.heap.get? b = some o ∧ ∀ v, o.data ≠ .cell v := fun b hb => by
        simp only [List.mem_cons, List.not_mem_nil, or_false] at hb
        rcases hb with rfl | rfl | rfl
        · exact ⟨og, hog, fun v z => by rw [hod] at z; cases z⟩
        · exact ⟨oi, hoi, fun v z => by rw [hid] at z; cases z⟩
        · exact ⟨ol, hol, fun v z => by rw [hld] at z; cases z⟩
      have fps : ∀ b ∈ [a, it, l], FpOk (X.blk s3 (upd H1 D (.lst [])) scope ce [sc.heap.objs.size, a]) [] H6 b := fun b hb => by
        simp only [List.mem_cons, List.not_mem_nil, or_false] at hb
        rcases hb with rfl | rfl | rfl
        · exact S6.fa
        · exact S6.fi
        · exact S6.fl
      have J := inv_ghost (I6.pinned fps objs)
      have bare6 := I6.bare
      -- the turn's end
      have fin : ∀ {s0 s' : Shared} {H' : Hp} {σ8 : L2.St}, Tied s6.gens s0 s' → Inv (X.blk s3 (upd H1 D (.lst [])) scope ce [sc.heap.objs.size, a]) ([] ++ pinsAt [a, it, l] s6.heap) σ8 H' s0 → wipe σ8 (own.map (·.2)) = wipe σ (own.map (·.2)) → Nx H' →
          ∃ m, m < n ∧ ∃ i H', Inv (X.blk s3 (upd H1 D (.lst [])) scope ce [sc.heap.objs.size, a]) [] (wipe σ (own.map (·.2))) H' s' ∧ W i m H' ∧ ((i = 0 ∧ s' = s4 ∧ H' = upd H1 D (.lst [])) ∨ ∃ it l us gs r, Slept (X.blk s3 (upd H1 D (.lst [])) scope ce [sc.heap.objs.size, a]) xs a g0 i H' s' it l us gs r) := fun {s0 s' H' σ8} TT I0 hw8 nx => by
        obtain ⟨m', hm, w'⟩ := hNx H' nx
        have I' := inv_tied I0 TT bare6
        have pin' : ∀ b ∈ [a, it, l], ∀ o, s6.heap.get? b = some o → s'.heap.get? b = some o ∧ H' b = none := fun b hb o e =>
          let z := I'.pin (b, o) (List.mem_append_right _ (List.mem_append_right _ (mem_pinsAt hb e)))
          ⟨z.1, z.2.1⟩
        have pa := pin' a (by simp) _ hog
        have pi := pin' it (by simp) _ hoi
        have pl := pin' l (by simp) _ hol
        have hl : (wipe σ (own.map (·.2))).length = σ8.length := by rw [← hw8, wipe_length]
        refine ⟨m', hm, i + 1, H', (I'.unpinned (pins := [])).weak hl (fun j v e => ?_), w', .inr ⟨it, l, us, gs, r, ⟨og, nm, qn, pa.1, hoc, hod, hos'⟩, ?_, S6.rv, S6.nai, S6.nal, S6.nil_, ⟨⟨oi, pi.1, hic, hid⟩, ol, pl.1, hlc, nl, hld⟩, S6.len, S6.wk, ⟨pa.2, S6.fa.2⟩, ⟨pi.2, S6.fi.2⟩, ⟨pl.2, S6.fl.2⟩⟩⟩
        · rw [← hw8] at e
          exact (wipe_some e).1
        · have z := S6.st
          rw [egs] at z ⊢
          exact TT.sleeps z
      refine thnG (pg.run _ (ghosted s6) _ H6 x v _ J rv hrd) (ghosted_tied s6) fun _ s7 s8 T7 ⟨σ8, H8, I8, hw8, q8⟩ => ?_
      refine thnG (pt.run _ s7 σ8 H8 _ I8 q8) T7 fun b s9 s10 T9 ⟨H9, I9, q9⟩ => ?_
      cases b with
      | false =>
        simp only [Bool.false_eq_true, if_false] at q9 ⊢
        exact fin T9 I9 hw8 q9
      | true =>
        simp only [if_true] at q9 ⊢
        refine thnG (pe.run _ s9 σ8 H9 _ I9 q9) T9 fun z s11 s12 T11 ⟨yv, H10, I10, r10, acc, hD10, hz10, nx⟩ => ?_
        exact thnG (app_ok (X := X.blk s3 (upd H1 D (.lst [])) scope ce [sc.heap.objs.size, a]) (Q := fun _ s' => Inv (X.blk s3 (upd H1 D (.lst [])) scope ce [sc.heap.objs.size, a]) ([] ++ pinsAt [a, it, l] s6.heap) σ8 (upd H10 D (.lst (acc ++ [yv]))) s') I10 hD10 hz10 r10 fun s13 I13 => I13) T11 fun _ s13 s14 T13 I13 => fin T13 I13 hw8 nx
    have room : X.A.depth < recursionLimit := by have := hr.dp; omega
    rcases ph with ⟨rfl, rfl, rfl⟩ | ⟨it, l, us, gs, r, S5⟩
    · have nf := next_first (X := X.blk s3 (upd H1 D (.lst [])) scope ce [sc.heap.objs.size, a]) (outer := X.stack) (T := T) (xs := xs) (sc := sc) (a := a) (C := C) (g := g0) (E := fun _ _ => False) I5 rfl rfl rfl hr.hd room ea eD eC' (by rw [h4, Heap.size_push, sz3]) (fun b hb => by
          rw [h4, Heap.get?_push_ne _ _ _ (Nat.ne_of_lt (by rw [sz3]; exact Nat.lt_of_lt_of_le hb (Nat.le_add_right _ _))), h3, Heap.get?_push_ne _ _ _ (Nat.ne_of_lt (by rw [sz2]; exact Nat.lt_of_lt_of_le hb (Nat.le_add_right _ _))), low2 b hb]) (o4.trans hos)
        (by rw [h4]; exact Heap.get?_push_of_some _ oD3) oC4 fresh hT gen4 (by rw [g4]; exact hgs) cL cl (fun b hb => hb) (by show s3.heap.objs.size ≤ _; rw [sz3]; exact Nat.le_refl _) nfC wk4
      refine thnF nf fun o s6 ⟨H6, x1, x2, I6, na6, en⟩ => ?_
      have stp : Stp T (upd H1 D (.lst [])) H6 := ⟨x1, fun _ => x2⟩
      rcases en with ⟨rfl, exs⟩ | ⟨it, l, us, v, gs, r, rfl, rv, ev, n1, n2, n3, fi, fl, gg, gst, yf, len, hw⟩
      · rcases turn 0 n _ w5 with ⟨_, qq⟩ | ⟨x, ex, _⟩
        · exact ends I6 (qq H6 stp)
        · rw [exs] at ex
          cases ex
      · have ul : us.length = xs.length := rv.length.symm
        rcases turn 0 n _ w5 with ⟨ez, _⟩ | ⟨x, ex, Nx, hNx, stepR⟩
        · omega
        · obtain ⟨u, eu, ru⟩ := Vals.get rv ex
          rw [ev] at eu
          cases eu
          refine body I6 ru ⟨gg, gst, rv, n1, n2, n3, yf, len, hw, ?_, fi, fl⟩ hNx (stepR H6 stp)
          refine ⟨na6, by show a ≠ ce.locals; rw [cL, eC', ea]; exact Nat.ne_of_lt (Nat.add_lt_add_left (by decide) _), fun z => I6.ok.exfs a (by show a ∈ [sc.heap.objs.size, a]; simp) z, .inl (by show a ∈ [sc.heap.objs.size, a]; simp), fun x c e z => ?_, fun p hp => by cases hp⟩
          have q := cl x c e
          rw [z, ea] at q
          exact absurd q (Nat.not_lt_of_le (Nat.le_succ _))
    · have nl := next_later (xs := xs) (E := fun _ _ => False) I5 hr.hd room S5.gen S5.st S5.nai S5.yf S5.len S5.wk S5.fi
      refine thnF nl fun o s6 en => ?_
      have ul : us.length = xs.length := S5.rv.length.symm
      have len := S5.len
      rcases en with ⟨rfl, rz, I6⟩ | ⟨v, r', gs', rfl, er, ev, I6, gg, gst, yf, hw, hk⟩
      · rcases turn i n _ w5 with ⟨_, qq⟩ | ⟨x, ex, _⟩
        · exact ends I6 (qq H5 (Stp.refl T H5))
        · have z := (List.getElem?_eq_some_iff.mp ex).1
          omega
      · rcases turn i n _ w5 with ⟨ez, _⟩ | ⟨x, ex, Nx, hNx, stepR⟩
        · omega
        · obtain ⟨u, eu, ru⟩ := Vals.get S5.rv ex
          rw [ev] at eu
          cases eu
          exact body I6 ru ⟨gg, gst, S5.rv, S5.nai, S5.nal, S5.nil_, yf, by omega, hw, S5.fa, S5.fi, S5.fl⟩ hNx (stepR H5 (Stp.refl T H5))
  exact codeAny_compStart_list loop (wpAny_pyIter_gen gen4 loop)
/-- as a value -/
theorem pe_lcW {elt tg iter : Expr} {ifs : List Expr} {scope : Scope} {own : List (Str × Nat)} {pos : Pos} {tw : TWk} {g : TG} {tt : TT} {te : TE} (hc : X.calm = true) (hN : X.N.Nodup) (hi : PWI X k T iter tw) (hr : Room (k + 1) X.A) (ok : BlkOk X.N X.env.scope scope own) (nocell : (scope.names.all fun y => !decide (y.2 = .cell)) = true)
    (hg : ∀ (s : Shared) (H : Hp) (C : Addr) (cl : List (Str × Addr)) (fp : List Addr), PG (X.blk s H scope (compEnvC scope cl C X.env) fp) tg g) (ht : ∀ (s : Shared) (H : Hp) (C : Addr) (cl : List (Str × Addr)) (fp : List Addr), PTs (X.blk s H scope (compEnvC scope cl C X.env) fp) ifs tt)
    (he : ∀ (s : Shared) (H : Hp) (C : Addr) (cl : List (Str × Addr)) (fp : List Addr), PE (X.blk s H scope (compEnvC scope cl C X.env) fp) elt te) (hs : ∀ x, foldedSetIterable iter X.env x = pure x := by intro _; rfl) :
    PE X (.ListComp elt [⟨tg, iter, ifs, 0⟩] scope pos) (tLcW T tw g tt te (own.map (·.2))) := by
  have nc : ∀ y ∈ scope.names, y.2 ≠ .cell := fun y hy => by simpa using (List.all_eq_true.mp nocell) y hy
  refine ⟨fun pins s σ H Q I h => ?_⟩
  rw [eval_ListComp]
  refine lcW_core hc hN I hi hr ok nc hg ht he hs h fun D C s' m H' I' q hn f => ⟨m, hn, fun h'' sb => ?_⟩
  obtain ⟨f0, f1, f2, f3, f4, f5⟩ := f
  exact ⟨.ref D, H', I'.turned (t' := s'.toks) (fun b o hb e => (sb.2 b hb).trans e) f0 f1 f3 f4 f5, rfl, q⟩
/-- name = [..] -/
theorem ps_setLcW {i : Nat} {y : Str} {py : Pos} {elt tg iter : Expr} {ifs : List Expr} {scope : Scope} {own : List (Str × Nat)} {pos spos : Pos} {tw : TWk} {g : TG} {tt : TT} {te : TE} (hc : X.calm = true) (hN : X.N.Nodup) (hy : X.N[i]? = some y) (hyl : X.env.scope.names.lookup y = some .local)
    (hsw : swapsWith (.ListComp elt [⟨tg, iter, ifs, 0⟩] scope pos) (some (.Name y py)) spos.line X.env = pure true) (hi : PWI X k T iter tw) (hr : Room (k + 1) X.A) (ok : BlkOk X.N X.env.scope scope own) (nocell : (scope.names.all fun y => !decide (y.2 = .cell)) = true)
    (hg : ∀ (s : Shared) (H : Hp) (C : Addr) (cl : List (Str × Addr)) (fp : List Addr), PG (X.blk s H scope (compEnvC scope cl C X.env) fp) tg g) (ht : ∀ (s : Shared) (H : Hp) (C : Addr) (cl : List (Str × Addr)) (fp : List Addr), PTs (X.blk s H scope (compEnvC scope cl C X.env) fp) ifs tt)
    (he : ∀ (s : Shared) (H : Hp) (C : Addr) (cl : List (Str × Addr)) (fp : List Addr), PE (X.blk s H scope (compEnvC scope cl C X.env) fp) elt te) (hs : ∀ x, foldedSetIterable iter X.env x = pure x := by intro _; rfl) :
    PS X (.Assign [.Name y py] (.ListComp elt [⟨tg, iter, ifs, 0⟩] scope pos) spos) (tAsg (tLcW T tw g tt te (own.map (·.2))) (gName i)) := by
  have nc : ∀ y ∈ scope.names, y.2 ≠ .cell := fun y hy => by simpa using (List.all_eq_true.mp nocell) y hy
  refine ⟨fun pins s σ H D I h => ?_⟩
  rw [exec_Assign_Name_used _ _ _ _ hsw]
  refine wpAny_bind (wpAny_standAt (wpAny_bind ?_))
  show wpAny _ X.A (do let _ ← comprehension (.ListComp elt [⟨tg, iter, ifs, 0⟩] scope pos) scope X.env (firstIterPos [⟨tg, iter, ifs, 0⟩] pos) (newList []) false (eval iter X.env) (some (assign (.Name y py) X.env))) _ _ s
  have h : tLcW T tw g tt te (own.map (·.2)) σ H (fun x H1 => gName i x σ H1 D.nx) := h
  refine wpAny_bind (thn (lcW_core (Qf := fun _ s' => SP X pins D .next s') hc hN I hi hr ok nc hg ht he hs h fun L C s' m H' I' q hn f => ?_) fun _ s' hq => wpAny_pure (wpAny_pure hq))
  show wpAny _ _ (assign (.Name y py) X.env (.ref L)) _ _ _
  refine wpAny_assign_Name (store_ok2 (v := V.ref L) I' hN hy (.inl hyl) rfl (fun s2 I2 ⟨a, sb, ha⟩ => ?_) (.inr hyl))
  obtain ⟨f0, f1, f2, f3, f4, f5⟩ := f
  have neC : C ≠ a := ha.elim (fun z => z ▸ f1) fun z e => f4 y a z e.symm
  exact ⟨m, hn.sameBut sb neC, fun g' sb3 => ⟨_, H', I2.turned (t' := s2.toks) (fun b o hb e => (sb3.2 b hb).trans e) f0 f1 f3 f4 f5, q⟩⟩
end
end Ask

set_option Elab.async false
set_option linter.all false
set_option maxRecDepth 100000
set_option maxHeartbeats 2000000
namespace Ask
open PySem PySem.Spec L2
open PyProof.Rows
/-- a law's end where a lambda of a method fills its maker's table -/
theorem walk_lawM {l : PySem.W.OpenLaw} {k : Nat} {q : Program} {loose : List Str} {XP : (Str → Option Value) → Heap → Prop} {d : DefRec} {K : Params → PySem.W.Frag} {as : List Addr} {e : ∀ P, as = (K P).map (·.1)} {ts : List Addr}
    (hn : l.most = some 63) (hdf : d.params.defaults = []) (hr : Room k callerA) (hq : importsNone q = true) (hK1 : ∀ w : World, (K w.params).lookup sysModules = none)
    (F : ∀ (w : World) (mg : Str → Option Value) (fa : Addr) (h : Heap), (K w.params).In h → h.Ns mainGlobals mg → mg d.name = some (.ref fa) →
      ∃ (fd : FuncData) (c t : Addr), PySem.W.codeHdIn (K w.params) c t = true ∧ t ∈ ts ∧ (K w.params).lookup t = none ∧ (∀ (s : Shared) (u : Value), BindsTo s fd ⟨[u], []⟩ [("script", u)]) ∧
        ∀ base : Heap, (K w.params).In base → base.Ns mainGlobals mg → LamX.TabB base mg c t → GOk l.prog w (K w.params) mg base CX0 k fa fd ["script"] (spLawT (K w.params) t)) :
    PySem.W.WalkO q loose XP (PySem.W.kmHook K as e ts).says l.row.toRowW d [] (fun f vs => PySem.call f vs) := by
  refine Att.attach_call hn hdf ?_
  intro w s₀ s₁ mg mb fa o pm cd doc a vs ns G Y ho hdd hcd hmg hobj hints hlen hg
  have KX := PySem.W.km_in_of Y
  obtain ⟨fd, c, t, f1, f2, f3, hb, hF⟩ := F w mg fa _ KX G.T.g hmg
  obtain ⟨mm, hsm, _⟩ := (G.T.seer hq).mods
  exact law_goT KX (hK1 w) hsm G.T.g G.T.b G.T.builtins G.T.nolimit hg (PySem.W.km_tabs_of Y t f2) f3 (PySem.W.codeHd_of_K KX f1) G.T.bmain hobj hints (Nat.le_trans hlen (by decide)) hr hF hb
    fun H hO hT hS => ⟨a, ns, rfl, hS, hlen, hO, hT, fun _ => rfl⟩
end Ask

set_option Elab.async false
set_option linter.all false
set_option maxRecDepth 100000
set_option maxHeartbeats 2000000
namespace Ask
open PySem PySem.Spec PyProof.Rows L2 GenW
section
variable {X : Cx}
theorem GFs.nox {st : List Stmt} {t : TY} (h : GFs X.nox st t) : GFs X st t := by
  refine ⟨fun A c fs K J gd lv Φ pins s σ H Y D g k I ht => ?_⟩
  refine h.run A c fs K J gd lv Φ pins s σ H Y D ⟨g.over, g.split, g.guard, g.gd⟩ ⟨fun f s' hs => k.ok f s' ?_, fun e s' hx => hx.elim, fun v l k' c' p' fs' s' hq ho => k.out v l k' c' p' fs' s' hq ?_⟩ (I.wish _) ht
  · cases f with
    | next => obtain ⟨σ', H', I', q⟩ := hs; exact ⟨σ', H', I'.unwish, q⟩
    | brk => obtain ⟨σ', H', I', q⟩ := hs; exact ⟨σ', H', I'.unwish, q⟩
    | cont => obtain ⟨σ', H', I', q⟩ := hs; exact ⟨σ', H', I'.unwish, q⟩
    | ret u => obtain ⟨v, σ', H', I', r, q⟩ := hs; exact ⟨v, σ', H', I'.unwish, r, q⟩
  · obtain ⟨x, σ', H', I', rv, hY⟩ := ho
    exact ⟨x, σ', H', I'.unwish, rv, hY⟩
end
section
variable {P : Program} {w : World} {K : PySem.W.Frag} {mg : Str → Option Value} {base : Heap}
/-- a generator def that raises nothing, by its body -/
theorem Fun.ffn {x qual : Str} {st : Stmt} {f : Addr} {fd : FuncData} {N ps : List Str} {k : Nat} {sp : SpF} (F : Fun K x qual st f fd) (S : GScope N ps (defScope st)) (len : ∀ vs H Y Z E, sp vs H Y Z E → vs.length = ps.length)
    (hbody : ∀ (cdv : Value) (A : Around) (outer : List Env) (s : Shared) (H : Hp) (vs : List V) (Y : V → Hp → Prop) (Z : Hp → Prop) (E : XK) (pn : List (Addr × Obj)), Room k (A.deeper (envOfC qual (defScope st) s.heap.objs.size f cdv)) → sp vs H Y Z E →
      ∃ t, GFs (gcxOf P w K mg base N qual (defScope st) f cdv A outer s H E pn).nox (defBody st) t ∧ t Y { nx := fun _ H' => Z H', rt := fun v H' => v = .non ∧ Z H' } (start N vs) H) : FFn P w K mg base (k + 1) f fd ps sp := by
  obtain ⟨oc, od, kV, doc, pm, an, cdv, ct, osl, rfl, lk, hcd⟩ := F.ex
  refine ffn_of lk hcd S len fun A outer s H vs Y Z E pn hr hsp => ?_
  obtain ⟨t, h, q⟩ := hbody cdv A outer s H vs Y Z E pn hr hsp
  exact ⟨t, h.nox, q⟩
def EF : XK := fun _ _ _ => False
theorem passes_ef {X : Cx} : Passes (L2.CX X.prog X.w) X EF := fun pins σ H s e s' I h => by
  obtain ⟨a, B, H', cls, d, _, _, _, _, _, _, _, q⟩ := h
  exact q.elim
theorem nostop_ef {K : PySem.W.Frag} : NoStop K EF := fun _ _ _ h => h.elim
/-- for tg in g(..): body, where the body leaves the loop -/
theorem ps_forF0 {X : Cx} {k : Nat} {iter tg : Expr} {body : List Stmt} {tgn : TGnF} {g : TG} {tb : TS} {pos : Pos} (hi : PGF X k iter tgn EF) (hr : Room (k + 1) X.A) (hp : PassesOwn (model X.prog X.w) X.A X.env X.xe) (hg : PG X tg g) (hb : PSs X body tb)
    (hs : ∀ x, foldedSetIterable iter X.env x = pure x := by intro _; rfl) : PS X (.For tg iter body [] pos) (tForF tgn g tb) := ps_forF hi passes_ef nostop_ef hr hp hg hb hs
end
end Ask

set_option Elab.async false
set_option linter.all false
set_option maxRecDepth 100000
set_option maxHeartbeats 2000000
namespace Ask
open PySem PySem.Spec PyProof.Rows L2 GenW LamX
section
variable {P : Program} {w : World} {K : PySem.W.Frag} {mg : Str → Option Value} {base : Heap}
theorem Fun.wfn {x qual : Str} {st : Stmt} {f : Addr} {fd : FuncData} {N ps : List Str} {T : List (Addr × Str)} {e : Expr} {yp pos : Pos} {k : Nat} {sp : List V → Hp → List V → Prop} (F : Fun K x qual st f fd) (S : GScope N ps (defScope st)) (hb : defBody st = [.Expr (.YieldFrom e yp) pos]) (nocell : ∀ y ∈ (defScope st).names, y.2 ≠ .cell)
    (len : ∀ vs H xs, sp vs H xs → vs.length = ps.length) (hint : ∀ (cdv : Value) (A : Addr) (s : Shared), interactive (envOfC qual (defScope st) s.heap.objs.size A cdv) = false)
    (hbody : ∀ (cdv : Value) (A : Around) (outer : List Env) (s s2 : Shared) (H : Hp) (vs xs : List V) (pn : List (Addr × Obj)), fd.code = cdv → Room k (A.deeper (envOfC qual (defScope st) s.heap.objs.size f cdv)) → sp vs H xs → Tabs T H → Inv (gcxOf P w K mg base N qual (defScope st) f cdv A outer s H C8.E0 pn).nox [] (start N vs) H s2 →
      wpAny (model P w) (A.deeper (envOfC qual (defScope st) s.heap.objs.size f cdv)) (eval e (envOfC qual (defScope st) s.heap.objs.size f cdv)) (fun v s' => ∃ (l : Addr) (out : List Value) (n : Nat) (H' : Hp), v = .ref l ∧ Inv (gcxOf P w K mg base N qual (defScope st) f cdv A outer s H C8.E0 pn).nox [] (start N vs) H' s' ∧ ExtN H H' ∧ Tabs T H' ∧
        s'.heap.get? l = some (seqObj "list" out.toArray n) ∧ FpOk (gcxOf P w K mg base N qual (defScope st) f cdv A outer s H C8.E0 pn).nox [] H' l ∧ Vals xs out) (fun _ _ => False) s2) :
    WFn P w K mg base (k + 1) f fd ps T sp := by
  obtain ⟨oc, od, kV, doc, pm, an, cdv, ct, osl, rfl, lk, hcd⟩ := F.ex
  rw [hb] at lk ⊢
  exact wfn_of lk hcd S nocell len (hint cdv) fun A outer s s2 H vs xs pn => hbody cdv A outer s s2 H vs xs pn rfl
end
end Ask

set_option Elab.async false
set_option linter.all false
set_option maxRecDepth 100000
set_option maxHeartbeats 2000000
namespace Ask
open PySem PySem.Spec PySem.Calls L2
open PyProof.Rows PyProof.V
section
variable {prog : Program} {w : World} {κ : Type} [DecidableEq κ] {knd : KeyKind prog w κ} {A : Around} {E : Value → Shared → Prop} {s : Shared}
/-- == of two dicts whose values only make objects while they are compared, and are alike -/
theorem pairsI {nm : String} {a b : Addr} {oa : Obj} {ka kb : List (κ × Value)} {Q : Bool → Shared → Prop} (I : Shared → Prop) (fa : (a == sysModules) = false) (fb : (b == sysModules) = false)
    (da : s.heap.DictOf knd a ka) (db : s.heap.DictOf knd b kb) (ga : s.heap.get? a = some oa) (keepA : ∀ τ, I τ → τ.heap.get? a = some oa)
    (len : ka.length = kb.length) (turn : ∀ (i : Nat) (k : κ) (v : Value) (τ : Shared), ka[i]? = some (k, v) → I τ → ∃ kc y, τ.heap.DictOf knd b kc ∧ valueAt kc k = some y ∧ wpAny (model prog w) A (eqBool v y) (fun r τ' => r = true ∧ I τ') E τ)
    (h0 : I s) (fin : ∀ τ, I τ → Q true τ) : wpAny (model prog w) A (Builtin.Dict.samePairs nm a b) Q E s := by
  obtain ⟨oa', ea, na, qa, _, va, ca, pa, _⟩ := da
  obtain ⟨ob0, e0, n0, q0, _, v0, c0, p0, _⟩ := db
  have xa : oa' = oa := Option.some.inj (qa.symm.trans ga)
  subst xa
  have la : ka.length = ea.size := by rw [← pa.length]; exact Array.length_toList
  have lb : kb.length = e0.size := by rw [← p0.length]; exact Array.length_toList
  have size : ea.size = e0.size := by omega
  unfold Builtin.Dict.samePairs Builtin.Dict.showsAll
  rw [if_neg (show ¬ (a == sysModules) = true by rw [fa]; exact Bool.false_ne_true), if_neg (show ¬ (b == sysModules) = true by rw [fb]; decide)]
  refine wpAny_bind (wpAny_pure (wpAny_bind (wpAny_pure (wpAny_bind (wpAny_dictEntries ga va ?_)))))
  dsimp only
  refine wpAny_bind (wpAny_dictEntries q0 v0 ?_)
  rw [if_neg (by rw [size]; simp)]
  refine wpAny_bind (wpAny_dictEpoch ga va (wpAny_bind ?_))
  rw [Std.Legacy.Range.forIn_eq_forIn_range']; simp only [Std.Legacy.Range.size, Nat.sub_zero, Nat.add_sub_cancel, Nat.div_one]
  refine wpAny_forIn_list _ (fun rest q τ => I τ ∧ q = (none, ()) ∧ ∃ i, rest = List.range' i (ea.size - i) ∧ i ≤ ea.size) _ ?_ ?_ _ _ ⟨h0, rfl, 0, by simp, Nat.zero_le _⟩
  · rintro x rest q τ ⟨hI, rfl, i, hr, hi⟩
    have lt : i < ea.size := by
      by_cases c : i < ea.size
      · exact c
      · rw [Nat.sub_eq_zero_of_le (Nat.le_of_not_lt c)] at hr
        simp at hr
    obtain ⟨rfl, hrest⟩ : x = i ∧ rest = List.range' (i + 1) (ea.size - (i + 1)) := by
      have z : ea.size - i = (ea.size - (i + 1)) + 1 := by omega
      rw [z, List.range'_succ] at hr
      exact ⟨(List.cons.inj hr).1, (List.cons.inj hr).2⟩
    have gA := keepA τ hI
    refine wpAny_bind (wpAny_dictEntries gA va ?_)
    rw [Array.getElem?_eq_getElem lt]
    have lt' : x < ka.length := by rw [la]; exact lt
    obtain ⟨k, v, kv⟩ : ∃ k v, ka[x] = (k, v) := ⟨_, _, rfl⟩
    have gk : ka[x]? = some (k, v) := by rw [List.getElem?_eq_getElem lt', kv]
    obtain ⟨isk, isv⟩ := pa.get? (i := x) (e := ea[x]) (k := k) (v := v) (by rw [Array.getElem?_toList]; exact Array.getElem?_eq_getElem lt) gk
    obtain ⟨k', isk', hash⟩ := ca ea[x] (Array.getElem_mem lt)
    have same : k' = k := knd.inj _ _ _ isk' isk
    rw [same] at hash
    obtain ⟨kc, y, dc, hy, eqs⟩ := turn x k v τ gk hI
    obtain ⟨ob, eb, nb, gB, _, vb, cb, pb, _⟩ := dc
    have found : ∀ k, findBy knd.is eb k = valueAt kc k := fun k => by
      rw [← pb.find k]
      clear pb cb vb gB
      obtain ⟨l⟩ := eb
      simp [findBy]
    show wpAny _ _ (holding [ea[x].key, ea[x].val] _ >>= _) _ _ _
    rw [hash]
    refine wpAny_bind (wpAny_holding (wpAny_bind (wpAny_dictFind_of isk gB vb cb ?_)))
    cases hj : eb.findIdx? fun e => knd.is k e.key with
    | none =>
      have no : valueAt kc k = none := by rw [← found k, findBy_of_findIdx?, hj]
      rw [no] at hy
      cases hy
    | some j =>
      obtain ⟨jl, _, _⟩ := Array.findIdx?_eq_some_iff_getElem.mp hj
      have at_ : valueAt kc k = some eb[j].val := by
        rw [← found k, findBy_of_findIdx?, hj]
        simp [Array.getElem?_eq_getElem jl]
      have ey : eb[j].val = y := Option.some.inj (at_.symm.trans hy)
      refine wpAny_bind (wpAny_dictEntries gB vb ?_)
      rw [Array.getElem?_eq_getElem jl]
      rw [← ey, ← isv] at eqs
      refine wpAny_holding (wpAny_mono eqs (fun r τ' z => ?_) fun _ _ z => z)
      obtain ⟨rfl, hI'⟩ := z
      show wpAny _ _ (if (!true) = true then _ else _) _ _ _
      rw [if_neg (by decide)]
      refine wpAny_bind (wpAny_dictEpoch (keepA τ' hI') va ?_)
      rw [if_neg (by simp)]
      exact wpAny_pure ⟨hI', rfl, x + 1, hrest, lt⟩
  · rintro q τ ⟨hI, rfl, i, hr, hi⟩
    exact wpAny_pure (fin τ hI)
theorem rc_dictI {a b : Addr} {oa : Obj} {ka kb : List (κ × Value)} {Q : Value → Shared → Prop} (I : Shared → Prop) (fa : (a == sysModules) = false) (fb : (b == sysModules) = false)
    (da : s.heap.DictOf knd a ka) (db : s.heap.DictOf knd b kb) (ga : s.heap.get? a = some oa) (keepA : ∀ τ, I τ → τ.heap.get? a = some oa)
    (len : ka.length = kb.length) (hu : A.units < cLine) (turn : ∀ (i : Nat) (k : κ) (v : Value) (τ : Shared), ka[i]? = some (k, v) → I τ → ∃ kc y, τ.heap.DictOf knd b kc ∧ valueAt kc k = some y ∧ wpAny (model prog w) A.in1 (eqBool v y) (fun r τ' => r = true ∧ I τ') E τ)
    (h0 : I s) (fin : ∀ τ, I τ → Q (.bool true) τ) : wpAny (model prog w) A (richCompare .Eq (.ref a) (.ref b)) Q E s := by
  refine wpAny_richCompare_same_room (op := .Eq) da.typeIs db.typeIs PySem.F.slot_dict_eq (wpAny_call_entry PySem.F.slot_dict_eq da.typeIs PySem.F.entry_dict_eq ?_ (PySem.F.args_dict_eq_2 _ _)) hu
  show wpAny _ _ (Builtin.Dict.dictSlotArgs "__eq__" ⟨[.ref a, .ref b], []⟩ >>= _) _ _ s
  refine wpAny_bind (show wpAny _ _ (Builtin.Dict.dictSlotArgs "__eq__" ⟨[.ref a, .ref b], []⟩) _ _ s from ?_)
  unfold Builtin.Dict.dictSlotArgs
  refine wpAny_bind (wpAny_notOrdered_dict da.typeIs (show wpAny _ _ (pure (Value.ref a, Value.ref b)) _ _ s from wpAny_pure ?_))
  refine wpAny_bind (wpAny_isInstance (T := "dict") db.typeIs PySem.F.sub_dict_dict ?_)
  simp only [Bool.not_true, Bool.false_eq_true, if_false]
  refine wpAny_bind (wpAny_pure (wpAny_bind (wpAny_pure (wpAny_bind ?_))))
  refine pairsI I fa fb da db ga keepA len turn h0 fun τ z => ?_
  refine wpAny_pure ⟨_, rfl, ⟨?_, ?_⟩⟩
  · intro c
    cases c
  · simpa using fin τ z
end
/-- == of two dicts (the left one locked) of the same keys, whose values D tells to be alike -/
def rEqDG (D : Eqv) : R2 := fun x y H Q => ∃ (a b : Addr) (oa : Obj) (ks ls : List (Key × V)), x = .ref a ∧ y = .ref b ∧ H a = some (.frz oa (.dK ks)) ∧ Rd H b (.dK ls) ∧ ks.length = ls.length ∧
  (∀ p ∈ ks, ∃ u, valV ls p.1 = some u ∧ D p.2 u H) ∧ ∀ H', Ext H H' → Q (.bl true) H'
theorem op_eqDG {X : Cx} {n : Nat} {D : Eqv} (hD : Mon D) (h : EqG X n D) (hr : Room (n + 1) X.A) : OpR X (compareOp .Eq) (rEqDG D) := by
  intro ps s τ H x y v u Q I rx ry hq
  obtain ⟨a, b, oa, ks, ls, rfl, rfl, ha, hb, len, al, q⟩ := hq
  cases rx
  cases ry
  obtain ⟨sa, ga, _, _, _, va, _, _, kva, dda⟩ := I.frzK ha
  obtain ⟨_, sb, vb, kvb, ddb⟩ := dk_rd I.hok hb
  show wpAny (model X.prog X.w) X.A (richCompare .Eq (.ref a) (.ref b)) (EP X ps τ Q) X.xe s
  have sub : Sub X (n + 1) X.A := ⟨hr, rfl⟩
  refine rc_dictI (fun τ' => ∃ H', Inv X ps τ H' τ' ∧ Ext H H') sa sb dda.dictOf ddb ga (fun τ' z => ?_) (by rw [← kva.length, ← kvb.length]; exact len) hr.units0 (fun i k v τ' gi z => ?_) ⟨H, I, Ext.rfl'⟩ fun τ' z => ?_
  · obtain ⟨H', I', e⟩ := z
    exact (I'.hok a _ (e _ _ ha)).1
  · obtain ⟨x, gx, ex, rx⟩ : ∃ x, ks[i]? = some x ∧ x.1 = k ∧ RelV x.2 v := by
      have il : i < ks.length := by rw [kva.length]; exact (List.getElem?_eq_some_iff.mp gi).1
      obtain ⟨y, gy, ey, ry⟩ := paired_get (show Paired _ ks va from kva) (List.getElem?_eq_getElem il)
      rw [gi] at gy
      cases gy
      exact ⟨_, List.getElem?_eq_getElem il, ey, ry⟩
    obtain ⟨u, hu, du⟩ := al x (List.mem_of_getElem? gx)
    obtain ⟨H', I', e⟩ := z
    have hb' : Rd H' b (.dK ls) := hb.elim (fun c => .inl (e _ _ c)) fun ⟨o, c⟩ => .inr ⟨o, e _ _ c⟩
    obtain ⟨_, _, vc, kvc, ddc⟩ := dk_rd I'.hok hb'
    have rr : RelO (some u) (valueAt vc k) := by rw [← ex, ← hu]; exact kvc.val x.1
    obtain ⟨y, hy, ry⟩ := rr.some_of
    refine ⟨vc, y, ddc, hy, ?_⟩
    refine wpAny_mono (h X.A.in1 ps τ' τ H' x.2 u v y sub.in1 I' rx ry (hD _ _ _ _ e du)) (fun r τ2 c => ?_) fun _ _ c => c
    obtain ⟨er, H2, I2, e2⟩ := c
    exact ⟨er, H2, I2, e.trans e2⟩
  · obtain ⟨H', I', e⟩ := z
    exact ⟨.bl true, H', I', rfl, q H' e⟩
end Ask

set_option Elab.async false
set_option linter.all false
set_option maxRecDepth 100000
set_option maxHeartbeats 2000000
namespace Ask
open PySem PySem.Spec PySem.Calls L2
open PyProof.Rows
/-- a call of a def that shows data, where no repr is under way -/
theorem run_g {X : Cx} {CX : CXT} {k : Nat} {f : Addr} {fd : FuncData} {ps : List Str} {sp : Sp} {E : XK} {Q : VK} {pn : List (Addr × Obj)} {τ : L2.St} {H : Hp} {s : Shared} {us : List Value} {vs : List V} (F : GOk X.prog X.w X.K X.mg X.base CX k f fd ps sp) (hr : Room k X.A)
    (hgd : X.A.guards = some []) (hb : Binds X.K fd ps []) (hx : Passes CX X E) (I : Inv X pn τ H s) (r : Vals vs us) (h : sp vs H Q E) : wpAny (model X.prog X.w) X.A (call (.ref f) us) (EP X pn τ Q) X.xe s := by
  have len : us.length = ps.length := by rw [← r.length]; exact F.len _ _ _ _ h
  have bnd : BindsTo s fd ⟨us, []⟩ (ps.zip us) := by
    have z := hb s us I.kIn (by simpa using len)
    simpa using z
  refine wpAny_call (codeAny_mono (F.run X.A X.stack s H ⟨us, []⟩ us vs Q E hr hgd I.env0 bnd r h) fun res s' z => ?_)
  cases res with
  | error e => exact hx pn τ H s e s' I z
  | ok fl =>
    cases fl with
    | ret w => exact I.after z
    | next => exact False.elim z
    | brk => exact False.elim z
    | cont => exact False.elim z
theorem pe_callG {X : Cx} {CX : CXT} {k : Nat} {f : Addr} {fd : FuncData} {ps : List Str} {sp : Sp} {E : XK} {x : Str} {p pos : Pos} {e : Expr} {es : List Expr} {t : TA} (F : GOk X.prog X.w X.K X.mg X.base CX k f fd ps sp) (hr : Room k X.A) (hgd : X.A.guards = some []) (hg : Gl X x) (hm : X.mg x = some (.ref f))
    (hk : PySem.W.keepIn X.K (.ref f) = true) (hb : Binds X.K fd ps []) (hx : Passes CX X E) (ha : PA X (e :: es) t) (hdb : (x == ("__debug__" : Str)) = false := by decide)
    (he : starEach (e :: es) X.env = (false, eval e X.env) :: starEach es X.env := by rfl) (hpl : (backTo pos (starEach es X.env)).any (·.1) = false := by rfl) : PE X (.Call (.Name x p) (e :: es) [] pos) (tCall sp [] E t) := by
  refine ⟨fun pn s τ H Q I h => wpAny_Call_Name_kw (ld_glob I hg hm ?_ hdb)⟩
  refine PySem.W.callWith_K (h₀ := X.base) I.ok.mod.kin hk (thn (ha.run pos pn s τ H _ I h) fun us s1 ⟨vs, G, J, r, q⟩ => ⟨J.kIn, ?_⟩) he hpl
  exact run_g F hr hgd hb hx J r (by simpa using q)
end Ask

set_option Elab.async false
set_option linter.all false
namespace Ask
open PySem PySem.Spec L2
/-- what is never run -/
def tNope : TE := fun _ _ _ => False
theorem pe_nope {X : Cx} {e : Expr} : PE X e tNope := ⟨fun _ _ _ _ _ _ h => h.elim⟩
def tNopeS : TS := fun _ _ _ => False
theorem ps_nope {X : Cx} {st : Stmt} : PS X st tNopeS := by
  constructor
  intros
  rename_i h
  exact h.elim
end Ask

set_option Elab.async false
set_option linter.all false
set_option maxRecDepth 100000
set_option maxHeartbeats 4000000
namespace Ask
open PySem L2 SS
open PyProof.Rows
section
variable {prog : Program} {w : World} {A : Around} {E : Value → Shared → Prop} {s : Shared}
theorem set_bodyT {l : Addr} {items : Array Value} {xs : List Str} {led : Bool} {R : Result → Shared → Prop} (hh : A.handled = none) (hl : s.heap.IsTuple l items) (hi : StrsAre items.toList xs) (nd : xs.Nodup) (room : xs.length + 1 < scanBound)
    (hR : ∀ s2, SetLeft prog w s xs s2 → R (.ok (.ret .none)) s2) :
    codeAny (model prog w) A (.builtin "set.__init__" ⟨[.ref s.heap.objs.size, .ref l], []⟩) R { s with heap := s.heap.push (freshSet led) } := by
  have at0 : (s.heap.push (freshSet led)).get? s.heap.objs.size = some (freshSet led) := Heap.get?_push_size _ rfl
  have ty0 : Shared.TypeIs { s with heap := s.heap.push (freshSet led) } (.ref s.heap.objs.size) "set" := ⟨_, at0, rfl⟩
  have ll : l < s.heap.objs.size := let ⟨_, e, _⟩ := hl; Heap.lt_size e
  have l1 : (s.heap.push (freshSet led)).IsTuple l items := hl.push _
  obtain ⟨⟨lc, ldd, ldt, lsl⟩, e1, c1, nl, d1⟩ := id l1
  dsimp only at c1 d1
  subst c1 d1
  have n1 := PySem.F.sub_tuple_set; have n2 := PySem.F.sub_tuple_frozenset; have n3 : (Value.type "tuple" == Value.type "dict") = false := by decide
  refine codeAny_builtin PySem.F.entry_set_init ?_
  rw [Around.under_plainId PySem.F.called_set.init.plain _]
  unfold Builtin.«set.__init__» noKeywords Builtin.Frozenset.updateFrom
  generalize walksOff : pyIter = itr
  wp_walk
  subst walksOff
  refine wpAny_pyIter_tuple l1 (wpAny_bind (wpAny_runValue ?_))
  have sz : (s.heap.push (freshSet led)).objs.size = s.heap.objs.size + 1 := Heap.size_push _ _
  have lx : xs.length = items.size := (StrsAre.len_eq hi).symm.trans Array.length_toList
  have apart : l ≠ (s.heap.push (freshSet led)).objs.size := Nat.ne_of_lt (Nat.lt_of_lt_of_eq (Nat.lt_succ_of_lt ll) sz.symm)
  have out : s.heap.objs.size ∉ [(s.heap.push (freshSet led)).objs.size, l] := by
    simp only [List.mem_cons, List.not_mem_nil, or_false, not_or]
    exact ⟨Nat.ne_of_lt (Nat.lt_of_lt_of_eq (Nat.lt_succ_self _) sz.symm), Nat.ne_of_gt ll⟩
  refine addLoop ((Walks.tuple (by simp [hh]) _ l apart items).toS) s.heap.objs.size out xs lx nd (by omega) (fun i v hv => ?_) xs 0 _ rfl (by omega) ⟨⟨_, Heap.get?_push_size _ rfl, rfl, rfl⟩, l1.push _⟩ ?_ fun s' mv so => ?_
  · obtain ⟨t, e⟩ := SS.strs_at hi i v (by rw [Array.getElem?_toList]; exact hv)
    have lt : i < xs.length := by rw [lx]; exact (Array.getElem?_eq_some_iff.mp hv).1
    refine ⟨xs[i], t, List.getElem?_eq_getElem lt, ?_⟩
    rw [e, List.getD_eq_getElem?_getD, List.getElem?_eq_getElem lt]
    rfl
  · exact SetOf_congr ((setObjOf_fresh (knd := strKind prog w) led).setOf (Heap.get?_push_of_some _ at0) (by unfold scanBound; omega)) (fun _ => rfl) rfl
  · obtain ⟨h', g', d', tk', os'⟩ := s'
    have eg : g' = s.gens := mv.gens; have ed : d' = s.drawn := mv.drawn; have eo : os' = s.os := mv.os
    subst eg ed eo
    refine wpAny_pure (wpAny_pure (hR _ ⟨h', tk', rfl, by rw [lx]; exact so, fun b o hb e => ?_⟩))
    refine mv.heap b o ?_ (Heap.get?_push_of_some _ (Heap.get?_push_of_some _ e))
    simp only [List.mem_cons, List.not_mem_nil, or_false, not_or]
    exact ⟨Nat.ne_of_lt hb, Nat.ne_of_lt (Nat.lt_of_lt_of_eq (Nat.lt_succ_of_lt hb) sz.symm)⟩
/-- set(l) -/
theorem call_set_textsT {l : Addr} {items : Array Value} {xs : List Str} {Q : Value → Shared → Prop} (hh : A.handled = none) (hl : s.heap.IsTuple l items) (hi : StrsAre items.toList xs) (nd : xs.Nodup) (room : xs.length + 1 < scanBound)
    (h : ∀ s2, SetLeft prog w s xs s2 → Q (.ref s.heap.objs.size) s2) : wpAny (model prog w) A (call (.type "set") [.ref l]) Q E s := by
  have CS := PySem.F.called_set
  obtain ⟨c0, t0, mro⟩ := CS.mro
  have a1 := CS.made; have a2 := CS.sub; have a3 := CS.notType; have a4 := CS.canCreate
  have a5 := PySem.F.typeCall_set_1 (.ref l)
  refine wpAny_call (codeAny_of_tree ?_)
  show wpAny _ _ (callAny (.type "set") _) _ _ _; refine wpAny_pure ⟨Code.quiet_builtin _ (by decide +kernel), codeAny_builtin PySem.F.entry_type_call ?_⟩
  rw [Around.under_plain (weight_type_call_type "set" [.ref l] []) rfl]
  repeat (any_goals (first | assumption | wp_step))
  refine codeAny_mono (code_set_new_1 (.ref l) (E := E) (Q₁ := fun obj s₁ => ∃ led : Bool, obj = .ref s.heap.objs.size ∧ s₁ = { s with heap := s.heap.push (freshSet led) }) fun led => ⟨led, rfl, rfl⟩) fun r s₁ hr => ?_
  rcases r with e | (_ | _ | _ | obj)
  · exact hr
  · exact hr.elim
  · exact hr.elim
  · exact hr.elim
  · obtain ⟨led, eo, es⟩ := hr
    subst eo es
    have ty0 : Shared.TypeIs { s with heap := s.heap.push (freshSet led) } (.ref s.heap.objs.size) "set" := ⟨_, Heap.get?_push_size _ rfl, rfl⟩
    have b1 := CS.init.lookup; have b2 := CS.init.bind (.ref s.heap.objs.size)
    repeat (any_goals (first | assumption | wp_step))
    refine codeAny_call_builtin_code (plainId_quiet CS.init.plain _) (check_set_init_1 ty0 (set_bodyT (by simp [hh]) hl hi nd room fun s2 left => ?_))
    repeat (any_goals (first | assumption | wp_step))
    exact h s2 left
end
/-- len(set(texts)), of a list or a tuple -/
def tLenSetB (K : PySem.W.Frag) (ta : TE) : TE := fun σ H Q => ta σ H fun x H1 => ∃ (b : Bool) (l : Addr) (xs : List Str), x = .ref l ∧ SqB K b H1 l (xs.map V.str) ∧ xs.Nodup ∧ xs.length ≤ 4000 ∧ Q (.int (xs.length : Nat)) H1
theorem pe_lenSetB {X : Cx} {a : Expr} {ta : TE} {p p2 q pos : Pos} (hg : Gl X "len") (hm : X.mg "len" = none) (hg2 : Gl X "set") (hm2 : X.mg "set" = none) (ha : PE X a ta) (hc : X.calm = true := by rfl)
    (na : starEach [a] X.env = (false, eval a X.env) :: starEach [] X.env := by rfl) : PE X (.Call (.Name "len" p) [.Call (.Name "set" p2) [a] [] q] [] pos) (tLenSetB X.K ta) := by
  refine ⟨fun pins s σ H Q I h => Call_ (ld_blt I hg hm PySem.boot_len (PyProof.Rows.callWith_builtin1 (PyProof.Rows.args_cons ?_ rfl) rfl rfl))⟩
  refine Call_ (ld_blt I hg2 hm2 PyProof.Rows.boot_set (PyProof.Rows.callWith_type1 (PyProof.Rows.args_cons (thn (ha.run pins s σ H _ I h) ?_) na) na rfl))
  rintro v s1 ⟨x, H1, I1, r1, b, l, xs, rfl, hl, nd, few, k⟩
  cases r1
  refine PyProof.Rows.args_nil ?_
  have fin : ∀ s2 : Shared, SetLeft X.prog X.w s1 xs s2 → wpAny (model X.prog X.w) X.A (call (.builtin "len") [.ref s1.heap.objs.size]) (EP X pins σ Q) X.xe s2 := by
    rintro s2 ⟨h', tk, rfl, ⟨o, es, ep, t, ho, hex, hd, _, _, _, hf, hn⟩, hk⟩
    have I2 : Inv X pins σ H1 { s1 with heap := h', toks := tk } := I1.kept fun b o e => hk b o (Heap.lt_size e) e
    exact call_len_set ho hex hd hf (by rw [hn]; omega) ⟨.int xs.length, H1, I2.tok _, ⟨_, by rw [hn]⟩, k⟩
  cases b with
  | true =>
    obtain ⟨its, rv, pl, _⟩ := I1.list hl
    exact call_set_texts (I1.ok.hd hc) pl.isList (xs := xs) (by simpa using texts_of rv) nd (by unfold scanBound; omega) fun s2 z => PyProof.Rows.args_nil (fin s2 z)
  | false =>
    obtain ⟨its, rv, pl, _⟩ := I1.tuple hl
    obtain ⟨o, e1, e2, n, e3⟩ := pl
    exact call_set_textsT (I1.ok.hd hc) ⟨o, e1, e2, n, e3⟩ (xs := xs) (by simpa using texts_of rv) nd (by unfold scanBound; omega) fun s2 z => PyProof.Rows.args_nil (fin s2 z)
end Ask

set_option Elab.async false
set_option linter.all false
set_option maxRecDepth 100000
set_option maxHeartbeats 4000000
namespace Ask
open PySem L2
open PyProof.Rows
theorem pi_listK {X : Cx} {K : PySem.W.Frag} {tg l : Expr} {tl : TE} (h : X.K = K) (hl : PE X l tl) : PI X tg l (iList K tl) := h ▸ pi_list hl
theorem pi_tupK {X : Cx} {K : PySem.W.Frag} {tg l : Expr} {tl : TE} (h : X.K = K) (hl : PE X l tl) : PI X tg l (iTup K tl) := h ▸ pi_tup hl
theorem yesT {σ : L2.St} {H : Hp} {A B : Hp → Prop} (h : A H) : tYes σ H (fun b H3 => if b = true then A H3 else B H3) := by
  show (if true = true then A H else B H)
  rw [if_pos rfl]
  exact h
/-! [elt for x in .. for y in ..]: the outer and the inner walk by their invariants -/
section
variable {J J1 : It} {n n1 : Nat} {G G1 : Hp → Prop} {Y Y1 : Nat → Hp → V → Hp → Prop} {g g1 : TG} {tt tt1 : TT} {wi1 : TI} {te : TE} {vs vs1 : List Nat} {σ : L2.St} {D : Addr}
theorem lc2_out (w : Walk J n G Y) {H1 : Hp} {Qd : Hp → Prop} (Pv : Nat → Hp → Prop) (h0 : Pv 0 (upd H1 D (.lst []))) (hG : ∀ i H, i ≤ n → Pv i H → G H)
    (hs : ∀ (Nx : Hp → Prop) i x H H', (∀ H2, Pv (i + 1) H2 → Nx H2) → i < n → Pv i H → Y i H x H' → g x (wipe σ vs) H' fun σ2 H2 => wipe σ2 vs = wipe σ vs ∧ tt σ2 H2 fun b H3 =>
      if b = true then wi1 σ2 H3 fun J1 H4 => ∃ W1 : Nat → Nat → Hp → Prop, (∃ m, W1 0 m H4) ∧ ∀ j k H, W1 j k H →
        (J1.stop j H ∧ Nx H) ∨ (J1.go j H ∧ ∃ Nx1 : Hp → Prop, (∀ H', Nx1 H' → ∃ k', k' < k ∧ W1 (j + 1) k' H') ∧ ∀ x H', J1.yld j H x H' → g1 x (wipe σ2 vs1) H' fun σ3 H5 => wipe σ3 vs1 = wipe σ2 vs1 ∧ tt1 σ3 H5 fun b H6 =>
          if b = true then te σ3 H6 fun y H7 => ∃ acc, H7 D = some (.lst acc) ∧ acc.length < sizeLine ∧ Nx1 (upd H7 D (.lst (acc ++ [y]))) else Nx1 H6)
      else Nx H3) (hd : ∀ H, Pv n H → Qd H) :
    ∃ W : Nat → Nat → Hp → Prop, (∃ m, W 0 m (upd H1 D (.lst []))) ∧ ∀ i m H, W i m H →
      (J.stop i H ∧ Qd H) ∨ (J.go i H ∧ ∃ Nx : Hp → Prop, (∀ H', Nx H' → ∃ m', m' < m ∧ W (i + 1) m' H') ∧ ∀ x H', J.yld i H x H' → g x (wipe σ vs) H' fun σ2 H2 => wipe σ2 vs = wipe σ vs ∧ tt σ2 H2 fun b H3 =>
        if b = true then wi1 σ2 H3 fun J1 H4 => ∃ W1 : Nat → Nat → Hp → Prop, (∃ m, W1 0 m H4) ∧ ∀ j k H, W1 j k H →
          (J1.stop j H ∧ Nx H) ∨ (J1.go j H ∧ ∃ Nx1 : Hp → Prop, (∀ H', Nx1 H' → ∃ k', k' < k ∧ W1 (j + 1) k' H') ∧ ∀ x H', J1.yld j H x H' → g1 x (wipe σ2 vs1) H' fun σ3 H5 => wipe σ3 vs1 = wipe σ2 vs1 ∧ tt1 σ3 H5 fun b H6 =>
            if b = true then te σ3 H6 fun y H7 => ∃ acc, H7 D = some (.lst acc) ∧ acc.length < sizeLine ∧ Nx1 (upd H7 D (.lst (acc ++ [y]))) else Nx1 H6)
        else Nx H3) := by
  refine ⟨fun i m H => m = n - i ∧ i ≤ n ∧ Pv i H, ⟨n, by simp, Nat.zero_le _, h0⟩, ?_⟩
  rintro i m H ⟨rfl, hi, p⟩
  have q := hG i H hi p
  by_cases hlt : i < n
  · exact .inr ⟨w.goes i H hlt q, Pv (i + 1), fun H' p' => ⟨n - (i + 1), by omega, rfl, hlt, p'⟩, fun x H' y => hs _ i x H H' (fun _ z => z) hlt p (w.yields i H x H' hlt q y)⟩
  · have e : i = n := by omega
    subst e
    exact .inl ⟨w.stops H q, hd H p⟩
theorem lc2_in (w : Walk J1 n1 G1 Y1) {H4 : Hp} {Nx : Hp → Prop} {σ2 : L2.St} (P1 : Nat → Hp → Prop) (h0 : P1 0 H4) (hG : ∀ j H, j ≤ n1 → P1 j H → G1 H)
    (hs : ∀ j x H H', j < n1 → P1 j H → Y1 j H x H' → g1 x (wipe σ2 vs1) H' fun σ3 H5 => wipe σ3 vs1 = wipe σ2 vs1 ∧ tt1 σ3 H5 fun b H6 =>
      if b = true then te σ3 H6 fun y H7 => ∃ acc, H7 D = some (.lst acc) ∧ acc.length < sizeLine ∧ P1 (j + 1) (upd H7 D (.lst (acc ++ [y]))) else P1 (j + 1) H6) (hd : ∀ H, P1 n1 H → Nx H) :
    ∃ W1 : Nat → Nat → Hp → Prop, (∃ m, W1 0 m H4) ∧ ∀ j k H, W1 j k H →
      (J1.stop j H ∧ Nx H) ∨ (J1.go j H ∧ ∃ Nx1 : Hp → Prop, (∀ H', Nx1 H' → ∃ k', k' < k ∧ W1 (j + 1) k' H') ∧ ∀ x H', J1.yld j H x H' → g1 x (wipe σ2 vs1) H' fun σ3 H5 => wipe σ3 vs1 = wipe σ2 vs1 ∧ tt1 σ3 H5 fun b H6 =>
        if b = true then te σ3 H6 fun y H7 => ∃ acc, H7 D = some (.lst acc) ∧ acc.length < sizeLine ∧ Nx1 (upd H7 D (.lst (acc ++ [y]))) else Nx1 H6) := by
  refine ⟨fun j m H => m = n1 - j ∧ j ≤ n1 ∧ P1 j H, ⟨n1, by simp, Nat.zero_le _, h0⟩, ?_⟩
  rintro j m H ⟨rfl, hj, p⟩
  have q := hG j H hj p
  by_cases hlt : j < n1
  · exact .inr ⟨w.goes j H hlt q, P1 (j + 1), fun H' p' => ⟨n1 - (j + 1), by omega, rfl, hlt, p'⟩, fun x H' y => hs j x H H' hlt p (w.yields j H x H' hlt q y)⟩
  · have e : j = n1 := by omega
    subst e
    exact .inl ⟨w.stops H q, hd H p⟩
end
end Ask

set_option Elab.async false
set_option linter.all false
set_option maxRecDepth 100000
set_option maxHeartbeats 4000000
namespace Ask
open PySem L2
open PyProof.Rows
/-! lists of lists of texts, as data -/
def grpD (gs : List (List Str)) : PyData := .list (gs.map fun g => .list (g.map PyData.str))
theorem grp_dq {H : Hp} {M : Addr} {ls : List Addr} {gs : List (List Str)} (hM : H M = some (.lst (ls.map V.ref))) (fM : Far M) (p : Paired (fun l g => H l = some (.lst ((g : List Str).map V.str)) ∧ Far l) ls gs) : Dq Far H 2 (.ref M) (grpD gs) := by
  refine .inr (.inl ⟨M, ls.map V.ref, gs.map fun g => .list (g.map PyData.str), rfl, rfl, fM, hM, ?_⟩)
  clear hM fM
  induction p with
  | nil => exact .nil
  | cons h _ ih => exact .cons (strs_dq h.1 h.2) ih
theorem grp_sh {gs : List (List Str)} (h : ∀ g ∈ gs, ∀ x ∈ g, (PyData.str x).shown.length ≤ 20) (l : ∀ g ∈ gs, g.length ≤ 40) (l2 : gs.length ≤ 40) : Sh 60 sizeLine (grpD gs) := by
  refine (sh_list (n := 1) (k := 40) (L := 2000) (fun d hd => ?_) (by rw [List.length_map]; exact l2)).up (by decide) (by decide)
  obtain ⟨g, hg, rfl⟩ := List.mem_map.mp hd
  exact strs_sh1 (h g hg) (l g hg)
theorem strs_dpa {K : PySem.W.Frag} {H : Hp} : ∀ xs : List Str, DpAll K H (xs.map V.str) (xs.map PyData.str)
  | [] => .nil
  | x :: xs => .cons (.str x) (strs_dpa xs)
theorem grp_dp {K : PySem.W.Frag} {H : Hp} {M : Addr} {ls : List Addr} {gs : List (List Str)} (hM : H M = some (.lst (ls.map V.ref))) (p : Paired (fun l g => H l = some (.lst ((g : List Str).map V.str))) ls gs) : Dp K H (.ref M) (grpD gs) := by
  refine .lst (SqL.of hM) ?_
  clear hM
  induction p with
  | nil => exact .nil
  | cons h _ ih => exact .cons (.lst (SqL.of h) (strs_dpa _)) ih
theorem grp_lay : ∀ gs : List (List Str), (∀ g ∈ gs, ∀ x ∈ g, PyData.strOk x = true) → PyData.canLayAll0 (gs.map fun g => .list (g.map PyData.str)) = true
  | [], _ => rfl
  | g :: gs, h => by
    have ih := grp_lay gs fun q hq => h q (List.mem_cons_of_mem _ hq)
    have z := lay_strs g (h g List.mem_cons_self)
    show (PyData.canLay0 (.list (g.map PyData.str)) && PyData.canLayAll0 (gs.map fun g => PyData.list (g.map PyData.str))) = true
    rw [ih, Bool.and_true]
    unfold PyData.canLay0
    exact z
theorem grp_shaped {gs : List (List Str)} (h : ∀ g ∈ gs, ∀ x ∈ g, PyData.strOk x = true) : SeqAt.shaped (grpD gs) = true := by
  unfold grpD SeqAt.shaped
  unfold PyData.canLay0
  rw [grp_lay gs h, Bool.true_and, decide_eq_true_eq]
  have z := depAll (k := 2) (gs.map fun g => PyData.list (g.map PyData.str)) fun d hd => by
    obtain ⟨g, _, rfl⟩ := List.mem_map.mp hd
    have z := depAll (k := 1) (g.map PyData.str) fun d hd => by
      obtain ⟨x, _, rfl⟩ := List.mem_map.mp hd
      unfold PyData.depth
      omega
    unfold PyData.depth
    omega
  unfold PyData.depth
  omega
theorem grp_nil (gs : List (List Str)) : (!PyData.eqv (grpD gs) (.list [])) = !gs.isEmpty := by
  cases gs with
  | nil => rfl
  | cons x xs => rfl
theorem paired_mapG {α β γ : Type} {F : α → γ → Prop} {f : β → γ} : ∀ {xs : List α} {ys : List β}, Paired (fun x y => F x (f y)) xs ys → Paired F xs (ys.map f)
  | _, _, .nil => .nil
  | _, _, .cons h t => .cons h (paired_mapG t)
theorem But.tup {D t : Addr} {Ha Hb : Hp} {xs acc : List V} (b : But D Ha Hb) (e : Ha D = some (.lst acc)) (h : Ha t = some (.tup xs)) : Hb t = some (.tup xs) := b _ _ (fun c => by rw [c, e] at h; cases h) h
theorem paired_split {α β γ : Type} {F : α → V → Prop} {G : Addr → β → Prop} {f : α → β} (h : ∀ d v, F d v → ∃ t, v = .ref t ∧ G t (f d)) : ∀ {ds : List α} {ys : List V}, Paired F ds ys → ∃ us : List Addr, ys = us.map V.ref ∧ Paired G us (ds.map f)
  | _, _, .nil => ⟨[], rfl, .nil⟩
  | _, _, .cons z t => by
    obtain ⟨u, rfl, g⟩ := h _ _ z
    obtain ⟨us, rfl, p⟩ := paired_split (γ := γ) h t
    exact ⟨u :: us, rfl, .cons g p⟩
theorem paired_append {α β : Type} {F : α → β → Prop} {us : List α} {zs : List β} (p2 : Paired F us zs) : ∀ {xs : List α} {ys : List β}, Paired F xs ys → Paired F (xs ++ us) (ys ++ zs)
  | _, _, .nil => p2
  | _, _, .cons h t => .cons h (paired_append p2 t)
/-- pairs of texts, as data -/
def prD (z : Str × Str) : PyData := .tuple [.str z.1, .str z.2]
theorem lay_prs : ∀ ps : List (Str × Str), (∀ p ∈ ps, PyData.strOk p.1 = true ∧ PyData.strOk p.2 = true) → PyData.canLayAll0 (ps.map prD) = true
  | [], _ => rfl
  | p :: ps, h => by
    obtain ⟨h1, h2⟩ := h p List.mem_cons_self
    have ih := lay_prs ps fun q hq => h q (List.mem_cons_of_mem _ hq)
    rw [List.map_cons]
    show (PyData.canLay0 (prD p) && PyData.canLayAll0 (ps.map prD)) = true
    rw [ih, Bool.and_true]
    unfold prD
    simp [PyData.canLayAll0, PyData.canLay0, h1, h2]
theorem pr_depth (p : Str × Str) : (prD p).depth ≤ 2 := by
  unfold prD
  simp [PyData.depth, PyData.depthAll]
theorem prs_shaped {ps : List (Str × Str)} (h : ∀ p ∈ ps, PyData.strOk p.1 = true ∧ PyData.strOk p.2 = true) : SeqAt.shaped (.list (ps.map prD)) = true := by
  unfold SeqAt.shaped
  unfold PyData.canLay0
  rw [lay_prs ps h, Bool.true_and, decide_eq_true_eq]
  have z := depAll (k := 2) (ps.map prD) fun d hd => by
    obtain ⟨x, _, rfl⟩ := List.mem_map.mp hd
    exact pr_depth x
  unfold PyData.depth
  omega
theorem pr_shaped {p : Str × Str} (h : PyData.strOk p.1 = true ∧ PyData.strOk p.2 = true) : SeqAt.shaped (prD p) = true := by
  have z := pr_depth p
  unfold SeqAt.shaped
  rw [Bool.and_eq_true, decide_eq_true_eq]
  refine ⟨?_, by omega⟩
  unfold prD
  simp [PyData.canLayAll0, PyData.canLay0, h.1, h.2]
theorem prs_dp {K : PySem.W.Frag} {H : Hp} : ∀ {us : List Addr} {ps : List (Str × Str)}, Paired (fun t p => H t = some (.tup [.str (p : Str × Str).1, .str p.2])) us ps → DpAll K H (us.map V.ref) (ps.map prD)
  | _, _, .nil => .nil
  | _, _, .cons h t => .cons (.tup (SqT.of h) (.cons (.str _) (.cons (.str _) .nil))) (prs_dp t)
theorem pr_dp {K : PySem.W.Frag} {H : Hp} {t : Addr} {x y : Str} (h : H t = some (.tup [.str x, .str y])) : Dp K H (.ref t) (prD (x, y)) := .tup (SqT.of h) (.cons (.str _) (.cons (.str _) .nil))
theorem prs_any (zs : List (Str × Str)) (a b : Str) : ((zs.map prD).any fun z => PyData.eqv z (prD (a, b))) = decide ((a, b) ∈ zs) := by
  rw [List.any_map, Bool.eq_iff_iff, List.any_eq_true, decide_eq_true_eq]
  have e : ∀ z : Str × Str, PyData.eqv (prD z) (prD (a, b)) = true ↔ z = (a, b) := fun z => by
    show (z.1 == a && (z.2 == b && true)) = true ↔ _
    rw [Bool.and_true, Bool.and_eq_true, beq_iff_eq, beq_iff_eq]
    exact ⟨fun ⟨h1, h2⟩ => Prod.ext h1 h2, fun h => by rw [h]; exact ⟨rfl, rfl⟩⟩
  constructor
  · rintro ⟨z, hz, h⟩
    rw [(e z).mp h] at hz
    exact hz
  · intro h
    exact ⟨_, h, (e _).mpr rfl⟩
end Ask
namespace L2
open PySem
theorem Room.units65 {k : Nat} {A : Around} (r : Room k A) : A.units + 65 < cLine := by
  have := r.un
  omega
theorem mt_indexK {X : Cx} {K : PySem.W.Frag} (h : X.K = K) : MtR X "list.index" (rIndex K) := h ▸ mt_index
end L2

set_option Elab.async false
set_option linter.all false
set_option maxRecDepth 100000
set_option maxHeartbeats 4000000
/-! min(x, y) and min(xs) of alike data -/
namespace PySem
open Sem (wp)
section
variable {prog : Program} {w : World} {A : Around} {E : Value → Shared → Prop} {s : Shared}
theorem call_min_twoH {a b : Value} {Q : Value → Shared → Prop}
    (h : wpAny (model prog w) A.in1 (pyIter (.ref s.heap.objs.size)) (fun it s₂ => ∃ I fp wr G n P St H bt, it = .ref I ∧ WalksS prog w A.in1 I fp wr G n P St ∧ St 0 s₂ ∧ (∀ b ∈ fp, b < s₂.heap.objs.size) ∧ 0 < n ∧
      (∀ b o, H.get? b = some o → b ∉ wr) ∧ (∀ b o, H.get? b = some o → s₂.heap.get? b = some o) ∧ CmpIn prog w A.in1 .Lt H P bt ∧ ∀ v s', P (argBest bt (n - 1)) v → Moved wr G s₂ s' → Q v s') E
      { s with heap := s.heap.push { cls := .type "tuple", data := .seq #[a, b] } }) :
    wpAny (model prog w) A (call (.builtin "min") [a, b]) Q E s := by
  have hname : (toString "min" ++ toString ".loop" : String) = "min.loop" := by decide
  refine call_function_tree F.kind_min F.plain_min F.entry_min (F.args_min2 _ _) ?_
  show wpAny _ A.in1 (Builtin.Builtins.bindParams "min" ["key", "default"] 0 ⟨[], []⟩ >>= _) _ _ s
  refine wpAny_bind (wpAny_of_eq (show Builtin.Builtins.bindParams "min" ["key", "default"] 0 ⟨[], []⟩ = pure [none, none] from rfl) ?_)
  show wpAny _ A.in1 (newTuple [a, b] >>= _) _ _ s
  refine wpAny_bind (wpAny_newObj_type ?_)
  refine wpAny_bind (wpAny_mono h (fun it s₂ h₂ => ?_) fun _ _ e => e)
  obtain ⟨I, fp, wr, G, n, P, St, H, bt, rfl, W, hst, hfp, hn, hw, hkeep, hcmp, hQ⟩ := h₂
  refine wpAny_bind (wpAny_newObj_type ?_)
  have hSf : s₂.heap.objs.size ∉ fp := fun hm => Nat.lt_irrefl _ (hfp _ hm)
  rw [hname]
  refine wpAny_pure ⟨plainId_quiet F.plain_min_loop _, codeAny_min_loop_firstH W H hw bt hcmp s₂.heap.objs.size hSf (fresh_in hkeep) _ hn (fun b o e => Heap.get?_push_of_some _ (hkeep b o e)) (W.frame 0 s₂ _ s₂.toks hst (Nat.le_refl _) fun b _ o e => Heap.get?_push_of_some _ e) (Heap.get?_push_size _ rfl) fun v s' hP hm => ?_⟩
  exact hQ v s' hP (Moved.drop_new (tk := s₂.toks) hm (Nat.le_refl _))
end
end PySem
namespace PySem.W
open PySem PySem.SeqAt PyProof.Rows
section
variable {prog : Program} {w : World} {A : Around} {E : Value → Shared → Prop} {s : Shared}
theorem readsAll_kept {h h' : Heap} (k : ∀ b o, h.get? b = some o → h'.get? b = some o) : ∀ {vs : List Value} {ds : List PyData} {as : List Addr}, ReadsAll h vs ds as → ReadsAll h' vs ds as
  | _, _, _, .nil => .nil
  | _, _, _, .cons r rs => .cons (Reads.keeps k r) (readsAll_kept k rs)
theorem min_two_data {a b : Value} {x y : PyData} {as : List Addr} {Q : Value → Shared → Prop} (hh : A.handled = none) (hr : ReadsAll s.heap [a, b] [x, y] as) (ha : AlikeAll [x, y]) (hu : A.units + 1 + PyData.depthAll [x, y] < cLine)
    (h : ∀ h' tk, (∀ b o, s.heap.get? b = some o → h'.get? b = some o) → Q (if dataLt y x = true then b else a) { s with heap := h', toks := tk }) :
    wpAny (model prog w) A (call (.builtin "min") [a, b]) Q E s := by
  refine call_min_twoH ?_
  have hT : (s.heap.push { cls := .type "tuple", data := .seq #[a, b] }).IsTuple s.heap.objs.size #[a, b] := ⟨_, Heap.get?_push_size _ rfl, rfl, 0, rfl⟩
  have k0 : ∀ b' o, s.heap.get? b' = some o → (s.heap.push { cls := .type "tuple", data := .seq #[a, b] }).get? b' = some o := fun b' o e => Heap.get?_push_of_some _ e
  refine iter_tupleW (s := { s with heap := s.heap.push { cls := .type "tuple", data := .seq #[a, b] } }) hh hT fun s₂ e W st hfp hw hk => ?_
  have hr' : ReadsAll (s.heap.push { cls := .type "tuple", data := .seq #[a, b] }) (#[a, b] : Array Value).toList [x, y] as := readsAll_kept k0 hr
  refine ⟨_, _, _, _, _, _, _, _, _, rfl, W, st, hfp, by simp, hw, hk, cmpIn_lt (A := A.in1) (s := { s with heap := s.heap.push { cls := .type "tuple", data := .seq #[a, b] } }) hr' ha (by show A.units + 1 + _ < _; exact hu), fun v s' hP m => ?_⟩
  obtain ⟨h', tk, rfl, hk'⟩ := moved_old e rfl m
  have z := h h' tk fun b' o e' => hk' b' o (k0 b' o e')
  have hv : v = if dataLt y x = true then b else a := by
    have e2 : argBest (fun i j => dataLt ([x, y].getD i .none) ([x, y].getD j .none)) ((#[a, b] : Array Value).size - 1) = if dataLt y x = true then 1 else 0 := by
      show (if dataLt y x = true then 1 else 0) = _
      rfl
    rw [e2] at hP
    by_cases c : dataLt y x = true
    · rw [if_pos c] at hP ⊢
      exact (Option.some.inj hP).symm
    · rw [if_neg c] at hP ⊢
      exact (Option.some.inj hP).symm
  rw [hv]
  exact z
end
end PySem.W
namespace Ask
open PySem L2 PyProof.Rows
/-- min(x, y) of alike data -/
def rMin2D (K : PySem.W.Frag) : List V → Hp → VK → Prop := fun vs H Q => ∃ (x y : V) (d e : PyData), vs = [x, y] ∧ Dp K H x d ∧ Dp K H y e ∧ PySem.W.AlikeAll [d, e] ∧ PyData.depthAll [d, e] ≤ 60 ∧ Q (if PySem.W.dataLt e d = true then y else x) H
theorem cr_min2D {X : Cx} (hc : X.calm = true) (hu : X.A.units + 64 < cLine) : CallR X (.builtin "min") (rMin2D X.K) := by
  intro pins s σ H vs us Q I r h
  obtain ⟨x, y, d, e, rfl, hd, he, al, dep, q⟩ := h
  obtain ⟨u, u', rfl, r1, r2⟩ := vals2 r
  obtain ⟨as, ra⟩ := Dp.readsAll I [d, e] [x, y] [u, u'] (.cons hd (.cons he .nil)) (.cons r1 (.cons r2 .nil))
  refine PySem.W.min_two_data (I.ok.hd hc) ra al (by omega) fun h' tk k => ⟨_, H, I.kept k, ?_, q⟩
  by_cases c : PySem.W.dataLt e d = true
  · rw [if_pos c, if_pos c]; exact r2
  · rw [if_neg c, if_neg c]; exact r1
end Ask

set_option Elab.async false
set_option linter.all false
set_option maxRecDepth 100000
set_option maxHeartbeats 2000000
namespace Ask
open PySem PySem.Spec L2
open PyProof.Rows
/-- two ints and a text -/
structure K3 where
  x : Int
  y : Int
  n : Str
deriving DecidableEq
def K3At (H : Hp) (t : Addr) (r : K3) : Prop := H t = some (.tup [.int r.x, .int r.y, .str r.n])
def k3In (H : Hp) (t : Addr) : K3 := match H t with
  | some (.tup [.int l, .int h, .str n]) => ⟨l, h, n⟩
  | _ => ⟨0, 0, ""⟩
theorem K3At.key {H : Hp} {t : Addr} {r : K3} (h : K3At H t r) : k3In H t = r := by
  unfold K3At at h
  unfold k3In
  rw [h]
def k3V (H : Hp) : Value → K3
  | .ref t => k3In H t
  | _ => ⟨0, 0, ""⟩
def IsK3 (h : Heap) (v : Value) (r : K3) : Prop := ∃ (a : Addr) (o : Obj) (k1 k2 k3 : Tok) (n : Nat), v = .ref a ∧ h.get? a = some o ∧ o.cls = .type "tuple" ∧ o.data = .seq #[.int r.x k1, .int r.y k2, .str r.n k3] n
theorem IsK3.keeps {h h' : Heap} {v : Value} {r : K3} (p : IsK3 h v r) (k : ∀ b o, h.get? b = some o → o.cls = .type "tuple" → h'.get? b = some o) : IsK3 h' v r := by
  obtain ⟨a, o, k1, k2, k3, n, e, ho, hc, hd⟩ := p
  exact ⟨a, o, k1, k2, k3, n, e, k _ _ ho hc, hc, hd⟩
/-- by the first int, then the second, then the text -/
def LtK (a b : K3) : Prop := a.x < b.x ∨ (a.x = b.x ∧ (a.y < b.y ∨ (a.y = b.y ∧ ltS a.n b.n)))
instance (a b : K3) : Decidable (LtK a b) := inferInstanceAs (Decidable (_ ∨ (_ ∧ (_ ∨ (_ ∧ _)))))
def ltK (a b : K3) : Bool := decide (LtK a b)
theorem LtK.tri (a b : K3) : LtK a b ∨ a = b ∨ LtK b a := by
  unfold LtK
  obtain ⟨x, y, n⟩ := a
  obtain ⟨x', y', n'⟩ := b
  rcases Int.lt_trichotomy x x' with h | h | h
  · exact .inl (.inl h)
  · subst h
    rcases Int.lt_trichotomy y y' with h | h | h
    · exact .inl (.inr ⟨rfl, .inl h⟩)
    · subst h
      rcases ltS_tri n n' with h | h | h
      · exact .inl (.inr ⟨rfl, .inr ⟨rfl, h⟩⟩)
      · subst h
        exact .inr (.inl rfl)
      · exact .inr (.inr (.inr ⟨rfl, .inr ⟨rfl, h⟩⟩))
    · exact .inr (.inr (.inr ⟨rfl, .inl h⟩))
  · exact .inr (.inr (.inl h))
theorem LtK.trans {a b c : K3} (h1 : LtK a b) (h2 : LtK b c) : LtK a c := by
  unfold LtK at *
  rcases h1 with h | ⟨e, h⟩
  · rcases h2 with g | ⟨f, g⟩
    · exact .inl (by omega)
    · exact .inl (by omega)
  · rcases h2 with g | ⟨f, g⟩
    · exact .inl (by omega)
    · refine .inr ⟨by omega, ?_⟩
      rcases h with h | ⟨e2, h⟩
      · rcases g with g | ⟨f2, g⟩
        · exact .inl (by omega)
        · exact .inl (by omega)
      · rcases g with g | ⟨f2, g⟩
        · exact .inl (by omega)
        · exact .inr ⟨by omega, ltS_trans h g⟩
theorem LtK.irrefl (a : K3) : ¬ LtK a a := by
  unfold LtK
  rintro (h | ⟨_, h | ⟨_, h⟩⟩)
  · omega
  · omega
  · exact ltS_irrefl _ h
theorem swo_k3 {α : Type} (k : α → K3) : SrtO.Swo fun v u => ltK (k v) (k u) := by
  refine ⟨fun x y h => ?_, fun x y z h1 h2 => ?_⟩
  · have p : LtK (k x) (k y) := of_decide_eq_true h
    exact decide_eq_false fun q => LtK.irrefl _ (p.trans q)
  · have p : ¬ LtK (k y) (k x) := of_decide_eq_false h1
    have q : ¬ LtK (k z) (k y) := of_decide_eq_false h2
    refine decide_eq_false fun c => ?_
    rcases LtK.tri (k x) (k y) with e | e | e
    · exact q (c.trans e)
    · exact q (e ▸ c)
    · exact p e
section
variable {prog : Program} {w : World} {A : Around} {s : Shared}
theorem k3_cmp {vs : List Value} {k : Value → K3} (hp : ∀ v ∈ vs, IsK3 s.heap v (k v)) : SrtO.Cmp prog w A s (tuples' true) (fun p => p.1 ∈ vs) (SrtO.lt2 fun v u => ltK (k v) (k u)) := by
  intro x y hx hy
  have p1 := hp _ hx
  have p2 := hp _ hy
  show wpAny (model prog w) A (keyLt' (tuples' true) x.1 y.1) (fun r s' => s' = s ∧ r = ltK (k x.1) (k y.1)) (fun _ _ => False) s
  generalize k x.1 = r1 at p1 ⊢
  generalize k y.1 = r2 at p2 ⊢
  obtain ⟨a1, o1, k1, k2, k3, n1, e1, g1, c1, d1⟩ := p1
  obtain ⟨a2, o2, m1, m2, m3, n2, e2, g2, c2, d2⟩ := p2
  rw [e1, e2]
  refine PySem.W.kat_lt g1 d1 g2 d2 ?_
  show PySem.W.KatLex prog w A true (decide (3 < 3)) _ [(.int r1.x k1, .int r2.x m1), (.int r1.y k2, .int r2.y m2), (.str r1.n k3, .str r2.n m3)] 0 s
  refine PySem.W.kat_cons (SeqAt.EqAt.int_int _ k1 _ m1 prog w _ _ ?_)
  refine PySem.W.kat_go (fun z => ?_) (fun z => ?_)
  · have ex : r1.x = r2.x := by simpa using z
    refine PySem.W.kat_yes (PySem.W.kat_cons (SeqAt.EqAt.int_int _ k2 _ m2 prog w _ _ ?_))
    refine PySem.W.kat_go (fun z2 => ?_) (fun z2 => ?_)
    · have ey : r1.y = r2.y := by simpa using z2
      refine PySem.W.kat_yes (PySem.W.kat_cons (SeqAt.EqAt.str_str _ k3 _ m3 prog w _ _ ?_))
      refine PySem.W.kat_go (fun z3 => ?_) (fun z3 => ?_)
      · have en : r1.n = r2.n := by simpa using z3
        have e : r1 = r2 := by
          obtain ⟨a, b, c⟩ := r1
          obtain ⟨a', b', c'⟩ := r2
          simp at ex ey en
          rw [ex, ey, en]
        subst e
        exact PySem.W.kat_yes (PySem.W.kat_nil ⟨rfl, (decide_eq_false (LtK.irrefl _)).symm⟩)
      · refine PySem.W.kat_no (oneLt_any_str ⟨rfl, ?_⟩)
        unfold ltK LtK
        simp [ex, ey]
        rfl
    · have ey : ¬ r1.y = r2.y := by simpa using z2
      refine PySem.W.kat_no (oneLt_any_int ⟨rfl, ?_⟩)
      unfold ltK LtK
      simp [ex, ey]
  · have ex : ¬ r1.x = r2.x := by simpa using z
    refine PySem.W.kat_no (oneLt_int ⟨rfl, ?_⟩)
    unfold ltK LtK
    simp [ex]
theorem k3_firsts {h : Heap} : ∀ {vs : List Value}, (∀ v ∈ vs, ∃ r, IsK3 h v r) → ∃ fs : List Value, PySem.W.KatTups h vs fs ∧ fs.length = vs.length ∧ ∀ f ∈ fs, ∃ x t, f = Value.int x t
  | [], _ => ⟨[], PySem.W.KatTups.nil, rfl, fun _ c => nomatch c⟩
  | v :: vs, hp => by
    obtain ⟨fs, q1, q2, q3⟩ := k3_firsts (vs := vs) fun u c => hp u (List.mem_cons_of_mem _ c)
    obtain ⟨r, a, o, k1, k2, k3, n, e, g, c, d⟩ := hp v List.mem_cons_self
    subst e
    refine ⟨.int r.x k1 :: fs, PySem.W.KatTups.cons g c d rfl q1, by rw [List.length_cons, List.length_cons, q2], fun f z => ?_⟩
    rcases List.mem_cons.mp z with rfl | z
    · exact ⟨r.x, k1, rfl⟩
    · exact q3 f z
theorem k3_sortable {a : Addr} {vs : List Value} {k : Value → K3} (h0 : 0 < vs.length) (hp : ∀ v ∈ vs, IsK3 s.heap v (k v)) (ha : ∀ o, s.heap.get? a = some o → o.cls ≠ .type "tuple") :
    SrtO.SortableO prog w A s a vs fun v u => ltK (k v) (k u) := by
  intro h' keep
  have hp2 : ∀ v ∈ vs, IsK3 h' v (k v) := fun v c => (hp v c).keeps fun b o e d => keep b o (fun z => by subst z; exact ha o e d) e
  obtain ⟨fs, q1, q2, q3⟩ := k3_firsts fun v c => ⟨_, hp2 v c⟩
  refine ⟨tuples' true, fun Q E hq => ?_, k3_cmp hp2⟩
  refine PySem.W.kat_kind (T := .type "int") q1 (by omega) (fun f c => ?_) (by rfl) ?_
  · obtain ⟨x, t, rfl⟩ := q3 f c
    exact PySem.W.Looks.now
  · have e : (Value.type "int" != Value.type "tuple") = true := by first | decide +kernel | rfl | decide
    rw [e]
    exact hq
end
/-- sorted(xs), xs tuples of two ints and a text -/
def rSortK3 (K : PySem.W.Frag) : List V → Hp → VK → Prop := fun vs H Q => ∃ (a : Addr) (ts : List Addr) (rs : List K3), vs = [V.ref a] ∧ SqL K H a (ts.map V.ref) ∧ Paired (K3At H) ts rs ∧ rs.Nodup ∧
  ∀ (us : List Addr) (qs : List K3) (p : Addr), Paired (K3At H) us qs → us.Perm ts → qs.Perm rs → qs.Pairwise LtK → H p = none → Q (.ref p) (upd H p (.lst (us.map V.ref)))
theorem k3s_are {H : Hp} : ∀ {ts : List Addr} {rs : List K3}, Paired (K3At H) ts rs → ts.map (k3In H) = rs
  | _, _, .nil => rfl
  | _, _, .cons h t => by rw [List.map_cons, h.key, k3s_are t]
theorem k3s_of {H : Hp} : ∀ {ts : List Addr}, (∀ t ∈ ts, K3At H t (k3In H t)) → Paired (K3At H) ts (ts.map (k3In H))
  | [], _ => .nil
  | t :: ts, h => .cons (h t List.mem_cons_self) (k3s_of fun u hu => h u (List.mem_cons_of_mem _ hu))
theorem cr_sortedK3 {X : Cx} : CallR X (.builtin "sorted") (rSortK3 X.K) := by
  intro ps s τ H vs us Q I r h
  obtain ⟨a, ts, rs, rfl, hs, pr, nd, q⟩ := h
  obtain ⟨its, rv, hl, hz⟩ := I.list hs
  obtain ⟨u, rfl, ru⟩ := vals1 r
  obtain rfl : u = Value.ref a := ru
  have ei := nts_of rv
  subst ei
  have er := k3s_are pr
  have rowt : ∀ t ∈ ts, K3At H t (k3In H t) := fun t ht => by
    obtain ⟨i, _, e⟩ := List.mem_iff_getElem?.mp ht |>.imp fun i e => And.intro trivial e
    obtain ⟨r, _, hr⟩ := paired_get pr e
    rw [hr.key]
    exact hr
  have hrow : ∀ v ∈ ts.map Value.ref, IsK3 s.heap v (k3V H v) := fun v hv => by
    obtain ⟨t, ht, rfl⟩ := List.mem_map.mp hv
    have hr := rowt t ht
    obtain ⟨_, its2, r2, o, ho, hc, n, hd⟩ := I.hok _ _ hr
    cases r2 with
    | cons x1 y1 =>
    cases y1 with
    | cons x2 y2 =>
    cases y2 with
    | cons x3 y3 =>
    cases y3
    obtain ⟨t1, rfl⟩ := x1
    obtain ⟨t2, rfl⟩ := x2
    obtain ⟨t3, rfl⟩ := x3
    exact ⟨t, o, t1, t2, t3, n, rfl, ho, hc, hd⟩
  refine SrtO.sorted_ord (swo_k3 (k3V H)) hl.isList (by rw [← rv.length]; exact hz) (fun h2 h1 b hb kk => ?_) fun out q1 q2 => ?_
  · refine k3_sortable (s := { s with heap := h1 }) (by omega) (fun v hm => (hrow v hm).keeps fun b o e _ => (kk b o e).2) fun o e => ?_
    have e' : some o = some (seqObj "list" (ts.map Value.ref).toArray 0) := e.symm.trans hb
    cases e'
    intro c
    exact absurd (Value.type.inj c) (by decide)
  · have h3 : ∀ v ∈ out, ∃ t, v = Value.ref t := fun v hv => by
      obtain ⟨t, _, e⟩ := List.mem_map.mp (q2.perm.mem_iff.mp hv)
      exact ⟨t, e.symm⟩
    obtain ⟨n, hn⟩ := sortedAll_at s.heap (ts.map Value.ref) out.toArray
    have eo := ref_map h3
    generalize hu : out.map adO = us at eo
    subst eo
    have pu : us.Perm ts := by
      have z := q2.perm.map adO
      rw [ad_map, ad_map] at z
      exact z
    have hus : ∀ t ∈ us, K3At H t (k3In H t) := fun t ht => rowt t (pu.mem_iff.mp ht)
    have pq : (us.map (k3In H)).Perm rs := by
      rw [← er]
      exact pu.map _
    have asc : (us.map (k3In H)).Pairwise LtK := by
      have n1 : (us.map (k3In H)).Nodup := pq.nodup_iff.mpr nd
      have z1 : (us.map (k3In H)).Pairwise fun x y => ¬ LtK y x := by
        rw [List.pairwise_map]
        have z : us.Pairwise fun x y => ltK (k3In H y) (k3In H x) = false := List.pairwise_map.mp q1
        exact z.imp fun {x y} c => of_decide_eq_false c
      refine (z1.and (List.nodup_iff_pairwise_ne.mp n1)).imp fun {x y} c => ?_
      rcases LtK.tri x y with e | e | e
      · exact e
      · exact absurd e c.2
      · exact absurd e c.1
    have hd : s.heap.objs.size ≤ s.heap.objs.size + 1 := Nat.le_succ _
    refine ⟨.ref (s.heap.objs.size + 1), upd H (s.heap.objs.size + 1) (.lst (us.map V.ref)), I.laid (t' := s.toks) (fun b o e => sortedAll_old e) hd ⟨?_, us.map Value.ref, n, of_nts us, hn⟩, rfl, q us _ _ (k3s_of hus) pu pq asc (I.hok.fresh hd)⟩
    rw [List.length_map, pu.length_eq]
    have z := hz
    rw [List.length_map] at z
    exact z
end Ask

set_option Elab.async false
set_option linter.all false
set_option maxRecDepth 100000
set_option maxHeartbeats 4000000
/-! sorted(xs), min(xs): xs a list of alike data (tuples) -/
namespace Ask
open PySem L2 PyProof.Rows
open PySem.W (dataLe dataLt AllAlike Sortable AlikeAll minD EachIs)
/-- sorted(xs), the items of xs stand for enc b -/
def rSortD (K : PySem.W.Frag) {β : Type} (enc : β → PyData) : List V → Hp → VK → Prop := fun vs H Q => ∃ (a : Addr) (ts : List Addr) (bs : List β), vs = [V.ref a] ∧ SqL K H a (ts.map V.ref) ∧ Paired (fun t b => Dp K H (.ref t) (enc b)) ts bs ∧ AllAlike (bs.map enc) ∧ Sortable (bs.map enc) ∧ (∀ b ∈ bs, (enc b).depth ≤ 60) ∧
  ∀ (us : List Addr) (p : Addr), Paired (fun t b => (t, b) ∈ ts.zip bs) us (bs.mergeSort (dataLe false enc)) → H p = none → Q (.ref p) (upd H p (.lst (us.map V.ref)))
theorem each_zip {β : Type} : ∀ {ts : List Addr} {bs : List β}, ts.length = bs.length → EachIs (fun v b => ∃ t, v = Value.ref t ∧ (t, b) ∈ ts.zip bs) (ts.map Value.ref) bs
  | [], [], _ => .nil
  | t :: ts, b :: bs, h => by
    refine .cons ⟨t, rfl, List.mem_cons_self⟩ ?_
    refine (each_zip (ts := ts) (bs := bs) (by simpa using h)).mono fun v b ⟨t, e, z⟩ => ⟨t, e, List.mem_cons_of_mem _ z⟩
theorem each_reads {X : Cx} {pins : List (Addr × Obj)} {σ : L2.St} {H : Hp} {s : Shared} {β : Type} {enc : β → PyData} (I : Inv X pins σ H s) : ∀ {ts : List Addr} {bs : List β}, Paired (fun t b => Dp X.K H (.ref t) (enc b)) ts bs → EachIs (fun v b => ∃ as, Reads s.heap v (enc b) as) (ts.map Value.ref) bs
  | _, _, .nil => .nil
  | _, _, .cons h t => .cons (Dp.reads I _ _ _ h rfl) (each_reads I t)
theorem each_refs {β : Type} {F : Addr → β → Prop} : ∀ {vs : List Value} {bs : List β}, EachIs (fun v b => ∃ t, v = Value.ref t ∧ F t b) vs bs → ∃ us : List Addr, vs = us.map Value.ref ∧ Paired F us bs
  | _, _, .nil => ⟨[], rfl, .nil⟩
  | _, _, .cons ⟨t, e, f⟩ r => by
    obtain ⟨us, e2, p⟩ := each_refs r
    exact ⟨t :: us, by rw [e, e2]; rfl, .cons f p⟩
theorem vals_refs : ∀ us : List Addr, Vals (us.map V.ref) (us.map Value.ref)
  | [] => .nil
  | u :: us => .cons rfl (vals_refs us)
theorem cr_sortedData {X : Cx} {β : Type} (enc : β → PyData) (hu : X.A.units + 64 < cLine) : CallR X (.builtin "sorted") (rSortD X.K enc) := by
  intro ps s τ H vs us Q I r h
  obtain ⟨a, ts, bs, rfl, hs, pr, al, so, dep, q⟩ := h
  obtain ⟨its, rv, hl, hz⟩ := I.list hs
  obtain ⟨u, rfl, ru⟩ := vals1 r
  obtain rfl : u = Value.ref a := ru
  have ei := nts_of rv
  subst ei
  have tl := paired_len pr
  have zl : bs.length ≤ sizeLine := by
    rw [← tl]
    have z := rv.length
    rw [List.length_map] at z hz
    rw [List.length_map] at z
    omega
  refine PySem.W.sorted_data (enc := enc) (R := fun v b => ∃ t, v = Value.ref t ∧ (t, b) ∈ ts.zip bs) hl.isList (each_zip tl) (each_reads I pr) al so zl (fun b hb => by have := dep b hb; omega) fun out ol eo => ?_
  obtain ⟨us, rfl, pu⟩ := each_refs eo
  obtain ⟨n, hn⟩ := sortedAll_at s.heap (ts.map Value.ref) (us.map Value.ref).toArray
  have hlen : (us.map V.ref).length ≤ sizeLine := by
    rw [List.length_map] at ol ⊢
    omega
  exact ⟨.ref _, upd H (s.heap.objs.size + 1) (.lst (us.map V.ref)), I.laid (t' := s.toks) (fun _ _ => PyProof.Rows.sortedAll_old) (Nat.le_succ _) ⟨hlen, us.map Value.ref, n, vals_refs us, hn⟩, rfl, q us _ pu (I.hok.fresh (Nat.le_succ _))⟩
/-- min(xs), xs a list that is not empty -/
def rMinLD (K : PySem.W.Frag) {β : Type} (enc : β → PyData) : List V → Hp → VK → Prop := fun vs H Q => ∃ (a : Addr) (ts : List Addr) (b0 : β) (bs : List β), vs = [V.ref a] ∧ SqL K H a (ts.map V.ref) ∧ Paired (fun t b => Dp K H (.ref t) (enc b)) ts (b0 :: bs) ∧ AlikeAll ((b0 :: bs).map enc) ∧ (∀ b ∈ b0 :: bs, (enc b).canLay0 = true) ∧ PyData.depthAll ((b0 :: bs).map enc) ≤ 60 ∧
  ∀ (t : Addr) (b : β), (t, b) ∈ ts.zip (b0 :: bs) → enc b = minD (enc b0) (bs.map enc) → Q (.ref t) H
theorem minD_mem (x : PyData) (xs : List PyData) : minD x xs ∈ x :: xs := by
  unfold minD
  induction xs generalizing x with
  | nil => exact List.mem_cons_self
  | cons y ys ih =>
    rw [List.foldl_cons]
    have z := ih (if dataLt y x = true then y else x)
    rcases List.mem_cons.mp z with e | e
    · by_cases c : dataLt y x = true
      · rw [if_pos c] at e ⊢
        rw [e]
        exact List.mem_cons_of_mem _ List.mem_cons_self
      · rw [if_neg c] at e ⊢
        rw [e]
        exact List.mem_cons_self
    · exact List.mem_cons_of_mem _ (List.mem_cons_of_mem _ e)
theorem cr_minLD {X : Cx} {β : Type} (enc : β → PyData) (hc : X.calm = true) (hu : X.A.units + 64 < cLine) : CallR X (.builtin "min") (rMinLD X.K enc) := by
  intro ps s τ H vs us Q I r h
  obtain ⟨a, ts, b0, bs, rfl, hs, pr, al, can, dep, q⟩ := h
  obtain ⟨its, rv, hl, hz⟩ := I.list hs
  obtain ⟨u, rfl, ru⟩ := vals1 r
  obtain rfl : u = Value.ref a := ru
  have ei := nts_of rv
  subst ei
  have er := each_reads I pr
  obtain ⟨as, ra⟩ := PySem.W.each_readsAll enc er
  refine PySem.W.min_list_data (I.ok.hd hc) hl.isList (by simpa using ra) al (by show X.A.units + 1 + PyData.depthAll ((b0 :: bs).map enc) < cLine; omega) fun i v h' tk bs' hv rm k => ?_
  have hv' : (ts.map Value.ref)[i]? = some v := by simpa using hv
  rw [List.getElem?_map] at hv'
  cases et : ts[i]? with
  | none => rw [et] at hv'; cases hv'
  | some t =>
    rw [et] at hv'
    obtain rfl : Value.ref t = v := Option.some.inj hv'
    obtain ⟨b, eb, db⟩ := LiI.paired_get pr et
    have mb := List.mem_of_getElem? eb
    obtain ⟨as2, r2⟩ := Dp.reads I _ _ _ db (show RelV (.ref t) (.ref t) from rfl)
    have r3 := Reads.keeps k r2
    have c1 := can b mb
    have c2 : (minD (enc b0) (bs.map enc)).canLay0 = true := by
      obtain ⟨b2, hb2, e2⟩ := List.mem_map.mp (show minD (enc b0) (bs.map enc) ∈ (b0 :: bs).map enc from minD_mem _ _)
      rw [← e2]
      exact can b2 hb2
    have e : enc b = minD (enc b0) (bs.map enc) := (PySem.SeqAt.readOf_eq c1 r3).symm.trans (PySem.SeqAt.readOf_eq c2 rm)
    exact ⟨.ref t, H, I.kept (t' := tk) k, rfl, q t b (by
      refine List.mem_iff_getElem?.mpr ⟨i, ?_⟩
      rw [List.getElem?_zip_eq_some]
      exact ⟨et, eb⟩) e⟩
end Ask

set_option Elab.async false
set_option linter.all false
set_option maxRecDepth 100000
set_option maxHeartbeats 4000000
/-! pairs of an int and a list of texts as data -/
namespace Ask
open PySem PySem.Spec L2 PyProof.Rows
open PySem.W (dataLe dataLt AllAlike Sortable AlikeAll minD EachIs alike alikeAll)
abbrev Sc := Int × List Str
def scD (p : Sc) : PyData := .tuple [.int p.1, .list (p.2.map PyData.str)]
def ScAt (H : Hp) (t : Addr) (p : Sc) : Prop := ∃ l, H t = some (.tup [.int p.1, .ref l]) ∧ H l = some (.lst (p.2.map V.str))
theorem ScAt.same {H H' : Hp} {t : Addr} {p : Sc} (h : ScAt H t p) (s : Same H H') : ScAt H' t p := by
  obtain ⟨l, h1, h2⟩ := h
  exact ⟨l, s _ _ h1, s _ _ h2⟩
theorem ScAt.dp {K : PySem.W.Frag} {H : Hp} {t : Addr} {p : Sc} (h : ScAt H t p) : Dp K H (.ref t) (scD p) := by
  obtain ⟨l, h1, h2⟩ := h
  exact .tup (SqT.of h1) (.cons (.int _) (.cons (.lst (SqL.of h2) (strs_dpa _)) .nil))
theorem sc_alike_strs : ∀ xs ys : List Str, alikeAll (xs.map PyData.str) (ys.map PyData.str) = true
  | [], _ => by simp [alikeAll]
  | _ :: _, [] => by simp [alikeAll]
  | x :: xs, y :: ys => by
    show (alike (.str x) (.str y) && alikeAll (xs.map PyData.str) (ys.map PyData.str)) = true
    rw [sc_alike_strs xs ys, Bool.and_true]
    rfl
theorem sc_alike (x y : Sc) : alike (scD x) (scD y) = true := by
  show (alike (.int x.1) (.int y.1) && (alike (.list _) (.list _) && alikeAll [] [])) = true
  rw [show alike (.list (x.2.map PyData.str)) (.list (y.2.map PyData.str)) = alikeAll (x.2.map PyData.str) (y.2.map PyData.str) from rfl, sc_alike_strs]
  rfl
theorem sc_alikeAll (ps : List Sc) : AlikeAll (ps.map scD) := by
  refine ⟨fun z hz u hu => ?_, fun z hz => ?_⟩
  · obtain ⟨p, _, rfl⟩ := List.mem_map.mp hz
    obtain ⟨q, _, rfl⟩ := List.mem_map.mp hu
    exact sc_alike p q
  · obtain ⟨p, _, rfl⟩ := List.mem_map.mp hz
    exact fun c => by cases c
theorem sc_depth (x : Sc) : (scD x).depth ≤ 3 := by
  unfold scD
  have z : PyData.depthAll (x.2.map PyData.str) ≤ 1 := by
    induction x.2 with
    | nil => exact Nat.zero_le _
    | cons a r ih =>
      show max (PyData.depth (.str a)) (PyData.depthAll (r.map PyData.str)) ≤ 1
      exact Nat.max_le.mpr ⟨by simp [PyData.depth], ih⟩
  simp only [PyData.depth, PyData.depthAll]
  omega
theorem sc_depthAll : ∀ ps : List Sc, PyData.depthAll (ps.map scD) ≤ 60
  | [] => Nat.zero_le _
  | p :: ps => by
    show max (PyData.depth (scD p)) (PyData.depthAll (ps.map scD)) ≤ 60
    exact Nat.max_le.mpr ⟨Nat.le_trans (sc_depth p) (by decide), sc_depthAll ps⟩
theorem sc_can (p : Sc) (h : ∀ x ∈ p.2, PyData.strOk x = true) : (scD p).canLay0 = true := by
  unfold scD
  have z : ∀ xs : List Str, (∀ x ∈ xs, PyData.strOk x = true) → PyData.canLayAll0 (xs.map PyData.str) = true := fun xs => by
    induction xs with
    | nil => exact fun _ => rfl
    | cons a r ih =>
      intro g
      simp [PyData.canLayAll0, PyData.canLay0, ih fun x hx => g x (List.mem_cons_of_mem _ hx), g a List.mem_cons_self]
  simp [PyData.canLayAll0, PyData.canLay0, z _ h]
theorem sc_lt (x y : Sc) : (dataLt (scD x) (scD y) = true → x.1 ≤ y.1) ∧ (dataLt (scD x) (scD y) = false → y.1 ≤ x.1) := by
  have e : ∀ z : Sc, ∃ t, PySem.W.keyToks (scD z) = .inl 1 :: .inl z.1 :: t := fun z => ⟨PySem.W.keyToksAll [.list (z.2.map PyData.str)], by
    unfold scD
    simp [PySem.W.keyToks, PySem.W.keyToksAll]⟩
  obtain ⟨t, ht⟩ := e x
  obtain ⟨u, hu⟩ := e y
  have z : dataLt (scD x) (scD y) = (decide ((1 : Int) < 1) || (!decide ((1 : Int) < 1) && (decide (x.1 < y.1) || (!decide (y.1 < x.1) && PyProof.Rows.lexLt PyProof.Rows.itemOrd t u)))) := by
    unfold dataLt
    rw [ht, hu]
    rfl
  rw [show decide ((1 : Int) < 1) = false from rfl, Bool.false_or, Bool.not_false, Bool.true_and] at z
  constructor
  · intro h
    rw [h] at z
    by_cases c : x.1 < y.1
    · omega
    · rw [decide_eq_false c, Bool.false_or] at z
      by_cases d : y.1 < x.1
      · rw [decide_eq_true d] at z
        cases z
      · omega
  · intro h
    rw [h] at z
    by_cases c : x.1 < y.1
    · rw [decide_eq_true c] at z
      cases z
    · omega
theorem sc_minD : ∀ (bs : List Sc) (b0 : Sc), ∃ m ∈ b0 :: bs, minD (scD b0) (bs.map scD) = scD m ∧ ∀ c ∈ b0 :: bs, m.1 ≤ c.1
  | [], b0 => ⟨b0, List.mem_cons_self, rfl, fun c hc => by rw [List.mem_singleton.mp hc]; exact Int.le_refl _⟩
  | y :: bs, b0 => by
    by_cases h : dataLt (scD y) (scD b0) = true
    · obtain ⟨m, hm, e, lo⟩ := sc_minD bs y
      refine ⟨m, List.mem_cons_of_mem _ hm, ?_, fun c hc => ?_⟩
      · rw [← e]
        show minD (if dataLt (scD y) (scD b0) = true then scD y else scD b0) (bs.map scD) = _
        rw [if_pos h]
      · rcases List.mem_cons.mp hc with rfl | hc
        · exact Int.le_trans (lo y List.mem_cons_self) ((sc_lt y c).1 h)
        · exact lo c hc
    · obtain ⟨m, hm, e, lo⟩ := sc_minD bs b0
      refine ⟨m, ?_, ?_, fun c hc => ?_⟩
      · rcases List.mem_cons.mp hm with rfl | hm
        · exact List.mem_cons_self
        · exact List.mem_cons_of_mem _ (List.mem_cons_of_mem _ hm)
      · rw [← e]
        show minD (if dataLt (scD y) (scD b0) = true then scD y else scD b0) (bs.map scD) = _
        rw [if_neg h]
      · rcases List.mem_cons.mp hc with rfl | hc
        · exact lo c List.mem_cons_self
        · rcases List.mem_cons.mp hc with rfl | hc
          · exact Int.le_trans (lo b0 List.mem_cons_self) ((sc_lt c b0).2 (by simpa using h))
          · exact lo c (List.mem_cons_of_mem _ hc)
theorem sc_one {x y : Sc} (h : scD x = scD y) : x.1 = y.1 := by
  unfold scD at h
  injection h with h
  injection h with h1 _
  injection h1
end Ask

set_option Elab.async false
set_option linter.all false
set_option maxRecDepth 100000
set_option maxHeartbeats 2000000
namespace Ask
open PySem PySem.Spec PyProof.Rows L2
open PySem.W (dataLe keyToks keyToksAll)
/-! the order of keys (x, y, n) -/
def d3 (r : K3) : PyData := .tuple [.int r.x, .int r.y, .str r.n]
theorem item_int (i j : Int) : itemLt (.inl i) (.inl j) = decide (i < j) := rfl
theorem d3_lt (r q : K3) : lexLt itemOrd (keyToks (d3 r)) (keyToks (d3 q)) = ltK r q := by
  have e : ∀ r : K3, keyToks (d3 r) = [.inl 1, .inl r.x, .inl 1, .inl r.y, .inl 1, .inr r.n.cps.toList, .inl 0] := fun r => by simp [d3, keyToks, keyToksAll]
  rw [e, e]
  show (decide ((1 : Int) < 1) || (!decide ((1 : Int) < 1) && (decide (r.x < q.x) || (!decide (q.x < r.x) && (decide ((1 : Int) < 1) || (!decide ((1 : Int) < 1) && (decide (r.y < q.y) || (!decide (q.y < r.y) && (decide ((1 : Int) < 1) || (!decide ((1 : Int) < 1) && (decide (r.n.cps.toList < q.n.cps.toList) || (!decide (q.n.cps.toList < r.n.cps.toList) && (decide ((0 : Int) < 0) || (!decide ((0 : Int) < 0) && false)))))))))))))) = ltK r q
  rw [show decide ((1 : Int) < 1) = false from rfl, show decide ((0 : Int) < 0) = false from rfl]
  simp only [Bool.false_or, Bool.not_false, Bool.true_and, Bool.and_false, Bool.or_false]
  refine Bool.eq_iff_iff.mpr ?_
  rw [show (ltK r q = true) = (LtK r q) from by unfold ltK; exact decide_eq_true_eq]
  unfold LtK ltS
  simp only [Bool.or_eq_true, Bool.and_eq_true, Bool.not_eq_true', decide_eq_true_eq, decide_eq_false_iff_not]
  constructor
  · rintro (h | ⟨h1, h | ⟨h2, h3⟩⟩)
    · exact .inl h
    · rcases Int.lt_trichotomy r.x q.x with g | g | g
      · exact .inl g
      · exact .inr ⟨g, .inl h⟩
      · exact absurd g h1
    · rcases Int.lt_trichotomy r.x q.x with g | g | g
      · exact .inl g
      · rcases Int.lt_trichotomy r.y q.y with g2 | g2 | g2
        · exact .inr ⟨g, .inl g2⟩
        · exact .inr ⟨g, .inr ⟨g2, h3⟩⟩
        · exact absurd g2 h2
      · exact absurd g h1
  · rintro (h | ⟨h1, h | ⟨h2, h3⟩⟩)
    · exact .inl h
    · exact .inr ⟨by omega, .inl h⟩
    · exact .inr ⟨by omega, .inr ⟨by omega, h3⟩⟩
theorem d3_le (r q : K3) {β : Type} (k : β → K3) (a b : β) : dataLe false (fun z => d3 (k z)) a b = !ltK (k b) (k a) := by
  unfold dataLe PySem.W.sortLe
  show (!lexLt itemOrd _ _) = _
  rw [d3_lt]
end Ask

set_option Elab.async false
set_option linter.all false
set_option maxRecDepth 100000
set_option maxHeartbeats 2000000
namespace Ask
open PySem PySem.Spec PyProof.Rows L2
open PySem.W (dataLe keyToks keyToksAll)
/-! rows in the order of (least, greatest, name): what a sort with that key gives -/
def k3R (r : Rw) : K3 := ⟨r.lo, r.hi, r.nm⟩
theorem le_k3R (a b : Rw) : dataLe false (fun r : Rw => d3 (k3R r)) a b = !ltK (k3R b) (k3R a) := by
  unfold dataLe PySem.W.sortLe
  show (!lexLt itemOrd _ _) = _
  rw [d3_lt]
theorem LtK.asymm {a b : K3} (h : LtK a b) : ¬ LtK b a := fun g => LtK.irrefl a (h.trans g)
theorem k3_sorted {rs : List Rw} (hn : (rs.map (·.nm)).Nodup) : (rs.mergeSort (dataLe false fun r : Rw => d3 (k3R r))).Pairwise fun a b => LtK (k3R a) (k3R b) := by
  have p := List.pairwise_mergeSort (le := dataLe false fun r : Rw => d3 (k3R r)) (fun a b c h1 h2 => by
    rw [le_k3R] at h1 h2 ⊢
    have e1 : ¬ LtK (k3R b) (k3R a) := by simpa [ltK] using h1
    have e2 : ¬ LtK (k3R c) (k3R b) := by simpa [ltK] using h2
    have : ¬ LtK (k3R c) (k3R a) := fun g => by
      rcases LtK.tri (k3R a) (k3R b) with t | t | t
      · exact e2 (g.trans t)
      · exact e2 (t ▸ g)
      · exact e1 t
    simpa [ltK] using this) (fun a b => by
    rw [le_k3R, le_k3R]
    rcases LtK.tri (k3R a) (k3R b) with t | t | t
    · have := t.asymm
      simp [ltK, this]
    · simp [ltK, t, LtK.irrefl]
    · have := t.asymm
      simp [ltK, this]) rs
  have pm : (rs.mergeSort (dataLe false fun r : Rw => d3 (k3R r))).Perm rs := List.mergeSort_perm _ _
  have nd : ((rs.mergeSort (dataLe false fun r : Rw => d3 (k3R r))).map (·.nm)).Nodup := (pm.map _).nodup_iff.mpr hn
  have nd2 := List.pairwise_map.mp (List.nodup_iff_pairwise_ne.mp nd)
  refine List.Pairwise.imp ?_ (List.pairwise_and_iff.mpr ⟨p, nd2⟩)
  rintro a b ⟨h1, h2⟩
  rw [le_k3R] at h1
  have e1 : ¬ LtK (k3R b) (k3R a) := by simpa [ltK] using h1
  rcases LtK.tri (k3R a) (k3R b) with t | t | t
  · exact t
  · exact absurd (congrArg K3.n t) h2
  · exact absurd t e1
/-- one order only -/
theorem k3_unique : ∀ {xs ys : List Rw}, xs.Perm ys → xs.Pairwise (fun a b => LtK (k3R a) (k3R b)) → ys.Pairwise (fun a b => LtK (k3R a) (k3R b)) → xs = ys
  | [], ys, p, _, _ => (List.nil_perm.mp p).symm
  | x :: xs, [], p, _, _ => absurd p.length_eq (by simp)
  | x :: xs, y :: ys, p, hx, hy => by
    rw [List.pairwise_cons] at hx hy
    have e : x = y := by
      rcases List.mem_cons.mp (p.mem_iff.mp List.mem_cons_self) with e | e
      · exact e
      · rcases List.mem_cons.mp (p.mem_iff.mpr List.mem_cons_self) with e' | e'
        · exact e'.symm
        · exact absurd (hx.1 y e') (LtK.asymm (hy.1 x e))
    subst e
    rw [k3_unique ((List.perm_cons x).mp p) hx.2 hy.2]
end Ask

set_option Elab.async false
set_option linter.all false
set_option maxRecDepth 100000
set_option maxHeartbeats 4000000
/-! tuples of an int, a text and a list of texts as data -/
namespace Ask
open PySem PySem.Spec L2 LamX PyProof.Rows
open PySem.W (dataLe dataLt AllAlike Sortable AlikeAll minD EachIs alike alikeAll keyToks keyToksAll)
abbrev Ca := Int × Str × List Str
def caD (c : Ca) : PyData := .tuple [.int c.1, .str c.2.1, .list (c.2.2.map PyData.str)]
/-- the tuple at t, its list at l -/
def CaL (H : Hp) (t l : Addr) (c : Ca) : Prop := H t = some (.tup [.int c.1, .str c.2.1, .ref l]) ∧ H l = some (.lst (c.2.2.map V.str))
def CaAt (H : Hp) (t : Addr) (c : Ca) : Prop := ∃ l, CaL H t l c
theorem CaL.same {H H' : Hp} {t l : Addr} {c : Ca} (h : CaL H t l c) (s : Same H H') : CaL H' t l c := ⟨s _ _ h.1, s _ _ h.2⟩
theorem CaL.ext {H H' : Hp} {t l : Addr} {c : Ca} (h : CaL H t l c) (s : ExtN H H') : CaL H' t l c := ⟨s _ _ h.1 (fun _ e => by cases e), s _ _ h.2 (fun _ e => by cases e)⟩
theorem CaAt.same {H H' : Hp} {t : Addr} {c : Ca} (h : CaAt H t c) (s : Same H H') : CaAt H' t c := h.elim fun l z => ⟨l, z.same s⟩
theorem CaAt.ext {H H' : Hp} {t : Addr} {c : Ca} (h : CaAt H t c) (s : ExtN H H') : CaAt H' t c := h.elim fun l z => ⟨l, z.ext s⟩
theorem CaAt.dp {K : PySem.W.Frag} {H : Hp} {t : Addr} {c : Ca} (h : CaAt H t c) : Dp K H (.ref t) (caD c) := by
  obtain ⟨l, h1, h2⟩ := h
  exact .tup (SqT.of h1) (.cons (.int _) (.cons (.str _) (.cons (.lst (SqL.of h2) (strs_dpa _)) .nil)))
theorem ca_alike (x y : Ca) : alike (caD x) (caD y) = true := by
  show (alike (.int x.1) (.int y.1) && (alike (.str x.2.1) (.str y.2.1) && (alike (.list _) (.list _) && alikeAll [] []))) = true
  rw [show alike (.list (x.2.2.map PyData.str)) (.list (y.2.2.map PyData.str)) = alikeAll (x.2.2.map PyData.str) (y.2.2.map PyData.str) from rfl, sc_alike_strs]
  rfl
theorem ca_alikeAll (cs : List Ca) : AllAlike (cs.map caD) := by
  intro z hz u hu
  obtain ⟨p, _, rfl⟩ := List.mem_map.mp hz
  obtain ⟨q, _, rfl⟩ := List.mem_map.mp hu
  exact ca_alike p q
theorem ca_sortable (cs : List Ca) : Sortable (cs.map caD) := .inl fun z hz => by
  obtain ⟨e, _, rfl⟩ := List.mem_map.mp hz
  exact ⟨_, _, rfl⟩
theorem ca_depth (x : Ca) : (caD x).depth ≤ 60 := by
  unfold caD
  have z : PyData.depthAll (x.2.2.map PyData.str) ≤ 1 := by
    induction x.2.2 with
    | nil => exact Nat.zero_le _
    | cons a r ih =>
      show max (PyData.depth (.str a)) (PyData.depthAll (r.map PyData.str)) ≤ 1
      exact Nat.max_le.mpr ⟨by simp [PyData.depth], ih⟩
  simp only [PyData.depth, PyData.depthAll]
  omega
/-! the signs of such a tuple tell it -/
theorem toks_strs : ∀ {xs ys : List Str}, keyToksAll (xs.map PyData.str) = keyToksAll (ys.map PyData.str) → xs = ys
  | [], [], _ => rfl
  | [], y :: ys, h => by
    simp [keyToksAll] at h
  | x :: xs, [], h => by
    simp [keyToksAll] at h
  | x :: xs, y :: ys, h => by
    rw [List.map_cons, List.map_cons] at h
    unfold keyToksAll at h
    rw [show keyToks (.str x) = [.inr x.cps.toList] from rfl, show keyToks (.str y) = [.inr y.cps.toList] from rfl] at h
    have h1 := (List.cons.inj h).2
    have h2 := List.cons.inj h1
    rw [PySem.W.str_of_cps (Sum.inr.inj h2.1), toks_strs h2.2]
theorem toks_ca {x y : Ca} (h : keyToks (caD x) = keyToks (caD y)) : x = y := by
  obtain ⟨n, s, xs⟩ := x
  obtain ⟨m, u, ys⟩ := y
  unfold caD at h
  simp only [keyToks, keyToksAll, List.cons_append, List.nil_append, List.append_assoc, List.cons.injEq, Sum.inl.injEq, Sum.inr.injEq, true_and] at h
  obtain ⟨h1, h2, h3⟩ := h
  have e3 := List.append_cancel_right h3
  rw [h1, PySem.W.str_of_cps h2, toks_strs e3]
theorem ca_anti {x y : Ca} (h1 : dataLe false caD x y = true) (h2 : dataLe false caD y x = true) : x = y := by
  unfold dataLe PySem.W.sortLe at h1 h2
  simp only [cond_false, Bool.not_eq_true'] at h1 h2
  exact toks_ca (lex_total _ _ h2 h1)
theorem ca_total (x y : Ca) : dataLe false caD x y = true ∨ dataLe false caD y x = true := (PySem.W.sortLe_total (listOrd itemOrd) false fun b : Ca => keyToks (caD b)).total x y
def srtC (cs : List Ca) : List Ca := cs.mergeSort (dataLe false caD)
theorem srtC_pw (cs : List Ca) : (srtC cs).Pairwise fun a b => dataLe false caD a b = true :=
  List.pairwise_mergeSort (PySem.W.sortLe_total _ _ _).trans (fun a b => by
    rcases ca_total a b with h | h
    · exact Bool.or_eq_true_iff.mpr (.inl h)
    · exact Bool.or_eq_true_iff.mpr (.inr h)) cs
theorem srtC_perm {cs ds : List Ca} (h : cs.Perm ds) : srtC cs = srtC ds :=
  List.Perm.eq_of_pairwise (le := fun a b => dataLe false caD a b = true) (fun a b _ _ h1 h2 => ca_anti h1 h2) (srtC_pw cs) (srtC_pw ds) (((List.mergeSort_perm _ _).trans h).trans (List.mergeSort_perm _ _).symm)
theorem srtC_mem {cs : List Ca} {c : Ca} : c ∈ srtC cs ↔ c ∈ cs := List.mem_mergeSort
end Ask

set_option Elab.async false
set_option linter.all false
set_option maxRecDepth 100000
set_option maxHeartbeats 4000000
namespace Ask
open PySem PySem.Spec PyProof.Rows L2 GenW
open Sem (wp)
/-! «yield from e», e a list, in a generator that is resumed only once -/
section
variable {prog : Program} {w : World} {A : Around} {s : Shared} {Φ : End → Shared → Prop}
/-- the first step of «yield from» a list at whose start the iterator stands -/
theorem sg_yf1 {it l : Addr} {us : List Value} {fs : List Frame} (hil : it ≠ l) (hsp : splitAtGen fs = none) (hgd : fs.any Frame.guarded = false) (ho : (A.over (yfCode it) fs).handled = none) (hst : YfSt it l us 0 s.heap)
    (hend : us = [] → ∀ s', KeptBut it s s' → Sg (model prog w) A Φ (yfCode it) (.pure (.done (.ret .none))) fs s')
    (hout : ∀ v lv k c p fs' s', us[0]? = some v → (End.susp v false lv k c p fs').quiet = true → KeptBut it s s' → Φ (.susp v false lv k c p fs') s') :
    Sg (model prog w) A Φ (yfCode it) ((model prog w).den (yfCode it)) fs s := by
  cases us with
  | nil =>
    rw [den_yf']
    unfold Builtin.«proto.yield_from»
    try dsimp only
    refine sg_bind (wpAny_pure ?_)
    try dsimp only
    refine sg_bind (wpAny_attempt (wpAny_holding ?_))
    rw [if_neg Bool.false_ne_true, if_pos (show (Value.none == Value.none) = true from rfl)]
    refine wpAny_bind (wpAny_rule (wpAny_bind ?_))
    refine special_list_end ho hst.iter hst.list (by simp) fun e h' hS hk => ?_
    obtain ⟨a, o, vs, rfl, hoa, hcls, hdat, h5⟩ := hS
    try dsimp only
    refine sg_bind (wpAny_endsTurn hoa hcls ?_)
    try dsimp only
    rw [if_pos rfl]
    first
      | refine sg_bind (wpAny_rule ?_)
      | (rw [if_neg Bool.false_ne_true]; refine sg_bind (wpAny_rule ?_))
      | (rw [if_neg Bool.false_ne_true]; refine sg_bind (wpAny_pure ?_); refine sg_bind (wpAny_rule ?_))
    refine sg_bind (wpAny_field hoa hdat h5 ?_)
    exact hend rfl _ (KeptBut.of fun b ob hb eb => hk b ob hb eb)
  | cons x us =>
    rw [den_yf']
    unfold Builtin.«proto.yield_from»
    try dsimp only
    refine sg_bind (wpAny_pure ?_)
    try dsimp only
    refine sg_bind (wpAny_attempt (wpAny_holding ?_))
    rw [if_neg Bool.false_ne_true, if_pos (show (Value.none == Value.none) = true from rfl)]
    refine wpAny_bind (wpAny_rule (wpAny_bind ?_))
    refine special_list_item hst.iter hst.list (x := x) (by simp) fun h' hit' hs => ?_
    obtain ⟨oi, hoi, hoc, _⟩ := id hit'
    refine wpAny_pure ?_
    try dsimp only
    refine sg_bind (wpAny_typeOf (T := "list_iterator") ⟨oi, hoi, hoc⟩ ?_)
    try dsimp only
    first
      | (refine sg_bind (wpAny_of_eq close_list ?_); refine sg_bind (wpAny_pure ?_))
      | refine sg_bind (wpAny_bind (wpAny_of_eq close_list (wpAny_pure ?_)))
      | refine sg_bind (wpAny_of_eq close_list ?_)
    try dsimp only
    refine sg_bind (wpAny_sleptOver hoi hoc (by decide) ?_)
    refine sg_yield hsp fun p => ?_
    refine hout x _ _ _ _ _ _ rfl ?_ ⟨rfl, fun b ob hb eb => hs.extBut b ob hb eb⟩
    show (!(false || fs.any Frame.guarded)) = true
    rw [hgd]; rfl
end
section
variable {X : Cx}
/-- yield from e: e a list -/
def fYf (K : PySem.W.Frag) (te : TE) : TY := fun Y D σ H => te σ H fun x H1 => ∃ (l : Addr) (xs : List V), x = .ref l ∧ SqL K H1 l xs ∧ (xs = [] → D.nx σ H1) ∧ ∀ v, xs[0]? = some v → Y v H1
theorem gf_yf {e : Expr} {yp pos : Pos} {te : TE} (he : PE X e te) (hc : X.calm = true) (hi : interactive X.env = false := by rfl) : GF X (.Expr (.YieldFrom e yp) pos) (fYf X.K te) := by
  refine ⟨fun A c fs K J gd lv Φ pins s σ H Y D g k I ht => ?_⟩
  rw [exec_Expr X.env _ pos hi rfl]
  refine sg_at ?_
  show Sg _ _ _ _ (((eval e X.env >>= fun v => (standAt yp >>= fun _ => yieldFrom X.env v)) >>= fun x => dropValue (.YieldFrom e yp) pos x).wrap _ _ _ _) _ s
  refine sg_bind2 ?_
  rw [g.over]
  refine wpAny_mono (he.run _ s σ H _ I ht) (fun v s1 hv => ?_) fun x s' hx => k.exc x s' hx
  obtain ⟨x, H1, I1, rv, l, xs, rfl, hl, qe, qy⟩ := hv
  obtain rfl : v = Value.ref l := rv
  obtain ⟨us, rus, hL, _⟩ := I1.list hl
  have hl1 : s1.heap.IsList l us.toArray := hL.isList
  refine sg_at ?_
  show Sg _ _ _ _ ((yieldFrom X.env (.ref l)).wrap _ _ _ _) _ s1
  unfold yieldFrom
  refine sg_bw ?_
  rw [g.over]
  refine wpAny_typeOf (T := "list") hl1.typeIs ?_
  rw [if_neg (show ¬ ((Value.type "list" == Value.type "coroutine") = true) from by decide)]
  refine sg_bw ?_
  rw [g.over]
  refine wpAny_holding (wpAny_pyIter_list hl1 ?_)
  refine sg_call fun p => ?_
  have ll : l < s1.heap.objs.size := let ⟨_, e, _⟩ := hl1; Heap.lt_size e
  have I2 : Inv X pins σ H1 { s1 with heap := s1.heap.push { cls := .type "list_iterator", data := .fields #[.ref l, .int 0 0] } } := I1.kept (t' := s1.toks) fun b o eb => Heap.get?_push_of_some _ eb
  have fi := I1.fpOk (H' := H1) (b := s1.heap.objs.size) (Nat.le_refl _) (I1.hok.fresh (Nat.le_refl _))
  have at2 : ∀ {s' : Shared}, KeptBut s1.heap.objs.size { s1 with heap := s1.heap.push { cls := .type "list_iterator", data := .fields #[.ref l, .int 0 0] } } s' → Inv X pins σ H1 s' := fun {s'} kb => by
    rw [kb.same]
    exact I2.turnedL (t' := s'.toks) (ch := [s1.heap.objs.size]) (fun b o hb eb => kb.kept b o (fun z => hb (by simp [z])) eb) fun b hb => by rw [List.mem_singleton.mp hb]; exact fi
  refine sg_yf1 (it := s1.heap.objs.size) (l := l) (us := us) (Nat.ne_of_gt ll) ?_ ?_ ?_ ⟨⟨_, Heap.get?_push_size _ rfl, rfl, rfl⟩, hl1.push _⟩ (fun eu s' kb => ?_) (fun v lv' k' c' p' fs' s' ev hq kb => ?_)
  · show (splitAtGen fs).map _ = none
    rw [g.split]; rfl
  · show (gd false || fs.any Frame.guarded) = false
    rw [g.gd, g.guard]; rfl
  · show (A.over c fs).handled = none
    rw [g.over]
    exact I1.ok.hd hc
  · subst eu
    have ex : xs = [] := List.eq_nil_of_length_eq_zero rus.length
    refine sg_leaf (.ok (.ret .none)) ?_
    show Sg _ _ _ _ (K .next) fs s'
    exact k.ok .next s' ⟨σ, H1, at2 kb, qe ex⟩
  · obtain ⟨y, ey⟩ : ∃ y, xs[0]? = some y := by
      have z := rus.length
      have z2 := (List.getElem?_eq_some_iff.mp ev).1
      exact ⟨xs[0], List.getElem?_eq_getElem (by omega)⟩
    obtain ⟨u, eu, ru⟩ := Vals.get rus ey
    rw [ev] at eu
    cases eu
    exact k.out v lv' k' c' p' fs' s' hq ⟨y, σ, H1, at2 kb, ru, qy y ey⟩
end
end Ask

set_option Elab.async false
set_option linter.all false
set_option maxRecDepth 100000
set_option maxHeartbeats 8000000
namespace Ask
open PySem PySem.Spec PyProof.Rows L2 GenW LamX
/-! [elt for x in WALK for y in ..]: the outer generator sleeps while the inner loop runs -/
section
variable {X : Cx} {k : Nat} {T : List (Addr × Str)}
def tLc2W (T : List (Addr × Str)) (tw : TWk) (g : TG) (tt : TT) (wi1 : TI) (g1 : TG) (tt1 : TT) (te : TE) (vs vs1 : List Nat) : TE := fun σ H Q => tw σ H fun xs H1 => ∀ D, H1 D = none → ∃ W : Nat → Nat → Hp → Prop, (∃ m, W 0 m (upd H1 D (.lst []))) ∧ ∀ i m H, W i m H →
  (i = xs.length ∧ ∀ H', Stp T H H' → Q (.ref D) H') ∨ (∃ x, xs[i]? = some x ∧ ∃ Nx : Hp → Prop, (∀ H', Nx H' → ∃ m', m' < m ∧ W (i + 1) m' H') ∧ ∀ H', Stp T H H' → g x (wipe σ vs) H' fun σ2 H2 => wipe σ2 vs = wipe σ vs ∧ tt σ2 H2 fun b H3 =>
    if b = true then wi1 σ2 H3 fun J1 H4 => ∃ W1 : Nat → Nat → Hp → Prop, (∃ m, W1 0 m H4) ∧ ∀ j k H, W1 j k H →
          (J1.stop j H ∧ Nx H) ∨ (J1.go j H ∧ ∃ Nx1 : Hp → Prop, (∀ H', Nx1 H' → ∃ k', k' < k ∧ W1 (j + 1) k' H') ∧ ∀ x H', J1.yld j H x H' → g1 x (wipe σ2 vs1) H' fun σ3 H5 => wipe σ3 vs1 = wipe σ2 vs1 ∧ tt1 σ3 H5 fun b H6 =>
            if b = true then te σ3 H6 fun y H7 => ∃ acc, H7 D = some (.lst acc) ∧ acc.length < sizeLine ∧ Nx1 (upd H7 D (.lst (acc ++ [y]))) else Nx1 H6) else Nx H3)
theorem lc2W_core {pins : List (Addr × Obj)} {s : Shared} {σ : L2.St} {H : Hp} {Q : VK} {elt tg iter tg1 iter1 : Expr} {ifs ifs1 : List Expr} {scope : Scope} {own : List (Str × Nat)} {vs1 : List Nat} {pos pos' : Pos} {tw : TWk} {wi1 : TI} {g g1 : TG} {tt tt1 : TT} {te : TE} {use : Option (Value → Sem Unit)} {Qf : Value → Shared → Prop}
    (hc : X.calm = true) (hN : X.N.Nodup) (I : Inv X pins σ H s) (hi : PWI X k T iter tw) (hr : Room (k + 1) X.A) (ok : BlkOk X.N X.env.scope scope own) (nocell : ∀ y ∈ scope.names, y.2 ≠ .cell) (hv : ∀ i ∈ vs1, i ∈ own.map (·.2))
    (hg : ∀ (s : Shared) (H : Hp) (C : Addr) (cl : List (Str × Addr)) (fp : List Addr), PG (X.blk s H scope (compEnvC scope cl C X.env) fp) tg g) (ht : ∀ (s : Shared) (H : Hp) (C : Addr) (cl : List (Str × Addr)) (fp : List Addr), PTs (X.blk s H scope (compEnvC scope cl C X.env) fp) ifs tt)
    (he : ∀ (s : Shared) (H : Hp) (C : Addr) (cl : List (Str × Addr)) (fp : List Addr), PE (X.blk s H scope (compEnvC scope cl C X.env) fp) elt te) (hs : ∀ x, foldedSetIterable iter X.env x = pure x)
    (hi1 : ∀ (s : Shared) (H : Hp) (C : Addr) (cl : List (Str × Addr)) (fp : List Addr), PI (X.blk s H scope (compEnvC scope cl C X.env) fp) tg1 iter1 wi1)
    (hg1 : ∀ (s : Shared) (H : Hp) (C : Addr) (cl : List (Str × Addr)) (fp : List Addr), PG (X.blk s H scope (compEnvC scope cl C X.env) fp) tg1 g1)
    (ht1 : ∀ (s : Shared) (H : Hp) (C : Addr) (cl : List (Str × Addr)) (fp : List Addr), PTs (X.blk s H scope (compEnvC scope cl C X.env) fp) ifs1 tt1)
    (hs1 : ∀ env x, foldedSetIterable iter1 env x = pure x)
    (h : tLc2W T tw g tt wi1 g1 tt1 te (own.map (·.2)) vs1 σ H Q)
    (hRR : ∀ D C s' m H', Inv X pins σ H' s' → Q (.ref D) H' → s'.heap.Ns C m → FpOk X pins H' C → compPost (model X.prog X.w) X.A X.xe use Qf (.ref D) C (.ok .next) s') :
    wpAny (model X.prog X.w) X.A (comprehension (.ListComp elt [⟨tg, iter, ifs, 0⟩, ⟨tg1, iter1, ifs1, 0⟩] scope pos) scope X.env pos' (newList []) false (eval iter X.env) use) Qf X.xe s := by
  have hfree : ∀ y ∈ scope.names, y.2 = .free → ∃ c, X.env.cells.lookup y.1 = some c := fun y hy e => (ok.free y hy e).elim (fun z => I.ok.has _ (.inl z)) fun z => I.ok.has _ (.inr z)
  refine wpAny_comprehension_free (use := use) rfl hs (closure_ok hfree) ok.kind (fun y hy e => by rw [ok.uniq y hy, e]) (thn (hi.run pins s σ H _ I h) fun xv s2 hx => ?_)
  obtain ⟨H1, sc, xs, I1, ⟨a, g0, c0, rfl, ea, sz2, low2, hgen, hgs, hos, hba, hlim, hkp, wake⟩, hT, q⟩ := hx
  refine wpAny_pyIter_gen hgen ?_
  refine wpAny_newObj_type (newEnv_comp ?_) (by show 0 ≤ sizeLine; decide)
  have I2 : Inv X pins σ H1 s2 := I1.call' (ch := []) hos (Un.kept hkp) (I1.hok.kept hkp) hba fun b z => by simp at z
  have fresh : ∀ b, sc.heap.objs.size ≤ b → H1 b = none := fun b hb => I1.hok.fresh hb
  generalize hD : s2.heap.objs.size = D
  have eD : D = sc.heap.objs.size + 2 := hD.symm.trans sz2
  have hDn : H1 D = none := I2.hok.fresh (Nat.le_of_eq hD)
  obtain ⟨W, ⟨m0, w0⟩, turn⟩ := q D hDn
  generalize hs3 : ({ s2 with heap := s2.heap.push { cls := .type "list", data := .seq ([] : List Value).toArray } } : Shared) = s3
  have h3 : s3.heap = s2.heap.push (seqObj "list" #[] 0) := by rw [← hs3]
  have oD3 : s3.heap.get? D = some (seqObj "list" #[] 0) := by rw [h3, ← hD]; exact Heap.get?_push_size _ rfl
  have I3 : Inv X pins σ (upd H1 D (.lst [])) s3 := by
    rw [← hs3]
    refine I2.laid (t' := s2.toks) (fun b o e => Heap.get?_push_of_some _ e) (Nat.le_of_eq hD) ⟨Nat.zero_le _, [], 0, .nil, ?_⟩
    have z := oD3
    rw [← hs3] at z
    exact z
  have sz3 : s3.heap.objs.size = sc.heap.objs.size + 3 := by rw [h3, Heap.size_push, sz2]
  -- the generator's own two objects may turn
  have f3 : ∀ b ∈ [sc.heap.objs.size, a], FpOk X pins (upd H1 D (.lst [])) b ∧ b < s3.heap.objs.size := fun b hb => by
    have lo : sc.heap.objs.size ≤ b ∧ b < sc.heap.objs.size + 2 := by
      simp only [List.mem_cons, List.not_mem_nil, or_false] at hb
      rcases hb with rfl | rfl
      · exact ⟨Nat.le_refl _, Nat.lt_add_of_pos_right (by decide)⟩
      · rw [ea]
        exact ⟨Nat.le_succ _, Nat.lt_succ_self _⟩
    have f2 := I1.fpOk lo.1 (fresh b lo.1)
    refine ⟨⟨?_, f2.2⟩, by rw [sz3]; exact Nat.lt_of_lt_of_le lo.2 (Nat.le_succ _)⟩
    rw [upd_ne (by rw [eD]; exact Nat.ne_of_lt lo.2)]
    exact f2.1
  have I4 := block_start I3 ok hN f3
  have pg := hg s3 (upd H1 D (.lst [])) s3.heap.objs.size (cellsFrom (s3.heap.objs.size + 1) scope.names (cloFrom X.env.cells scope.names [])) [sc.heap.objs.size, a]
  have pt := ht s3 (upd H1 D (.lst [])) s3.heap.objs.size (cellsFrom (s3.heap.objs.size + 1) scope.names (cloFrom X.env.cells scope.names [])) [sc.heap.objs.size, a]
  have pe := he s3 (upd H1 D (.lst [])) s3.heap.objs.size (cellsFrom (s3.heap.objs.size + 1) scope.names (cloFrom X.env.cells scope.names [])) [sc.heap.objs.size, a]
  have pi1 := hi1 s3 (upd H1 D (.lst [])) s3.heap.objs.size (cellsFrom (s3.heap.objs.size + 1) scope.names (cloFrom X.env.cells scope.names [])) [sc.heap.objs.size, a]
  have pg1 := hg1 s3 (upd H1 D (.lst [])) s3.heap.objs.size (cellsFrom (s3.heap.objs.size + 1) scope.names (cloFrom X.env.cells scope.names [])) [sc.heap.objs.size, a]
  have pt1 := ht1 s3 (upd H1 D (.lst [])) s3.heap.objs.size (cellsFrom (s3.heap.objs.size + 1) scope.names (cloFrom X.env.cells scope.names [])) [sc.heap.objs.size, a]
  show codeAny _ _ (.compStart (.ListComp elt [⟨tg, iter, ifs, 0⟩, ⟨tg1, iter1, ifs1, 0⟩] scope pos) 0 (.ref a) (.ref D) (compEnvC scope (cellsFrom (s3.heap.objs.size + 1) scope.names (cloFrom X.env.cells scope.names [])) s3.heap.objs.size X.env)) (compPost (model X.prog X.w) X.A X.xe use Qf (.ref D) s3.heap.objs.size) { s3 with heap := pushCells (s3.heap.push { cls := .type "dict", data := .dict #[] }) scope.names }
  have cl : ∀ x c, (compEnvC scope (cellsFrom (s3.heap.objs.size + 1) scope.names (cloFrom X.env.cells scope.names [])) s3.heap.objs.size X.env).cells.lookup x = some c → c < sc.heap.objs.size := fun x c e => by
    have e : (cellsFrom (s3.heap.objs.size + 1) scope.names (cloFrom X.env.cells scope.names [])).lookup x = some c := e
    rw [cells_none nocell] at e
    rcases cloFrom_mem (PySem.mem_of_lookup e) with hm | ⟨h1, h2⟩
    · cases hm
    · obtain ⟨c', hc'⟩ := hfree _ h1 rfl
      have hc' : X.env.cells.lookup x = some c' := hc'
      rw [hc'] at h2
      have h2 : c = c' := h2
      obtain ⟨w', z⟩ := I1.cell _ _ hc'
      rw [h2]
      exact z.lt
  rw [pushCells_none nocell] at I4 ⊢
  generalize hce : compEnvC scope (cellsFrom (s3.heap.objs.size + 1) scope.names (cloFrom X.env.cells scope.names [])) s3.heap.objs.size X.env = ce at I4 pg pt pe pi1 pg1 pt1 cl ⊢
  have cL : ce.locals = s3.heap.objs.size := by subst hce; rfl
  generalize hs4 : ({ s3 with heap := s3.heap.push { cls := .type "dict", data := .dict #[] } } : Shared) = s4 at I4 ⊢
  have h4 : s4.heap = s3.heap.push { cls := .type "dict", data := .dict #[] } := by rw [← hs4]
  have g4 : s4.gens = s2.gens := by rw [← hs4, ← hs3]
  have o4 : s4.os = s2.os := by rw [← hs4, ← hs3]
  have kp4 : ∀ b o, s2.heap.get? b = some o → s4.heap.get? b = some o := fun b o e => by
    rw [h4, h3]
    exact Heap.get?_push_of_some _ (Heap.get?_push_of_some _ e)
  have gen4 : s4.heap.IsGen a g0 := by
    obtain ⟨o, nm, qn, ho, z⟩ := hgen
    exact ⟨o, nm, qn, kp4 _ _ ho, z⟩
  generalize eC : s3.heap.objs.size = C at I4 pg pt pe pi1 pg1 pt1 cL ⊢
  have eC' : C = sc.heap.objs.size + 3 := eC.symm.trans sz3
  have oC4 : s4.heap.get? C = some { cls := .type "dict", data := .dict #[] } := by rw [h4, ← eC]; exact Heap.get?_push_size _ rfl
  have gl : g0 < s2.gens.size := (Array.getElem?_eq_some_iff.mp hgs).1
  have nfC : C ∉ frs X.stack := no_fr I3 (Nat.le_of_eq eC)
  have wk4 : Sg (model X.prog X.w) X.A.in1 (fun e s1 => ∃ Hw, EndW X.prog X.w X.stack T H1 sc xs a g0 [(D, seqObj "list" #[] 0), (C, { cls := .type "dict", data := .dict #[] })] e s1 Hw) c0 ((model X.prog X.w).den c0) [] (s4.setGen g0 .running) := by
    refine wake X.A.in1 (s4.setGen g0 .running) _ hr.in1 I1.ok.frames kp4 (o4.trans hos) (allBare_setGen (by rw [g4]; exact hba) rfl) ?_ fun p hp => ?_
    · show g0 < (s4.gens.setIfInBounds g0 .running).size
      rw [Array.size_setIfInBounds, g4]
      exact gl
    · simp only [List.mem_cons, List.not_mem_nil, or_false] at hp
      rcases hp with rfl | rfl
      · refine ⟨?_, Nat.le_of_eq hD, fun v z => by cases z⟩
        show s4.heap.get? D = _
        rw [h4]
        exact Heap.get?_push_of_some _ oD3
      · exact ⟨oC4, by rw [eC', sz2]; exact Nat.le_succ _, fun v z => by cases z⟩
  have loop : codeAny (model X.prog X.w) X.A (.compLoop (.ListComp elt [⟨tg, iter, ifs, 0⟩, ⟨tg1, iter1, ifs1, 0⟩] scope pos) 0 (.ref a) (.ref D) ce) (compPost (model X.prog X.w) X.A X.xe use Qf (.ref D) C) s4 := by
    refine compLoop2_out (hs1 ce) (fun n s' => ∃ i H', Inv (X.blk s3 (upd H1 D (.lst [])) scope ce [sc.heap.objs.size, a]) [] (wipe σ (own.map (·.2))) H' s' ∧ W i n H' ∧
      ((i = 0 ∧ s' = s4 ∧ H' = upd H1 D (.lst [])) ∨ ∃ it l us gs r, Slept (X.blk s3 (upd H1 D (.lst [])) scope ce [sc.heap.objs.size, a]) xs a g0 i H' s' it l us gs r)) ?_ m0 ⟨0, _, I4, w0, .inl ⟨rfl, rfl, rfl⟩⟩
    rintro n s5 ⟨i, H5, I5, w5, ph⟩
    -- the end
    have ends : ∀ {s6 : Shared} {H6 : Hp}, Inv (X.blk s3 (upd H1 D (.lst [])) scope ce [sc.heap.objs.size, a]) [] (wipe σ (own.map (·.2))) H6 s6 → Q (.ref D) H6 → compPost (model X.prog X.w) X.A X.xe use Qf (.ref D) C (.ok .next) s6 := fun {s6 H6} I6 qq => by
      have I7 : Inv X pins σ H6 s6 := I3.call' (ch := [sc.heap.objs.size, a]) I6.os I6.base I6.hok I6.bare fun b hb => ⟨(f3 b hb).1.2.2.2.1, (f3 b hb).1.2.1, (f3 b hb).1.2.2.2.2.1, (f3 b hb).1.2.2.2.2.2⟩
      have nC : H6 C = none := by
        have z : H6 ce.locals = none := I6.free
        rw [cL] at z
        exact z
      obtain ⟨m, hn, _⟩ := I6.loc
      have hn : s6.heap.Ns ce.locals m := hn
      rw [cL] at hn
      exact hRR D C s6 m H6 I7 qq hn (I3.fpOk (Nat.le_of_eq eC) nC)
    -- a turn's body, the generator asleep behind its item
    have body : ∀ {s6 : Shared} {H6 : Hp} {x : V} {v : Value} {it l : Addr} {us : List Value} {gs : GenState} {r : Nat} {Nx : Hp → Prop}, Inv (X.blk s3 (upd H1 D (.lst [])) scope ce [sc.heap.objs.size, a]) [] (wipe σ (own.map (·.2))) H6 s6 → RelV x v →
        Slept (X.blk s3 (upd H1 D (.lst [])) scope ce [sc.heap.objs.size, a]) xs a g0 (i + 1) H6 s6 it l us gs r → (∀ H', Nx H' → ∃ m', m' < n ∧ W (i + 1) m' H') →
        (g x (wipe σ (own.map (·.2))) H6 fun σ2 H2 => wipe σ2 (own.map (·.2)) = wipe σ (own.map (·.2)) ∧ tt σ2 H2 fun b H3 => if b = true then wi1 σ2 H3 fun J1 H4 => ∃ W1 : Nat → Nat → Hp → Prop, (∃ m, W1 0 m H4) ∧ ∀ j k H, W1 j k H →
          (J1.stop j H ∧ Nx H) ∨ (J1.go j H ∧ ∃ Nx1 : Hp → Prop, (∀ H', Nx1 H' → ∃ k', k' < k ∧ W1 (j + 1) k' H') ∧ ∀ x H', J1.yld j H x H' → g1 x (wipe σ2 vs1) H' fun σ3 H5 => wipe σ3 vs1 = wipe σ2 vs1 ∧ tt1 σ3 H5 fun b H6 =>
            if b = true then te σ3 H6 fun y H7 => ∃ acc, H7 D = some (.lst acc) ∧ acc.length < sizeLine ∧ Nx1 (upd H7 D (.lst (acc ++ [y]))) else Nx1 H6) else Nx H3) →
        wpAny (model X.prog X.w) X.A (letOwnedTupleGo tg (.ref a) v) (fun _ s₁' => wpAny (model X.prog X.w) X.A (assign tg ce v) (fun _ s₂ =>
          wpAny (model X.prog X.w) X.A (forIn ifs true fun c r => if r = true then do let ok ← isTrue c ce (eval c ce); pure (ForInStep.yield ok) else pure (ForInStep.yield r)) (fun ok s₃ =>
            if ok = true then wpAny (model X.prog X.w) X.A (eval iter1 ce) (fun x s₄ => wpAny (model X.prog X.w) X.A (pyIter x) (fun it1 s₅ =>
              codeAny (model X.prog X.w) X.A (.compStart (.ListComp elt [⟨tg, iter, ifs, 0⟩, ⟨tg1, iter1, ifs1, 0⟩] scope pos) 1 it1 (.ref D) ce) (fun r s' => match r with
                | .ok _ => ∃ m, m < n ∧ ∃ i H', Inv (X.blk s3 (upd H1 D (.lst [])) scope ce [sc.heap.objs.size, a]) [] (wipe σ (own.map (·.2))) H' s' ∧ W i m H' ∧
                ((i = 0 ∧ s' = s4 ∧ H' = upd H1 D (.lst [])) ∨ ∃ it l us gs r, Slept (X.blk s3 (upd H1 D (.lst [])) scope ce [sc.heap.objs.size, a]) xs a g0 i H' s' it l us gs r)
                | .error _ => False) s₅) (notedBy (model X.prog X.w) X.A ce fun e s' => compPost (model X.prog X.w) X.A X.xe use Qf (.ref D) C (.error e) s') s₄) (notedBy (model X.prog X.w) X.A ce fun e s' => compPost (model X.prog X.w) X.A X.xe use Qf (.ref D) C (.error e) s') s₃
            else ∃ m, m < n ∧ ∃ i H', Inv (X.blk s3 (upd H1 D (.lst [])) scope ce [sc.heap.objs.size, a]) [] (wipe σ (own.map (·.2))) H' s₃ ∧ W i m H' ∧
                ((i = 0 ∧ s₃ = s4 ∧ H' = upd H1 D (.lst [])) ∨ ∃ it l us gs r, Slept (X.blk s3 (upd H1 D (.lst [])) scope ce [sc.heap.objs.size, a]) xs a g0 i H' s₃ it l us gs r)) (notedBy (model X.prog X.w) X.A ce fun e s' => compPost (model X.prog X.w) X.A X.xe use Qf (.ref D) C (.error e) s') s₂) (notedBy (model X.prog X.w) X.A ce fun e s' => compPost (model X.prog X.w) X.A X.xe use Qf (.ref D) C (.error e) s') s₁') (notedBy (model X.prog X.w) X.A ce fun e s' => compPost (model X.prog X.w) X.A X.xe use Qf (.ref D) C (.error e) s') s6 := by
      intro s6 H6 x v it l us gs r Nx I6 rv S6 hNx hrd
      obtain ⟨og, nm, qn, hog, hoc, hod, hos'⟩ := id S6.gen
      refine go_of (n := "generator") hog hoc hod (by decide) ?_
      obtain ⟨oi, hoi, hic, hid⟩ := id S6.yf.iter
      obtain ⟨ol, hol, hlc, nl, hld⟩ := id S6.yf.list
      obtain ⟨k1, lv1, c1, p1, fs1, cl1, egs, _, _⟩ := id S6.wk
      have objs : ∀ b ∈ [a, it, l], ∃ o, s6.heap.get? b = some o ∧ ∀ v, o.data ≠ .cell v := fun b hb => by
        simp only [List.mem_cons, List.not_mem_nil, or_false] at hb
        rcases hb with rfl | rfl | rfl
        · exact ⟨og, hog, fun v z => by rw [hod] at z; cases z⟩
        · exact ⟨oi, hoi, fun v z => by rw [hid] at z; cases z⟩
        · exact ⟨ol, hol, fun v z => by rw [hld] at z; cases z⟩
      have fps : ∀ b ∈ [a, it, l], FpOk (X.blk s3 (upd H1 D (.lst [])) scope ce [sc.heap.objs.size, a]) [] H6 b := fun b hb => by
        simp only [List.mem_cons, List.not_mem_nil, or_false] at hb
        rcases hb with rfl | rfl | rfl
        · exact S6.fa
        · exact S6.fi
        · exact S6.fl
      have J := inv_ghost (I6.pinned fps objs)
      have bare6 := I6.bare
      -- the turn's end
      have fin : ∀ {s0 s' : Shared} {H' : Hp} {σ8 : L2.St}, Tied s6.gens s0 s' → Inv (X.blk s3 (upd H1 D (.lst [])) scope ce [sc.heap.objs.size, a]) ([] ++ pinsAt [a, it, l] s6.heap) σ8 H' s0 → (wipe σ (own.map (·.2))).length = σ8.length → (∀ (j : Nat) v, (wipe σ (own.map (·.2)))[j]? = some (some v) → σ8[j]? = some (some v)) → Nx H' →
          ∃ m, m < n ∧ ∃ i H', Inv (X.blk s3 (upd H1 D (.lst [])) scope ce [sc.heap.objs.size, a]) [] (wipe σ (own.map (·.2))) H' s' ∧ W i m H' ∧ ((i = 0 ∧ s' = s4 ∧ H' = upd H1 D (.lst [])) ∨ ∃ it l us gs r, Slept (X.blk s3 (upd H1 D (.lst [])) scope ce [sc.heap.objs.size, a]) xs a g0 i H' s' it l us gs r) := fun {s0 s' H' σ8} TT I0 hl hk nx => by
        obtain ⟨m', hm, w'⟩ := hNx H' nx
        have I' := inv_tied I0 TT bare6
        have pin' : ∀ b ∈ [a, it, l], ∀ o, s6.heap.get? b = some o → s'.heap.get? b = some o ∧ H' b = none := fun b hb o e =>
          let z := I'.pin (b, o) (List.mem_append_right _ (List.mem_append_right _ (mem_pinsAt hb e)))
          ⟨z.1, z.2.1⟩
        have pa := pin' a (by simp) _ hog
        have pi := pin' it (by simp) _ hoi
        have pl := pin' l (by simp) _ hol
        refine ⟨m', hm, i + 1, H', (I'.unpinned (pins := [])).weak hl hk, w', .inr ⟨it, l, us, gs, r, ⟨og, nm, qn, pa.1, hoc, hod, hos'⟩, ?_, S6.rv, S6.nai, S6.nal, S6.nil_, ⟨⟨oi, pi.1, hic, hid⟩, ol, pl.1, hlc, nl, hld⟩, S6.len, S6.wk, ⟨pa.2, S6.fa.2⟩, ⟨pi.2, S6.fi.2⟩, ⟨pl.2, S6.fl.2⟩⟩⟩
        · have z := S6.st
          rw [egs] at z ⊢
          exact TT.sleeps z
      refine thnG (pg.run _ (ghosted s6) _ H6 x v _ J rv hrd) (ghosted_tied s6) fun _ s7 s8 T7 ⟨σ8, H8, I8, hw8, q8⟩ => ?_
      refine thnG (pt.run _ s7 σ8 H8 _ I8 q8) T7 fun b s9 s10 T9 ⟨H9, I9, q9⟩ => ?_
      have hl8 : (wipe σ (own.map (·.2))).length = σ8.length := by rw [← hw8, wipe_length]
      have hk8 : ∀ (j : Nat) v, (wipe σ (own.map (·.2)))[j]? = some (some v) → σ8[j]? = some (some v) := fun j v e => by
        rw [← hw8] at e
        exact (wipe_some e).1
      have hk9 : ∀ (j : Nat) v, (wipe σ (own.map (·.2)))[j]? = some (some v) → (wipe σ8 vs1)[j]? = some (some v) := fun j v e => by
        rw [← hw8] at e
        obtain ⟨z1, z2⟩ := wipe_some e
        rw [wipe_out fun z => z2 (hv j z)]
        exact z1
      cases b with
      | false =>
        simp only [Bool.false_eq_true, if_false] at q9 ⊢
        exact fin T9 I9 hl8 hk8 q9
      | true =>
        simp only [if_true] at q9 ⊢
        refine thnG (pi1.run _ s9 σ8 H9 _ I9 q9) T9 fun xv sa sb Ta hx => thnG hx Ta fun itv s11 s12 T11 h11 => ?_
        obtain ⟨it1, fp1, tn1, J1, H11, e1, I11, U1, st11, f11, W1, ⟨m1, w1⟩, turn1⟩ := h11
        subst e1
        have stat1 : ∀ {H' : Hp}, (∀ b ∈ fp1, H' b = none) → ∀ b ∈ fp1, FpOk (X.blk s3 (upd H1 D (.lst [])) scope ce [sc.heap.objs.size, a]) ([] ++ pinsAt [a, it, l] s6.heap) H' b := fun hn b hb => ⟨hn b hb, (f11 b hb).2⟩
        have loop1 : codeAny (model X.prog X.w) X.A (.compLoop (.ListComp elt [⟨tg, iter, ifs, 0⟩, ⟨tg1, iter1, ifs1, 0⟩] scope pos) 1 (.ref it1) (.ref D) ce) (fun r s' => match r with
              | .ok _ => ∃ m, m < n ∧ ∃ i H', Inv (X.blk s3 (upd H1 D (.lst [])) scope ce [sc.heap.objs.size, a]) [] (wipe σ (own.map (·.2))) H' s' ∧ W i m H' ∧
                ((i = 0 ∧ s' = s4 ∧ H' = upd H1 D (.lst [])) ∨ ∃ it l us gs r, Slept (X.blk s3 (upd H1 D (.lst [])) scope ce [sc.heap.objs.size, a]) xs a g0 i H' s' it l us gs r)
              | .error _ => False) s12 := by
          refine compLoop2_in (fun k s' => ∃ s0 j H', Tied s6.gens s0 s' ∧ Inv (X.blk s3 (upd H1 D (.lst [])) scope ce [sc.heap.objs.size, a]) ([] ++ pinsAt [a, it, l] s6.heap) (wipe σ8 vs1) H' s0 ∧ tn1 j s0.heap ∧ (∀ b ∈ fp1, H' b = none) ∧ W1 j k H') ?_ m1
            ⟨s11, 0, H11, T11, I11.weak (wipe_length _ _) (fun j v e => (wipe_some e).1), st11, fun b hb => (f11 b hb).1, w1⟩
          rintro k s13 ⟨sg, j, H12, T12, I12, st12, n12, w12⟩
          rcases turn1 j k H12 w12 with ⟨stop1, nx1⟩ | ⟨go1, Nx1, hNx1, step1⟩
          · refine thnG (U1.done (X.blk s3 (upd H1 D (.lst [])) scope ce [sc.heap.objs.size, a]) rfl rfl rfl hc j _ sg (wipe σ8 vs1) H12 (fun _ _ => False) I12 (stat1 n12) st12 stop1) T12 fun r s14 s15 T14 ⟨hr, I14⟩ => ?_
            subst hr
            exact fin T14 I14 (hl8.trans (wipe_length σ8 vs1).symm) hk9 nx1
          · refine thnG (U1.item (X.blk s3 (upd H1 D (.lst [])) scope ce [sc.heap.objs.size, a]) rfl rfl rfl hc j _ sg (wipe σ8 vs1) H12 (fun _ _ => False) I12 (stat1 n12) st12 go1) T12 fun r s14 s15 T14 ⟨u1, hr, h14⟩ => ?_
            subst hr
            refine thnG h14 T14 fun _ s16 s17 T16 ⟨x1, H14, I16, r16, y16, st16, n16⟩ => ?_
            have I16' := I16.pinned (stat1 n16) (U1.obj _ _ st16)
            refine thnG (pg1.run _ s16 (wipe σ8 vs1) H14 x1 u1 _ I16' r16 (step1 x1 H14 y16)) T16 fun _ s18 s19 T18 ⟨σ18, H18, I18, hw18, q18⟩ => ?_
            refine thnG (pt1.run _ s18 σ18 H18 _ I18 q18) T18 fun b1 s20 s21 T20 ⟨H20, I20, q20⟩ => ?_
            have fin1 : ∀ {t0 t1 : Shared} {H' : Hp}, Tied s6.gens t0 t1 → Inv (X.blk s3 (upd H1 D (.lst [])) scope ce [sc.heap.objs.size, a]) (([] ++ pinsAt [a, it, l] s6.heap) ++ pinsAt fp1 s16.heap) σ18 H' t0 → Nx1 H' →
                ∃ m, m < k ∧ ∃ s0 j H', Tied s6.gens s0 t1 ∧ Inv (X.blk s3 (upd H1 D (.lst [])) scope ce [sc.heap.objs.size, a]) ([] ++ pinsAt [a, it, l] s6.heap) (wipe σ8 vs1) H' s0 ∧ tn1 j s0.heap ∧ (∀ b ∈ fp1, H' b = none) ∧ W1 j m H' := fun {t0 t1 H'} TT I' nx => by
              obtain ⟨m', hm, w'⟩ := hNx1 H' nx
              have pin' : ∀ b ∈ fp1, ∀ o, s16.heap.get? b = some o → t0.heap.get? b = some o ∧ H' b = none := fun b hb o e =>
                let z := I'.pin (b, o) (List.mem_append_right _ (List.mem_append_right _ (mem_pinsAt hb e)))
                ⟨z.1, z.2.1⟩
              refine ⟨m', hm, t0, j + 1, H', TT, I'.unpinned.weak (by rw [← hw18, wipe_length]) (fun j v e => by rw [← hw18] at e; exact (wipe_some e).1), U1.keep _ _ _ st16 fun b hb o e => (pin' b hb o e).1, fun b hb => ?_, w'⟩
              obtain ⟨o, e, _⟩ := U1.obj _ _ st16 b hb
              exact (pin' b hb o e).2
            cases b1 with
            | false =>
              simp only [Bool.false_eq_true, if_false] at q20 ⊢
              exact fin1 T20 I20 q20
            | true =>
              simp only [if_true] at q20 ⊢
              refine thnG (pe.run _ s20 σ18 H20 _ I20 q20) T20 fun z s22 s23 T22 ⟨yv, H22, I22, r22, acc, hD22, hz22, nx⟩ => ?_
              exact thnG (app_ok (X := X.blk s3 (upd H1 D (.lst [])) scope ce [sc.heap.objs.size, a]) (Q := fun _ s' => Inv (X.blk s3 (upd H1 D (.lst [])) scope ce [sc.heap.objs.size, a]) (([] ++ pinsAt [a, it, l] s6.heap) ++ pinsAt fp1 s16.heap) σ18 (upd H22 D (.lst (acc ++ [yv]))) s') I22 hD22 hz22 r22 fun s24 I24 => I24) T22 fun _ s24 s25 T24 I24 => fin1 T24 I24 nx
        exact compStart1_ok loop1 (U1.self X.A 0 _ _ _ (by rw [T11.heap]; exact st11) loop1)
    have room : X.A.depth < recursionLimit := by have := hr.dp; omega
    rcases ph with ⟨rfl, rfl, rfl⟩ | ⟨it, l, us, gs, r, S5⟩
    · have nf := next_first (X := X.blk s3 (upd H1 D (.lst [])) scope ce [sc.heap.objs.size, a]) (outer := X.stack) (T := T) (xs := xs) (sc := sc) (a := a) (C := C) (g := g0) (E := fun _ _ => False) I5 rfl rfl rfl hr.hd room ea eD eC' (by rw [h4, Heap.size_push, sz3]) (fun b hb => by
          rw [h4, Heap.get?_push_ne _ _ _ (Nat.ne_of_lt (by rw [sz3]; exact Nat.lt_of_lt_of_le hb (Nat.le_add_right _ _))), h3, Heap.get?_push_ne _ _ _ (Nat.ne_of_lt (by rw [sz2]; exact Nat.lt_of_lt_of_le hb (Nat.le_add_right _ _))), low2 b hb]) (o4.trans hos)
        (by rw [h4]; exact Heap.get?_push_of_some _ oD3) oC4 fresh hT gen4 (by rw [g4]; exact hgs) cL cl (fun b hb => hb) (by show s3.heap.objs.size ≤ _; rw [sz3]; exact Nat.le_refl _) nfC wk4
      refine thnF nf fun o s6 ⟨H6, x1, x2, I6, na6, en⟩ => ?_
      have stp : Stp T (upd H1 D (.lst [])) H6 := ⟨x1, fun _ => x2⟩
      rcases en with ⟨rfl, exs⟩ | ⟨it, l, us, v, gs, r, rfl, rv, ev, n1, n2, n3, fi, fl, gg, gst, yf, len, hw⟩
      · rcases turn 0 n _ w5 with ⟨_, qq⟩ | ⟨x, ex, _⟩
        · exact ends I6 (qq H6 stp)
        · rw [exs] at ex
          cases ex
      · have ul : us.length = xs.length := rv.length.symm
        rcases turn 0 n _ w5 with ⟨ez, _⟩ | ⟨x, ex, Nx, hNx, stepR⟩
        · omega
        · obtain ⟨u, eu, ru⟩ := Vals.get rv ex
          rw [ev] at eu
          cases eu
          refine body I6 ru ⟨gg, gst, rv, n1, n2, n3, yf, len, hw, ?_, fi, fl⟩ hNx (stepR H6 stp)
          refine ⟨na6, by show a ≠ ce.locals; rw [cL, eC', ea]; exact Nat.ne_of_lt (Nat.add_lt_add_left (by decide) _), fun z => I6.ok.exfs a (by show a ∈ [sc.heap.objs.size, a]; simp) z, .inl (by show a ∈ [sc.heap.objs.size, a]; simp), fun x c e z => ?_, fun p hp => by cases hp⟩
          have q := cl x c e
          rw [z, ea] at q
          exact absurd q (Nat.not_lt_of_le (Nat.le_succ _))
    · have nl := next_later (xs := xs) (E := fun _ _ => False) I5 hr.hd room S5.gen S5.st S5.nai S5.yf S5.len S5.wk S5.fi
      refine thnF nl fun o s6 en => ?_
      have ul : us.length = xs.length := S5.rv.length.symm
      have len := S5.len
      rcases en with ⟨rfl, rz, I6⟩ | ⟨v, r', gs', rfl, er, ev, I6, gg, gst, yf, hw, hk⟩
      · rcases turn i n _ w5 with ⟨_, qq⟩ | ⟨x, ex, _⟩
        · exact ends I6 (qq H5 (Stp.refl T H5))
        · have z := (List.getElem?_eq_some_iff.mp ex).1
          omega
      · rcases turn i n _ w5 with ⟨ez, _⟩ | ⟨x, ex, Nx, hNx, stepR⟩
        · omega
        · obtain ⟨u, eu, ru⟩ := Vals.get S5.rv ex
          rw [ev] at eu
          cases eu
          exact body I6 ru ⟨gg, gst, S5.rv, S5.nai, S5.nal, S5.nil_, yf, by omega, hw, S5.fa, S5.fi, S5.fl⟩ hNx (stepR H5 (Stp.refl T H5))
  exact codeAny_compStart_list loop (wpAny_pyIter_gen gen4 loop)
/-- as a value -/
theorem pe_lc2W {elt tg iter tg1 iter1 : Expr} {ifs ifs1 : List Expr} {scope : Scope} {own : List (Str × Nat)} {vs1 : List Nat} {pos : Pos} {tw : TWk} {wi1 : TI} {g g1 : TG} {tt tt1 : TT} {te : TE} (hc : X.calm = true) (hN : X.N.Nodup) (hi : PWI X k T iter tw) (hr : Room (k + 1) X.A) (ok : BlkOk X.N X.env.scope scope own) (hv : ∀ i ∈ vs1, i ∈ own.map (·.2)) (nocell : (scope.names.all fun y => !decide (y.2 = .cell)) = true)
    (hg : ∀ (s : Shared) (H : Hp) (C : Addr) (cl : List (Str × Addr)) (fp : List Addr), PG (X.blk s H scope (compEnvC scope cl C X.env) fp) tg g) (ht : ∀ (s : Shared) (H : Hp) (C : Addr) (cl : List (Str × Addr)) (fp : List Addr), PTs (X.blk s H scope (compEnvC scope cl C X.env) fp) ifs tt)
    (hi1 : ∀ (s : Shared) (H : Hp) (C : Addr) (cl : List (Str × Addr)) (fp : List Addr), PI (X.blk s H scope (compEnvC scope cl C X.env) fp) tg1 iter1 wi1)
    (hg1 : ∀ (s : Shared) (H : Hp) (C : Addr) (cl : List (Str × Addr)) (fp : List Addr), PG (X.blk s H scope (compEnvC scope cl C X.env) fp) tg1 g1) (ht1 : ∀ (s : Shared) (H : Hp) (C : Addr) (cl : List (Str × Addr)) (fp : List Addr), PTs (X.blk s H scope (compEnvC scope cl C X.env) fp) ifs1 tt1)
    (he : ∀ (s : Shared) (H : Hp) (C : Addr) (cl : List (Str × Addr)) (fp : List Addr), PE (X.blk s H scope (compEnvC scope cl C X.env) fp) elt te) (hs : ∀ x, foldedSetIterable iter X.env x = pure x := by intro _; rfl) (hs1 : ∀ env x, foldedSetIterable iter1 env x = pure x := by intro _ _; rfl) :
    PE X (.ListComp elt [⟨tg, iter, ifs, 0⟩, ⟨tg1, iter1, ifs1, 0⟩] scope pos) (tLc2W T tw g tt wi1 g1 tt1 te (own.map (·.2)) vs1) := by
  have nc : ∀ y ∈ scope.names, y.2 ≠ .cell := fun y hy => by simpa using (List.all_eq_true.mp nocell) y hy
  refine ⟨fun pins s σ H Q I h => ?_⟩
  rw [eval_ListComp]
  refine lc2W_core hc hN I hi hr ok nc hv hg ht he hs hi1 hg1 ht1 hs1 h fun D C s' m H' I' q hn f => ⟨m, hn, fun h'' sb => ?_⟩
  obtain ⟨f0, f1, f2, f3, f4, f5⟩ := f
  exact ⟨.ref D, H', I'.turned (t' := s'.toks) (fun b o hb e => (sb.2 b hb).trans e) f0 f1 f3 f4 f5, rfl, q⟩
end
end Ask

set_option Elab.async false
set_option linter.all false
set_option maxRecDepth 100000
set_option maxHeartbeats 8000000
namespace Ask
open PySem PySem.Spec PyProof.Rows L2 GenW LamX
open Sem (wp)
/-! for x in GEN: body, GEN's def being «st; yield from e», e a new list of objects that stays tracked; the body runs while GEN sleeps -/
section
variable {P : Program} {w : World} {A : Around} {s : Shared} {Φ : End → Shared → Prop}
/-- the last statement, «yield from e» -/
theorem sg_yfLast {body : List Stmt} {e : Expr} {yp pos : Pos} {env : Env} (hh : A.handled = none) (hi : interactive env = false)
    (he : wpAny (model P w) (A.deeper env) (eval e env) (fun v s1 => ∃ (l : Addr) (us : List Value), v = .ref l ∧ s1.heap.IsList l us.toArray ∧
      ∀ e' s', Turns (model P w) s1.heap.objs.size l us us.length 0 { s1 with heap := s1.heap.push { cls := .type "list_iterator", data := .fields #[.ref l, .int 0 0] } } e' s' → Φ e' s') (fun _ _ => False) s) :
    Sg (model P w) A Φ (.func body env) ((execs [.Expr (.YieldFrom e yp) pos] env).wrap (fun f => .pure (.done (.ret (match f with | .ret v => v | _ => .none))))
      (fun e => (leaving env e).wrap (fun _ => .raise e) .raise id id) id id) [] s := by
  refine sg_execs_cons ?_
  rw [exec_Expr env _ pos hi rfl]
  refine sg_at ?_
  show Sg _ _ _ _ (((eval e env >>= fun v => (standAt yp >>= fun _ => yieldFrom env v)) >>= fun x => dropValue (.YieldFrom e yp) pos x).wrap _ _ _ _) _ s
  refine sg_bind2 ?_
  rw [over_func]
  refine wpAny_mono he (fun v s1 hv => ?_) fun x s' hx => hx.elim
  obtain ⟨l, us, rfl, hL, hq⟩ := hv
  refine sg_at ?_
  show Sg _ _ _ _ ((yieldFrom env (.ref l)).wrap _ _ _ _) _ s1
  unfold yieldFrom
  refine sg_bw (wpAny_typeOf (T := "list") hL.typeIs ?_)
  rw [if_neg (show ¬ ((Value.type "list" == Value.type "coroutine") = true) from by decide)]
  refine sg_bw (wpAny_holding (wpAny_pyIter_list hL ?_))
  refine sg_call fun p => ?_
  have ll : l < s1.heap.objs.size := let ⟨_, e, _⟩ := hL; Heap.lt_size e
  refine Sg.imp (sg_yf (it := s1.heap.objs.size) (l := l) (us := us) (Nat.ne_of_gt ll) rfl rfl (fun A hA => ?_) (fun A' s0 s' hA kb => ?_) us.length 0 A _ (Nat.zero_add _) hh ⟨⟨_, Heap.get?_push_size _ rfl, rfl, rfl⟩, hL.push _⟩) fun e' s' ht => hq e' s' ht
  · show A.handled = none
    exact hA
  · refine sg_leaf (.ok (.ret .none)) ?_
    show Sg (model P w) A' _ _ (leafOf (.ok (.ret .none))) [] s'
    exact sg_end (.ok (.ret .none)) ⟨⟨_, rfl, .inl rfl⟩, kb⟩
end
/-- behind the first turn -/
def EndT (P : Program) (w : World) (outer : List Env) (H : Hp) (s : Shared) (a : Addr) (g : Nat) (Y : Addr → List Addr → Hp → Prop) (e : End) (s1 : Shared) : Prop :=
  ∃ (l : Addr) (ts : List Addr) (H' : Hp), s1.os = s.os ∧ AllBare s1.gens ∧ g < s1.gens.size ∧ s1.heap.IsGen a g ∧ H' a = none ∧ Un (frs outer) [] H H' s.heap s1.heap ∧ HOk P w H' s1.heap ∧ H' l = some (.lst (ts.map V.ref)) ∧ Y l ts H' ∧
    ((ts = [] ∧ ∃ f, e = .ret (.ok f) ∧ (f = .ret .none ∨ f = .next)) ∨
      ∃ (it : Addr) (v : Value), (∃ gd lv k c p fs, e = .susp v gd lv k c p fs) ∧ e.quiet = true ∧ (ts.map Value.ref)[0]? = some v ∧ it ≠ l ∧ it ≠ a ∧ H' it = none ∧ s.heap.objs.size ≤ it ∧ YfSt it l (ts.map Value.ref) 1 s1.heap ∧
        ∃ r, r + 1 = ts.length ∧ Wk (model P w) it l (ts.map Value.ref) 1 e.genState (Turns (model P w) it l (ts.map Value.ref) r 1))
/-- the generator just made -/
def MadeT (P : Program) (w : World) (k : Nat) (outer : List Env) (H : Hp) (s : Shared) (Y : Addr → List Addr → Hp → Prop) (u : Value) (s' : Shared) : Prop :=
  ∃ (a : Addr) (g : Nat) (c : Code), u = .ref a ∧ s.heap.objs.size ≤ a ∧ s'.heap.IsGen a g ∧ s'.gens[g]? = some (.fresh c) ∧ s'.os = s.os ∧ AllBare s'.gens ∧ s'.heap.NoLimit ∧ (∀ b o, s.heap.get? b = some o → s'.heap.get? b = some o) ∧
    ∀ (A : Around) (s2 : Shared), Room k A → A.frames = some outer → (∀ b o, s'.heap.get? b = some o → s2.heap.get? b = some o) → s2.os = s.os → AllBare s2.gens → g < s2.gens.size →
      Sg (model P w) A (EndT P w outer H s a g Y) c ((model P w).den c) [] s2
abbrev SpT := List V → Hp → (Addr → List Addr → Hp → Prop) → Prop
structure TFn (P : Program) (w : World) (K : PySem.W.Frag) (mg : Str → Option Value) (base : Heap) (k : Nat) (f : Addr) (fd : FuncData) (ps : List Str) (sp : SpT) : Prop where
  len : ∀ vs H Y, sp vs H Y → vs.length = ps.length
  run : ∀ (A : Around) (outer : List Env) (s : Shared) (H : Hp) (args : Args) (us : List Value) (vs : List V) (Y : Addr → List Addr → Hp → Prop), Room k A → Env0 P w K mg base A outer s H → BindsTo s fd args (ps.zip us) → Vals vs us → sp vs H Y →
    codeAny (model P w) A (.call (.ref f) args) (fun r s' => match r with | .ok (.ret u) => MadeT P w k outer H s Y u s' | _ => False) s
/-- what is wanted of e: a list of objects -/
def tLast (K : PySem.W.Frag) (te : TE) (Y : Addr → List Addr → Hp → Prop) (σ : L2.St) (H : Hp) : Prop := te σ H fun x H1 => ∃ (l : Addr) (ts : List Addr), x = .ref l ∧ H1 l = some (.lst (ts.map V.ref)) ∧ Y l ts H1
theorem tfn_of {P : Program} {w : World} {K : PySem.W.Frag} {mg : Str → Option Value} {base : Heap} {k : Nat} {f : Addr} {name qual : Str} {params : Arguments} {st : Stmt} {e : Expr} {yp pos : Pos} {scope : Scope} {dV kV doc pm cdv ct oc : Value} {an od : Option Addr}
    {osl : Array (Option Value)} {N ps : List Str} {sp : SpT} (lk : K.lookup f = some ⟨oc, od, .func (PySem.W.fnOf name qual params [st, .Expr (.YieldFrom e yp) pos] scope dV kV doc pm an cdv ct), osl⟩) (hcd : PySem.W.codeIn K cdv qual = true) (S : GScope N ps scope)
    (len : ∀ vs H Y, sp vs H Y → vs.length = ps.length) (hint : ∀ (A : Addr) (s : Shared), interactive (envOfC qual scope s.heap.objs.size A cdv) = false)
    (hbody : ∀ (A : Around) (outer : List Env) (s : Shared) (H : Hp) (vs : List V) (Y : Addr → List Addr → Hp → Prop) (pn : List (Addr × Obj)), Room k (A.deeper (envOfC qual scope s.heap.objs.size f cdv)) → sp vs H Y →
      ∃ ts te, PS (gcxOf P w K mg base N qual scope f cdv A outer s H C8.E0 pn).nox st ts ∧ PE (gcxOf P w K mg base N qual scope f cdv A outer s H C8.E0 pn).nox e te ∧ ts { nx := fun σ H1 => tLast K te Y σ H1, rt := fun _ _ => False } (start N vs) H) :
    TFn P w K mg base (k + 1) f (PySem.W.fnOf name qual params [st, .Expr (.YieldFrom e yp) pos] scope dV kV doc pm an cdv ct) ps sp := by
  refine ⟨len, fun A outer s H args us vs Y hr e0 hb r hsp => ?_⟩
  have hl := len _ _ _ hsp
  have KX : K.In s.heap := e0.mod.kin.keeps fun b o e => (e0.bs b o e).1
  have lim : s.heap.NoLimit := e0.mod.nolimit.keeps fun b o e => (e0.bs b o e).1
  have hkind : ∀ y ∈ ps.zip us, scope.names.lookup y.1 = some .local ∨ (scope.names.lookup y.1 = some .cell ∧ ((cellsFrom (s.heap.objs.size + 1) scope.names []).lookup y.1).isSome = true) := fun ⟨n, v⟩ hy => by
    rcases S.par n (List.of_mem_zip hy).1 with q | q
    · exact .inl q
    · exact .inr ⟨q, PySem.W.cellsFrom_some _ _ _ (.inl q)⟩
  refine codeAny_call_generator hr.depth (KX _ _ lk) rfl S.co S.gen rfl (PySem.W.codeRec_of KX hcd) (hb _ _ _ _ ?_)
  refine wpAny_newFunctionEnv_cells S.kind hkind fun env he s1 x => ?_
  subst he
  have lim1 : s1.heap.NoLimit := lim.keeps x.toInCall.keep
  refine ⟨lim1, ?_⟩
  obtain ⟨h1, tk, es1, hk1⟩ := x.done
  have os1 : s1.os = s.os := by rw [es1]
  have gen1 : s1.gens = s.gens := by rw [es1]
  have lt1 : s.heap.objs.size < s1.heap.objs.size := x.toInCall.ns.lt
  have kp1 : ∀ b o, s.heap.get? b = some o → s1.heap.get? b = some o := x.toInCall.keep
  have main : ∀ (go : Obj) (nm qn : Value) (tk2 : Nat), go.cls = .type "generator" → go.data = .fields #[.int s1.gens.size 0, nm, qn] → go.slots = #[] → (∀ h : Heap, (h.push go).get? h.objs.size = some go) →
      MadeT P w (k + 1) outer H s Y (.ref s1.heap.objs.size) { s1 with gens := s1.gens.push (.fresh (.func [st, .Expr (.YieldFrom e yp) pos] (envOfC qual scope s.heap.objs.size f cdv))), toks := tk2, heap := s1.heap.push go } := by
    intro go nm qn tk2 hgc hgd0 hgs hgp
    have hgen : ∀ h : Heap, h.get? s1.heap.objs.size = some go → h.IsGen s1.heap.objs.size s1.gens.size := fun h e => ⟨go, nm, qn, e, hgc, hgd0, hgs⟩
    have hpushed : (s1.heap.push go).get? s1.heap.objs.size = some go := hgp _
    refine ⟨s1.heap.objs.size, s1.gens.size, _, rfl, Nat.le_of_lt lt1, hgen _ hpushed, Array.getElem?_push_size .., os1, ?_, lim1.keeps fun b o e => Heap.get?_push_of_some _ e, fun b o e => Heap.get?_push_of_some _ (kp1 b o e), ?_⟩
    · exact AllBare.push (by rw [gen1]; exact e0.bare) rfl
    intro Aw s2 hrw hfr hk2 hos hba hgz
    have e0w : Env0 P w K mg base Aw outer s H := ⟨hfr, e0.mod, e0.bs, e0.bsz, e0.funs, e0.frf, e0.hok, e0.bare⟩
    have I1 : Inv (gcxOf P w K mg base N qual scope f cdv Aw outer s H C8.E0 []) [] (start N vs) H s1 := inv_startG S hrw.hd e0w hl r x
    have kp2 : ∀ b o, s1.heap.get? b = some o → s2.heap.get? b = some o := fun b o e => hk2 b o (Heap.get?_push_of_some _ e)
    have I2 : Inv (gcxOf P w K mg base N qual scope f cdv Aw outer s H C8.E0 []) [] (start N vs) H s2 :=
      I1.call' (ch := []) (hos.trans os1.symm) (Un.kept kp2) (I1.hok.kept kp2) hba fun b z => by simp at z
    have hea : s2.heap.get? s1.heap.objs.size = some go := hk2 s1.heap.objs.size go hpushed
    have hgd : ∀ v, go.data ≠ .cell v := fun v q => by rw [hgd0] at q; cases q
    have I3 : Inv (gcxOf P w K mg base N qual scope f cdv Aw outer s H C8.E0 [(s1.heap.objs.size, go)]) [] (start N vs) H s2 := by
      refine Inv.pinnedG I2 fun p hp => ?_
      rw [List.append_nil] at hp
      rw [List.mem_singleton.mp hp]
      exact ⟨hea, I1.hok.fresh (Nat.le_refl _), Nat.ne_of_gt lt1, I1.nofs (Nat.le_refl _), hgd⟩
    have I4 : Inv (gcxOf P w K mg base N qual scope f cdv Aw outer s H C8.E0 [(s1.heap.objs.size, go)]).nox [] (start N vs) H s2 := I3.wish _
    obtain ⟨ts0, te, hst, he, hq⟩ := hbody Aw outer s H vs Y [(s1.heap.objs.size, go)] (hrw.deeper _) hsp
    generalize hX : (gcxOf P w K mg base N qual scope f cdv Aw outer s H C8.E0 [(s1.heap.objs.size, go)]).nox = X at I4 hst he
    have hpn : X.pn = [(s1.heap.objs.size, go)] := by subst hX; rfl
    have hxe : X.xe = fun _ _ => False := by subst hX; rfl
    have hXA : X.A = Aw.deeper (envOfC qual scope s.heap.objs.size f cdv) := by subst hX; rfl
    have hXe : X.env = envOfC qual scope s.heap.objs.size f cdv := by subst hX; rfl
    have hXp : X.prog = P := by subst hX; rfl
    have hXw : X.w = w := by subst hX; rfl
    have hXK : X.K = K := by subst hX; rfl
    refine sg_func ?_
    refine sg_execs_cons ?_
    refine sg_wrap ?_
    rw [over_func]
    have r1 := hst.run [] (ghosted s2) (start N vs) H { nx := fun σ H1 => tLast K te Y σ H1, rt := fun _ _ => False } (inv_ghost I4) hq
    rw [hXp, hXw, hXA, hXe, hxe] at r1
    refine wpAny_mono (ghost_any r1 (ghosted_tied s2)) (fun fl s3 hv => ?_) fun _ _ ⟨_, _, z⟩ => z.elim
    obtain ⟨s3', T3, hsp3⟩ := hv
    cases fl with
    | brk => obtain ⟨_, _, _, q⟩ := hsp3; exact q.elim
    | cont => obtain ⟨_, _, _, q⟩ := hsp3; exact q.elim
    | ret u => obtain ⟨_, _, _, _, _, q⟩ := hsp3; exact q.elim
    | next =>
      obtain ⟨σ3, H3, I5, q3⟩ := hsp3
      have r2 := he.run [] s3' σ3 H3 _ I5 q3
      rw [hXp, hXw, hXA, hXe, hxe] at r2
      refine sg_yfLast hrw.hd (hint f s) (wpAny_mono (ghost_any r2 T3) (fun v s' hv => ?_) fun _ _ ⟨_, _, z⟩ => z)
      obtain ⟨s0', TT, y, H', J0, rv, l, tl, rfl, hl0, hY⟩ := hv
      obtain rfl : v = Value.ref l := rv
      have J := inv_tied J0 TT hba
      obtain ⟨us, rus, hPL, _⟩ := J.list (SqL.of hl0)
      have eus := nts_of rus
      subst eus
      have hLl := hPL.isList
      have gz : s1.gens.size < s'.gens.size := by rw [← TT.size]; exact Nat.lt_of_lt_of_le hgz TT.big
      refine ⟨l, tl.map Value.ref, rfl, hLl, fun e' s'' ht => ?_⟩
      have ll : l < s'.heap.objs.size := let ⟨_, e, _⟩ := hLl; Heap.lt_size e
      have J2 : Inv X [] σ3 H' { s' with heap := s'.heap.push { cls := .type "list_iterator", data := .fields #[.ref l, .int 0 0] } } := J.kept (t' := s'.toks) fun b o eb => Heap.get?_push_of_some _ eb
      have fi := J.fpOk (H' := H') (b := s'.heap.objs.size) (Nat.le_refl _) (J.hok.fresh (Nat.le_refl _))
      have gin : ((s1.heap.objs.size, go) : Addr × Obj) ∈ X.pn ++ [] := by rw [hpn]; exact List.mem_append_left _ List.mem_cons_self
      have bs : s.heap.objs.size ≤ s'.heap.objs.size := by
        have z := J.lt
        subst hX
        exact Nat.le_of_lt z
      have fin : ∀ {s3 : Shared}, KeptBut s'.heap.objs.size { s' with heap := s'.heap.push { cls := .type "list_iterator", data := .fields #[.ref l, .int 0 0] } } s3 →
          ((tl = [] ∧ ∃ f, e' = .ret (.ok f) ∧ (f = .ret .none ∨ f = .next)) ∨ ∃ (it : Addr) (v : Value), (∃ gd lv k c p fs, e' = .susp v gd lv k c p fs) ∧ e'.quiet = true ∧ (tl.map Value.ref)[0]? = some v ∧ it ≠ l ∧ it ≠ s1.heap.objs.size ∧ H' it = none ∧ s.heap.objs.size ≤ it ∧ YfSt it l (tl.map Value.ref) 1 s3.heap ∧
            ∃ r, r + 1 = tl.length ∧ Wk (model P w) it l (tl.map Value.ref) 1 e'.genState (Turns (model P w) it l (tl.map Value.ref) r 1)) → EndT P w outer H s s1.heap.objs.size s1.gens.size Y e' s3 := fun {s3} kb en => by
        have J3 : Inv X [] σ3 H' s3 := by
          rw [kb.same]
          exact J2.turnedL (t' := s3.toks) (ch := [s'.heap.objs.size]) (fun b o hb eb => kb.kept b o (fun z => hb (by simp [z])) eb) fun b hb => by rw [List.mem_singleton.mp hb]; exact fi
        have pn3 := J3.pin _ gin
        refine ⟨l, tl, H', ?_, J3.bare, by rw [kb.same]; exact gz, hgen _ pn3.1, pn3.2.1, ?_, ?_, hl0, hY, en⟩
        · have z := J3.os
          subst hX
          exact z
        · have z := J3.base
          subst hX
          exact z
        · have z := J3.hok
          rw [hXp, hXw] at z
          exact z
      cases tl with
      | nil =>
        obtain ⟨hf, kb⟩ := ht
        exact fin kb (.inl ⟨rfl, hf⟩)
      | cons t tl =>
        obtain ⟨v', he', hq', hv', hst', kb, hw⟩ := ht
        exact fin kb (.inr ⟨_, v', he', hq', hv', Nat.ne_of_gt ll, (fi.2.2.2.2.2 _ gin).symm, fi.1, bs, hst', tl.length, rfl, by simpa using hw⟩)
  exact main _ _ _ _ rfl rfl rfl fun h => Heap.get?_push_size _ rfl
end Ask

set_option Elab.async false
set_option linter.all false
set_option maxRecDepth 100000
set_option maxHeartbeats 8000000
namespace Ask
open PySem PySem.Spec PyProof.Rows L2 GenW LamX
/-- a generator def that ends with «yield from», by its Fun -/
theorem Fun.tfn {P : Program} {w : World} {K : PySem.W.Frag} {mg : Str → Option Value} {base : Heap} {x qual : Str} {fst st : Stmt} {e : Expr} {yp pos : Pos} {f : Addr} {fd : FuncData} {N ps : List Str} {k : Nat} {sp : SpT} (F : Fun K x qual fst f fd) (hd : defBody fst = [st, .Expr (.YieldFrom e yp) pos]) (S : GScope N ps (defScope fst))
    (len : ∀ vs H Y, sp vs H Y → vs.length = ps.length) (hint : ∀ (cdv : Value) (A : Addr) (s : Shared), interactive (envOfC qual (defScope fst) s.heap.objs.size A cdv) = false)
    (hbody : ∀ (cdv : Value) (A : Around) (outer : List Env) (s : Shared) (H : Hp) (vs : List V) (Y : Addr → List Addr → Hp → Prop) (pn : List (Addr × Obj)), Room k (A.deeper (envOfC qual (defScope fst) s.heap.objs.size f cdv)) → sp vs H Y →
      ∃ ts te, PS (gcxOf P w K mg base N qual (defScope fst) f cdv A outer s H C8.E0 pn).nox st ts ∧ PE (gcxOf P w K mg base N qual (defScope fst) f cdv A outer s H C8.E0 pn).nox e te ∧ ts { nx := fun σ H1 => tLast K te Y σ H1, rt := fun _ _ => False } (start N vs) H) :
    TFn P w K mg base (k + 1) f fd ps sp := by
  obtain ⟨oc, od, kV, doc, pm, an, cdv, ct, osl, rfl, lk, hcd⟩ := F.ex
  rw [hd] at lk ⊢
  exact tfn_of lk hcd S len (fun A s => hint cdv A s) fun A outer s H vs Y pn hr hsp => hbody cdv A outer s H vs Y pn hr hsp
abbrev TGnT := L2.St → Hp → (Addr → List Addr → Hp → Prop) → Prop
structure PGT (X : Cx) (k : Nat) (e : Expr) (tg : TGnT) : Prop where
  run : ∀ (pins : List (Addr × Obj)) (s : Shared) (σ : L2.St) (H : Hp) (Y : Addr → List Addr → Hp → Prop), Inv X pins σ H s → tg σ H Y → wpAny (model X.prog X.w) X.A (eval e X.env)
    (fun u s' => ∃ H1 sc, Inv X pins σ H1 sc ∧ MadeT X.prog X.w k X.stack H1 sc Y u s') X.xe s
section
variable {X : Cx} {k : Nat} {f : Addr} {fd : FuncData} {ps : List Str} {sp : SpT} {dvs : List V} {ds : List Value} {x : Str} {p pos pos' : Pos}
theorem run_tfn {pins : List (Addr × Obj)} {σ : L2.St} {H : Hp} {s : Shared} {us : List Value} {vs : List V} {Y : Addr → List Addr → Hp → Prop} {E1 : Value → Shared → Prop} (F : TFn X.prog X.w X.K X.mg X.base k f fd ps sp) (hr : Room k X.A) (hb : Binds X.K fd ps ds) (hd : Vals dvs ds)
    (I : Inv X pins σ H s) (r : Vals vs us) (h : sp (vs ++ dvs) H Y) :
    wpAny (model X.prog X.w) X.A (call (.ref f) us) (fun u s' => ∃ H1 sc, Inv X pins σ H1 sc ∧ MadeT X.prog X.w k X.stack H1 sc Y u s') E1 s := by
  have r2 : Vals (vs ++ dvs) (us ++ ds) := r.append hd
  have hl2 : (us ++ ds).length = ps.length := by rw [← r2.length]; exact F.len _ _ _ h
  refine wpAny_call (codeAny_mono (F.run X.A X.stack s H ⟨us, []⟩ (us ++ ds) (vs ++ dvs) Y hr I.env0 (hb s us I.kIn hl2) r2 h) fun r s' hq => ?_)
  cases r with
  | error e => exact False.elim hq
  | ok fl =>
    cases fl with
    | ret u => exact ⟨H, s, I, hq⟩
    | next => exact False.elim hq
    | brk => exact False.elim hq
    | cont => exact False.elim hq
def tCallGT (sp : SpT) (dvs : List V) (t : TA) : TGnT := fun σ H Y => t σ H fun vs H1 => sp (vs ++ dvs) H1 Y
/-- f(e, ..) -/
theorem pgt_call {e : Expr} {es : List Expr} {t : TA} (F : TFn X.prog X.w X.K X.mg X.base k f fd ps sp) (hr : Room k X.A) (hg : Gl X x) (hm : X.mg x = some (.ref f)) (hk : PySem.W.keepIn X.K (.ref f) = true) (hb : Binds X.K fd ps ds) (hd : Vals dvs ds)
    (ha : PA X (e :: es) t) (hdb : (x == ("__debug__" : Str)) = false := by decide) (he : starEach (e :: es) X.env = (false, eval e X.env) :: starEach es X.env := by rfl) (hpl : (backTo pos' (starEach es X.env)).any (·.1) = false := by rfl) :
    PGT X k (.Call (.Name x p) (e :: es) [] pos') (tCallGT sp dvs t) := by
  refine ⟨fun pins s σ H Y I h => ?_⟩
  refine wpAny_Call_Name_kw (ld_glob I hg hm ?_ hdb)
  refine PySem.W.callWith_K (h₀ := X.base) I.ok.mod.kin hk (thn (ha.run pos' pins s σ H _ I h) fun us s1 ⟨vs, H1, I1, r, q⟩ => ⟨I1.kIn, ?_⟩) he hpl
  exact run_tfn F hr hb hd I1 r q
end
/-- the first turn of a for loop -/
theorem forLoop_turn {prog : Program} {w : World} {A : Around} {s : Shared} {R : Result → Shared → Prop} {target : Expr} {it : Value} {body orelse : List Stmt} {env : Env}
    (h : wpAny (model prog w) A (pyNext it) (fun r s₁ => match r with
      | none => wpAny (model prog w) A (execs orelse env) (fun f s₃ => R (.ok f) s₃) (notedBy (model prog w) A env fun e s' => R (.error e) s') s₁
      | some v => wpAny (model prog w) A (letOwnedTupleGo target it v) (fun _ s₁' =>
          wpAny (model prog w) A (assign target env v) (fun _ s₂ => wpAny (model prog w) A (execs body env) (fun f s₃ => match f with
            | .next | .cont => codeAny (model prog w) A (.forLoop target it body orelse env) R s₃
            | .brk => R (.ok .next) s₃
            | .ret v => R (.ok (.ret v)) s₃) (notedBy (model prog w) A env fun e s' => R (.error e) s') s₂) (notedBy (model prog w) A env fun e s' => R (.error e) s') s₁') (notedBy (model prog w) A env fun e s' => R (.error e) s') s₁) (notedBy (model prog w) A env fun e s' => R (.error e) s') s) :
    codeAny (model prog w) A (.forLoop target it body orelse env) R s := by
  refine codeAny_loop' rfl (fun _ s' => s' = s) (fun n s1 e => ?_) 0 rfl
  subst e
  show wpAny _ A ((forTurn target it body orelse env).onRaise (fun x => do noteFrame x env; theTreesLotGoes x)) _ _ _
  refine wpAny_noted ?_
  simp only [forTurn]
  refine wpAny_bind (wpAny_standAt (wpAny_bind (wpAny_onRaise (wpAny_mono h (fun r s₁ h₁ => ?_) fun _ _ h' => wpAny_standAt h'))))
  cases r with
  | none => exact wpAny_pure (.inr ⟨rfl, codeAny_block h₁⟩)
  | some v =>
    refine wpAny_bind (wpAny_mono h₁ (fun _ s₁' h₁' => ?_) fun _ _ h' => h')
    refine wpAny_bind (wpAny_mono h₁' (fun _ s₂ h₂ => wpAny_bind (wpAny_mono h₂ (fun f s₃ h₃ => ?_) fun _ _ h' => h')) fun _ _ h' => h')
    cases f with
    | next => exact wpAny_pure (.inr ⟨rfl, h₃⟩)
    | cont => exact wpAny_pure (.inr ⟨rfl, h₃⟩)
    | brk => exact wpAny_pure h₃
    | ret v => exact wpAny_pure h₃
/-- asleep, i items handed out; the list itself is tracked -/
structure SlT (X : Cx) (pins : List (Addr × Obj)) (ts : List Addr) (l a : Addr) (g i : Nat) (H : Hp) (s : Shared) (it : Addr) (gs : GenState) (r : Nat) : Prop where
  gen : s.heap.IsGen a g
  st : s.gens[g]? = some gs
  nai : a ≠ it
  nil_ : it ≠ l
  iter : s.heap.IsListIter it l i
  len : i + r = (ts.map Value.ref).length
  wk : Wk (model X.prog X.w) it l (ts.map Value.ref) i gs (Turns (model X.prog X.w) it l (ts.map Value.ref) r i)
  fa : FpOk X pins H a
  fi : FpOk X pins H it
section
variable {X : Cx} {k : Nat}
def tForT (tgn : TGnT) (g : TG) (tb : TS) : TS := fun D σ H => tgn σ H fun l ts H1 => ∃ W : Nat → Nat → L2.St → Hp → Prop, (∃ m, W 0 m σ H1) ∧ ∀ i m σ H, W i m σ H → H l = some (.lst (ts.map V.ref)) ∧
  ((i = ts.length ∧ D.nx σ H) ∨ ∃ t, ts[i]? = some t ∧ ∃ N : L2.St → Hp → Prop, (∀ σ' H', N σ' H' → ∃ m', m' < m ∧ W (i + 1) m' σ' H') ∧ g (.ref t) σ H fun σ2 H2 => tb { D with nx := N, ct := N, bk := D.nx } σ2 H2)
theorem ps_forT {iter tg : Expr} {body : List Stmt} {tgn : TGnT} {g : TG} {tb : TS} {pos : Pos} (hi : PGT X k iter tgn) (hxe : ∀ e s, X.xe e s → False) (hr : Room (k + 1) X.A) (hg : PG X tg g) (hb : PSs X body tb)
    (hs : ∀ x, foldedSetIterable iter X.env x = pure x := by intro _; rfl) : PS X (.For tg iter body [] pos) (tForT tgn g tb) := by
  refine ⟨fun pins s σ H D I h => ?_⟩
  refine wpAny_For (thn (hi.run pins s σ H _ I h) fun u s1 ⟨H1, sc, I1, a, g0, c, eu, ha1, hgen, hgs, hos, hba, hlim, hkp, wake⟩ => ?_) hs
  subst eu
  refine wpAny_pyIter_gen hgen ?_
  have room : X.A.depth < recursionLimit := by have := hr.dp; omega
  have gl : g0 < s1.gens.size := (Array.getElem?_eq_some_iff.mp hgs).1
  -- a turn's body
  have turnB : ∀ {l it : Addr} {ts : List Addr} {i r n : Nat} {gs : GenState} {σ6 : L2.St} {H6 : Hp} {s6 : Shared} {t : Addr} {NN : L2.St → Hp → Prop} {Cont : Shared → Prop} {E1 E2 E3 : Value → Shared → Prop} {RR : Flow → Shared → Prop}, Inv X pins σ6 H6 s6 → SlT X pins ts l a g0 (i + 1) H6 s6 it gs r →
      (∀ s' σ' H', Inv X pins σ' H' s' → NN σ' H' → SlT X pins ts l a g0 (i + 1) H' s' it gs r → Cont s') → (∀ s', Cont s' → RR .next s' ∧ RR .cont s') → (∀ s', SP X pins D .next s' → RR .brk s') → (∀ v s', SP X pins D (.ret v) s' → RR (.ret v) s') →
      g (.ref t) σ6 H6 (fun σ2 H2 => tb { D with nx := NN, ct := NN, bk := D.nx } σ2 H2) →
      wpAny (model X.prog X.w) X.A (letOwnedTupleGo tg (.ref a) (.ref t)) (fun _ s₁' => wpAny (model X.prog X.w) X.A (assign tg X.env (.ref t)) (fun _ s₂ => wpAny (model X.prog X.w) X.A (execs body X.env) RR E1 s₂) E2 s₁') E3 s6 := by
    intro l it ts i r n gs σ6 H6 s6 t NN Cont E1 E2 E3 RR I6 S6 hC hnx hbk hrt hrd
    obtain ⟨og, nm, qn, hog, hoc, hod, hos'⟩ := id S6.gen
    refine go_of (n := "generator") hog hoc hod (by decide) ?_
    obtain ⟨oi, hoi, hic, hid⟩ := id S6.iter
    obtain ⟨k1, lv1, c1, p1, fs1, cl1, egs, _, _⟩ := id S6.wk
    have objs : ∀ b ∈ [a, it], ∃ o, s6.heap.get? b = some o ∧ ∀ v, o.data ≠ .cell v := fun b hb => by
      simp only [List.mem_cons, List.not_mem_nil, or_false] at hb
      rcases hb with rfl | rfl
      · exact ⟨og, hog, fun v z => by rw [hod] at z; cases z⟩
      · exact ⟨oi, hoi, fun v z => by rw [hid] at z; cases z⟩
    have fps : ∀ b ∈ [a, it], FpOk X pins H6 b := fun b hb => by
      simp only [List.mem_cons, List.not_mem_nil, or_false] at hb
      rcases hb with rfl | rfl
      · exact S6.fa
      · exact S6.fi
    have J := inv_ghost (I6.pinned fps objs)
    have bare6 := I6.bare
    have fin : ∀ {s0 s' : Shared} {H' : Hp} {σ8 : L2.St}, Tied s6.gens s0 s' → Inv X (pins ++ pinsAt [a, it] s6.heap) σ8 H' s0 → NN σ8 H' → Cont s' := fun {s0 s' H' σ8} TT I0 nx => by
      have I' := inv_tied I0 TT bare6
      have pin' : ∀ b ∈ [a, it], ∀ o, s6.heap.get? b = some o → s'.heap.get? b = some o ∧ H' b = none := fun b hb o e =>
        let z := I'.pin (b, o) (List.mem_append_right _ (List.mem_append_right _ (mem_pinsAt hb e)))
        ⟨z.1, z.2.1⟩
      have pa := pin' a (by simp) _ hog
      have pi := pin' it (by simp) _ hoi
      refine hC s' σ8 H' (I'.unpinned (pins := pins)) nx ⟨⟨og, nm, qn, pa.1, hoc, hod, hos'⟩, ?_, S6.nai, S6.nil_, ⟨oi, pi.1, hic, hid⟩, S6.len, S6.wk, ⟨pa.2, S6.fa.2⟩, ⟨pi.2, S6.fi.2⟩⟩
      have z := S6.st
      rw [egs] at z ⊢
      exact TT.sleeps z
    have nox : ∀ {α : Type} {t : Sem α} {Q : α → Shared → Prop} {s : Shared}, wpAny (model X.prog X.w) X.A t Q X.xe s → wpAny (model X.prog X.w) X.A t Q (fun _ _ => False) s := fun h => wpAny_mono h (fun _ _ q => q) fun e s' q => hxe e s' q
    refine thnG (nox (hg.run _ (ghosted s6) σ6 H6 (.ref t) (.ref t) _ J rfl hrd)) (ghosted_tied s6) fun _ s7 s8 T7 ⟨σ8, H8, I8, q8⟩ => ?_
    refine thnG (nox (hb.run _ s7 σ8 H8 _ I8 q8)) T7 fun fl s9 s10 T9 q10 => ?_
    cases fl with
    | next => obtain ⟨σ', H', I', q⟩ := q10; exact (hnx s10 (fin T9 I' q)).1
    | cont => obtain ⟨σ', H', I', q⟩ := q10; exact (hnx s10 (fin T9 I' q)).2
    | brk =>
      obtain ⟨σ', H', I', q⟩ := q10
      exact hbk s10 ⟨σ', H', (inv_tied I' T9 bare6).unpinned, q⟩
    | ret v =>
      obtain ⟨x, σ', H', I', rv, q⟩ := q10
      exact hrt v s10 ⟨x, σ', H', (inv_tied I' T9 bare6).unpinned, rv, q⟩
  -- the later turns
  refine forLoop_turn ?_
  refine next_genS (Φ := EndT X.prog X.w X.stack H1 sc a g0 _) hr.hd hlim room hgen hgs (wake X.A.in1 _ hr.in1 I1.ok.frames (fun b o e => e) hos (allBare_setGen hba rfl) ?_) ?_ ?_ ?_
  · show g0 < (s1.gens.setIfInBounds g0 .running).size
    rw [Array.size_setIfInBounds]
    exact gl
  · rintro v gd lv k' c' p' fs s4 ⟨l, ts, H4, os4, ba4, gz4, hg4, na4, un4, hok4, hl4, hY, en⟩
    rcases en with ⟨_, f, e, _⟩ | ⟨it, v', ⟨gd', lv', k2, c2, p2, fs', e⟩, hq, hv, nl, nia, ni, lo, yf, r, er, hw⟩
    · cases e
    cases e
    refine ⟨hq, ?_⟩
    have I4 : Inv X pins σ H4 (s4.setGen g0 (.suspended k' lv c' p' fs (gd || fs.any Frame.guarded))) :=
      I1.call' (ch := []) os4 un4 hok4 (allBare_setGen ba4 (End.bare_of_quiet hq)) fun b z => by simp at z
    obtain ⟨W, ⟨m0, w0⟩, turn⟩ := hY
    have sl0 : SlT X pins ts l a g0 1 H4 (s4.setGen g0 (.suspended k' lv c' p' fs (gd || fs.any Frame.guarded))) it (.suspended k' lv c' p' fs (gd || fs.any Frame.guarded)) r :=
      ⟨hg4, setGen_at gz4, nia.symm, nl, yf.iter, by rw [List.length_map]; omega, hw, I1.fpOk ha1 na4, I1.fpOk lo ni⟩
    -- a later turn, and all behind it
    have later : ∀ (n i : Nat) (σ5 : L2.St) (H5 : Hp) (s5 : Shared), Inv X pins σ5 H5 s5 → W i n σ5 H5 → (∃ gs r, SlT X pins ts l a g0 i H5 s5 it gs r) →
        codeAny (model X.prog X.w) X.A (.forLoop tg (.ref a) body [] X.env) (fun r s' => match r with | .ok f => SP X pins D f s' | .error e => cameBackBy (model X.prog X.w) X.A X.env X.xe e s') s5 := by
      intro n0 i0 σ5 H5 s5 I5 w5 sl5
      refine codeAny_forLoop_any (fun n s' => ∃ i σ H, Inv X pins σ H s' ∧ W i n σ H ∧ ∃ gs r, SlT X pins ts l a g0 i H s' it gs r) ?_ n0 ⟨i0, σ5, H5, I5, w5, sl5⟩
      rintro n s6 ⟨i, σ6, H6, I6, w6, gs, r6, S6⟩
      obtain ⟨hl6, alt⟩ := turn i n σ6 H6 w6
      obtain ⟨us, rus, hPL, _⟩ := I6.list (SqL.of hl6)
      have eus := nts_of rus
      subst eus
      have yf6 : YfSt it l (ts.map Value.ref) i s6.heap := ⟨S6.iter, hPL.isList⟩
      have ul : (ts.map Value.ref).length = ts.length := List.length_map _
      have len6 := S6.len
      refine thnF (next_later (xs := []) (E := fun _ _ => False) I6 hr.hd room S6.gen S6.st S6.nai yf6 S6.len S6.wk S6.fi) fun o s7 en => ?_
      rcases en with ⟨rfl, rz, I7⟩ | ⟨v7, r', gs', rfl, er', ev, I7, gg, gst, yf7, hw7, hk⟩
      · rcases alt with ⟨_, qn⟩ | ⟨t, et, _⟩
        · exact wpAny_execs_nil ⟨σ6, H6, I7, qn⟩
        · have z := (List.getElem?_eq_some_iff.mp et).1
          omega
      · rcases alt with ⟨ez, _⟩ | ⟨t, et, NN, hN, stepR⟩
        · omega
        · rw [List.getElem?_map, et] at ev
          obtain rfl : Value.ref t = v7 := Option.some.inj ev
          refine turnB (n := n) (NN := NN) (Cont := fun s' => ∃ m, m < n ∧ ∃ i σ H, Inv X pins σ H s' ∧ W i m σ H ∧ ∃ gs r, SlT X pins ts l a g0 i H s' it gs r) I7 ⟨gg, gst, S6.nai, S6.nil_, yf7.iter, by omega, hw7, S6.fa, S6.fi⟩ (fun s' σ' H' I' nx sl' => ?_) (fun s' hc => ⟨hc, hc⟩) (fun s' h => h) (fun v s' h => h) stepR
          obtain ⟨m', hm, w'⟩ := hN σ' H' nx
          exact ⟨m', hm, i + 1, σ', H', I', w', gs', r', sl'⟩
    obtain ⟨_, alt⟩ := turn 0 m0 σ H4 w0
    rcases alt with ⟨ez, _⟩ | ⟨t, et, NN, hN, stepR⟩
    · omega
    · rw [List.getElem?_map, et] at hv
      obtain rfl : Value.ref t = v := Option.some.inj hv
      refine turnB (n := 0) (NN := NN) (Cont := fun s' => codeAny (model X.prog X.w) X.A (.forLoop tg (.ref a) body [] X.env) (fun r s' => match r with | .ok f => SP X pins D f s' | .error e => cameBackBy (model X.prog X.w) X.A X.env X.xe e s') s') I4 sl0 (fun s' σ' H' I' nx sl' => ?_) (fun s' hc => ⟨hc, hc⟩) (fun s' h => h) (fun v s' h => h) stepR
      obtain ⟨m', hm, w'⟩ := hN σ' H' nx
      exact later m' 1 σ' H' s' I' w' ⟨_, _, sl'⟩
  · rintro f s4 ⟨l, ts, H4, os4, ba4, gz4, hg4, na4, un4, hok4, hl4, hY, en⟩
    rcases en with ⟨rfl, f', e, hf⟩ | ⟨it, v', ⟨gd', lv', k2, c2, p2, fs', e⟩, _⟩
    · cases e
      refine ⟨hf, fun h' hk => ?_⟩
      obtain ⟨W, ⟨m0, w0⟩, turn⟩ := hY
      obtain ⟨_, alt⟩ := turn 0 m0 σ H4 w0
      rcases alt with ⟨_, qn⟩ | ⟨t, et, _⟩
      · refine wpAny_execs_nil ⟨σ, H4, ?_, qn⟩
        have I4 : Inv X pins σ H4 (s4.setGen g0 .finished) := I1.call' (ch := []) os4 un4 hok4 (allBare_setGen ba4 rfl) fun b z => by simp at z
        exact I4.call' (s' := { s4.setGen g0 .finished with heap := h' }) (ch := []) rfl (Un.kept hk) (I4.hok.kept hk) (allBare_setGen ba4 rfl) fun b z => by simp at z
      · cases et
    · cases e
  · rintro e s4 ⟨l, ts, H4, os4, ba4, gz4, hg4, na4, un4, hok4, hl4, hY, en⟩
    rcases en with ⟨_, f', e, _⟩ | ⟨it, v', ⟨gd', lv', k2, c2, p2, fs', e⟩, _⟩ <;> cases e
end
end Ask

set_option Elab.async false
set_option linter.all false
set_option maxRecDepth 100000
set_option maxHeartbeats 4000000
namespace Ask
open PySem PySem.Spec PyProof.Rows L2 GenW
/-! «yield from» a list in a generator that list() drains; a generator def by its Fun -/
section
variable {X : Cx} {e : Expr} {te : TE}
def tYfList (K : PySem.W.Frag) (te : TE) : TYf := fun σ H Q => te σ H fun x H1 => ∃ (l : Addr) (xs : List V), x = .ref l ∧ H1 l = some (.lst xs) ∧ Q xs H1
theorem yf_list (he : PE X e te) : YfE X e (tYfList X.K te) := by
  refine ⟨fun pins s σ H Q I h => ?_⟩
  refine thn (he.run pins s σ H _ I h) fun v s1 ⟨x, H1, I1, r1, l, xs, ex, hl, hq⟩ => ?_
  subst ex
  obtain rfl : v = Value.ref l := r1
  obtain ⟨hlen, its, c, rits, hL⟩ := I1.hok l _ hl
  have hL : s1.heap.get? l = some (lstObj its.toArray c) := hL
  have isL : ∀ {h : Heap}, h.get? l = some (lstObj its.toArray c) → h.IsList l its.toArray := fun {h} e => ⟨_, e, rfl, c, rfl⟩
  refine ⟨"list", (isL hL).typeIs, by decide, wpAny_pyIter_list (isL hL) ?_⟩
  have ksz : ∀ b o, s1.heap.get? b = some o → b ≠ s1.heap.objs.size := fun b o e => Nat.ne_of_lt (Heap.lt_size e)
  have kp : ∀ b o, s1.heap.get? b = some o → (s1.heap.push { cls := .type "list_iterator", data := .fields #[.ref l, .int 0 0] }).get? b = some o := fun b o e => Heap.get?_push_of_some _ e
  refine ⟨s1.heap.objs.size, H1, xs, fun j h => h.IsListIter s1.heap.objs.size l j ∧ h.get? l = some (lstObj its.toArray c), rfl, I1.kept (t' := s1.toks) kp, .inr I1.sz, Nat.ne_of_gt I1.lt, fun y c hy => ?_, I1.hok.fresh (Nat.le_refl _), fun p hp => ?_,
    ⟨⟨_, Heap.get?_push_size _ rfl, rfl, rfl⟩, kp _ _ hL⟩, ⟨⟨"list_iterator", fun j h q => ?_, close_list, by decide⟩, fun j h h' q hk => ?_, fun A' j x s2 Q' E' hA hx q hQ => ?_, fun A' s2 Q' E' hA q hE => ?_⟩, hq⟩
  · obtain ⟨v, o, ho, _⟩ := I1.cell y c hy
    exact ksz c o ho
  · exact ksz p.1 _ (I1.pin p hp).1
  · obtain ⟨⟨o, ho, hc, _⟩, _⟩ := q
    exact ⟨o, ho, hc⟩
  · obtain ⟨⟨o, ho, r⟩, q2⟩ := q
    exact ⟨⟨o, hk _ o (.inl rfl) ho, r⟩, hk _ _ (.inr (by rw [hl]; exact fun z => by cases z)) q2⟩
  · obtain ⟨q1, q2⟩ := q
    obtain ⟨u, hu, ru⟩ := rits.get hx
    have hne : l ≠ s1.heap.objs.size := Nat.ne_of_lt (Heap.lt_size hL)
    exact special_list_item q1 (isL q2) (x := u) (by simpa using hu) fun h' q1' hs => hQ u h' s2.toks ru ⟨q1', hs.extBut l _ hne q2⟩ fun b o hb eb => hs.extBut b o hb eb
  · obtain ⟨q1, q2⟩ := q
    have hnone : its.toArray[xs.length]? = none := by
      have e := rits.length
      have e2 : its[xs.length]? = none := List.getElem?_eq_none_iff.mpr (by omega)
      simpa using e2
    exact special_list_end hA q1 (isL q2) hnone fun e h' hS hk => hE e h' s2.toks hS fun b o hb eb => hk b o hb eb
end
theorem Fun.gfn {P : Program} {w : World} {K : PySem.W.Frag} {mg : Str → Option Value} {base : Heap} {x qual : Str} {fst : Stmt} {f : Addr} {fd : FuncData} {N ps : List Str} {k : Nat} {sp : SpG} (F : Fun K x qual fst f fd) (S : GScope N ps (defScope fst))
    (len : ∀ vs H Q E, sp vs H Q E → vs.length = ps.length)
    (hbody : ∀ (cdv : Value) (A : Around) (outer : List Env) (s : Shared) (H : Hp) (vs : List V) (Q : List V → Hp → Prop) (E : XK) (pn : List (Addr × Obj)), Room k (A.deeper (envOfC qual (defScope fst) s.heap.objs.size f cdv)) → sp vs H Q E →
      ∃ t, GSs (gcxOf P w K mg base N qual (defScope fst) f cdv A outer s H E pn) (defBody fst) t ∧ t { nx := fun ys _ H' => Q ys H', rt := fun ys v H' => v = .non ∧ Q ys H' } [] (start N vs) H) :
    GFn P w K mg base (k + 1) f fd ps sp := by
  obtain ⟨oc, od, kV, doc, pm, an, cdv, ct, osl, rfl, lk, hcd⟩ := F.ex
  exact gfn_of lk hcd S len fun A outer s H vs Q E pn hr hsp => hbody cdv A outer s H vs Q E pn hr hsp
end Ask

set_option Elab.async false
set_option linter.all false
set_option maxRecDepth 100000
namespace Ask
open PySem L2
/-- two rows, loose -/
def looseR (r q : Rw) : Bool := looseB r.lo r.hi q.lo q.hi
/-- the first loose pair of rows in their order -/
def looseF : List Rw → Option (Rw × Rw)
  | [] => none
  | r :: rs => match rs.find? (looseR r) with
    | some q => some (r, q)
    | none => looseF rs
theorem looseF_hit {rs : List Rw} {i : Nat} {r q : Rw} (h : looseF rs = looseF (rs.drop i)) (er : rs[i]? = some r) (f : (rs.drop (i + 1)).find? (looseR r) = some q) : looseF rs = some (r, q) := by
  obtain ⟨hi, e⟩ := List.getElem?_eq_some_iff.mp er
  rw [h, List.drop_eq_getElem_cons hi, e]
  unfold looseF
  rw [f]
theorem looseF_next {rs : List Rw} {i : Nat} {r : Rw} (h : looseF rs = looseF (rs.drop i)) (er : rs[i]? = some r) (f : (rs.drop (i + 1)).find? (looseR r) = none) : looseF rs = looseF (rs.drop (i + 1)) := by
  obtain ⟨hi, e⟩ := List.getElem?_eq_some_iff.mp er
  rw [h, List.drop_eq_getElem_cons hi, e]
  conv => lhs; unfold looseF
  rw [f]
theorem find_hit {α : Type} {p : α → Bool} {l : List α} {j : Nat} {e : α} (h : (l.take j).find? p = none) (ee : l[j]? = some e) (he : p e = true) : l.find? p = some e := by
  obtain ⟨hj, z⟩ := List.getElem?_eq_some_iff.mp ee
  have q : l = l.take j ++ (l[j] :: l.drop (j + 1)) := by rw [← List.drop_eq_getElem_cons hj, List.take_append_drop]
  rw [q, List.find?_append, h, z, List.find?_cons, he]
  rfl
theorem find_next {α : Type} {p : α → Bool} {l : List α} {j : Nat} {e : α} (h : (l.take j).find? p = none) (ee : l[j]? = some e) (he : p e = false) : (l.take (j + 1)).find? p = none := by
  rw [List.take_add_one, ee, List.find?_append, h]
  simp [he]
theorem looseF_none {rs : List Rw} : looseF rs = none ↔ rs.Pairwise fun r q => looseR r q = false := by
  induction rs with
  | nil => simp [looseF]
  | cons r rs ih =>
    unfold looseF
    rw [List.pairwise_cons]
    cases f : rs.find? (looseR r) with
    | some q =>
      constructor
      · intro h; cases h
      · rintro ⟨h, _⟩
        have z := List.find?_some f
        rw [h q (List.mem_of_find?_eq_some f)] at z
        cases z
    | none =>
      rw [List.find?_eq_none] at f
      constructor
      · intro h
        exact ⟨fun q hq => by simpa using f q hq, ih.mp h⟩
      · rintro ⟨_, h⟩
        exact ih.mpr h
theorem looseF_mem {rs : List Rw} {r q : Rw} (h : looseF rs = some (r, q)) : r ∈ rs ∧ q ∈ rs := by
  induction rs with
  | nil => cases h
  | cons x rs ih =>
    unfold looseF at h
    cases f : rs.find? (looseR x) with
    | some z =>
      rw [f] at h
      obtain ⟨rfl, rfl⟩ := Prod.mk.inj (Option.some.inj h)
      exact ⟨List.mem_cons_self, List.mem_cons_of_mem _ (List.mem_of_find?_eq_some f)⟩
    | none =>
      rw [f] at h
      obtain ⟨h1, h2⟩ := ih h
      exact ⟨List.mem_cons_of_mem _ h1, List.mem_cons_of_mem _ h2⟩
/-- behind r in an ascending order -/
theorem find_after {rs : List Rw} {i : Nat} {r : Rw} (asc : Asc rs) (er : rs[i]? = some r) (p : Rw → Bool) [d : ∀ q : Rw, Decidable (ltS r.nm q.nm)] : rs.find? (fun q => decide (ltS r.nm q.nm) && p q) = (rs.drop (i + 1)).find? p := by
  obtain ⟨hi, e⟩ := List.getElem?_eq_some_iff.mp er
  have z := List.pairwise_iff_getElem.mp asc
  have q : rs = rs.take (i + 1) ++ rs.drop (i + 1) := (List.take_append_drop _ _).symm
  have h1 : (rs.take (i + 1)).find? (fun q => decide (ltS r.nm q.nm) && p q) = none := by
    rw [List.find?_eq_none]
    intro x hx
    obtain ⟨k, hk, ek⟩ := List.mem_iff_getElem.mp hx
    rw [List.length_take] at hk
    rw [List.getElem_take] at ek
    have no : ¬ ltS r.nm x.nm := fun h => by
      by_cases c : k = i
      · subst c
        rw [← e, ek] at h
        exact ltS_irrefl _ h
      · have y : ltS (rs[k]'(by omega)).nm (rs[i]).nm := z k i (by omega) hi (by omega)
        rw [ek, e] at y
        exact ltS_asymm h y
    rw [decide_eq_false no]
    simp
  have h2 : (rs.drop (i + 1)).find? (fun q => decide (ltS r.nm q.nm) && p q) = (rs.drop (i + 1)).find? p := by
    have all : ∀ x ∈ rs.drop (i + 1), ltS r.nm x.nm := fun x hx => by
      obtain ⟨k, hk, ek⟩ := List.mem_iff_getElem.mp hx
      rw [List.length_drop] at hk
      rw [List.getElem_drop] at ek
      have y : ltS (rs[i]).nm (rs[i + 1 + k]'(by omega)).nm := z i (i + 1 + k) hi (by omega) (by omega)
      rw [e, ek] at y
      exact y
    generalize rs.drop (i + 1) = l at all
    clear q h1 z e hi er asc
    induction l with
    | nil => rfl
    | cons x l ih =>
      rw [List.find?_cons, List.find?_cons, decide_eq_true (all x List.mem_cons_self), Bool.true_and, ih fun y hy => all y (List.mem_cons_of_mem _ hy)]
  conv => lhs; rw [q]
  rw [List.find?_append, h1, h2]
  rfl
theorem len_sub {α : Type} [DecidableEq α] : ∀ {xs ys : List α}, xs.Nodup → (∀ x ∈ xs, x ∈ ys) → xs.length ≤ ys.length
  | [], _, _, _ => Nat.zero_le _
  | x :: xs, ys, nd, h => by
    rw [List.nodup_cons] at nd
    have hx := h x List.mem_cons_self
    have z := len_sub (ys := ys.erase x) nd.2 fun z hz => (List.mem_erase_of_ne (fun e => nd.1 (by rw [← e]; exact hz))).mpr (h z (List.mem_cons_of_mem _ hz))
    rw [List.length_erase_of_mem hx] at z
    have p : 0 < ys.length := List.length_pos_of_mem hx
    rw [List.length_cons]
    omega
end Ask

set_option Elab.async false
set_option linter.all false
set_option maxRecDepth 100000
namespace Ask
open PySem L2
/-- the values of some of the names -/
def pick (kn : List (Str × Int)) (xs : List Str) : List (Str × Int) := kn.filter fun p => decide (p.1 ∈ xs)
def pairsOf (kn : List (Str × Int)) (xs : List Str) : List (Str × Int) := xs.map fun n => (n, (kn.lookup n).getD 0)
theorem pairsOf_names (kn : List (Str × Int)) (xs : List Str) : (pairsOf kn xs).map (·.1) = xs := by
  unfold pairsOf
  rw [List.map_map, show ((fun p : Str × Int => p.1) ∘ fun n => (n, (kn.lookup n).getD 0)) = id from rfl, List.map_id]
theorem pick_look {kn : List (Str × Int)} (xs : List Str) (n : Str) : (pick kn xs).lookup n = if n ∈ xs then kn.lookup n else none := by
  unfold pick
  induction kn with
  | nil => simp
  | cons p kn ih =>
    obtain ⟨m, v⟩ := p
    by_cases c : m ∈ xs
    · rw [List.filter_cons, if_pos (by simpa using c), List.lookup_cons, List.lookup_cons, ih]
      by_cases e : n = m
      · subst e
        rw [beq_self_eq_true, if_pos c, if_pos c]
      · rw [beq_false_of_ne e]
    · rw [List.filter_cons, if_neg (by simpa using c), ih, List.lookup_cons]
      by_cases e : n = m
      · subst e
        rw [if_neg c, if_neg c]
      · rw [beq_false_of_ne e]
theorem pairs_look {kn : List (Str × Int)} {xs : List Str} (h : ∀ x ∈ xs, ∃ v, kn.lookup x = some v) (n : Str) : (pairsOf kn xs).lookup n = if n ∈ xs then kn.lookup n else none := by
  unfold pairsOf
  induction xs with
  | nil => rfl
  | cons x xs ih =>
    rw [List.map_cons, List.lookup_cons]
    by_cases e : n = x
    · subst e
      obtain ⟨v, hv⟩ := h n List.mem_cons_self
      rw [beq_self_eq_true, if_pos List.mem_cons_self, hv]
      rfl
    · rw [beq_false_of_ne e]
      show List.lookup n (xs.map _) = _
      rw [ih fun y hy => h y (List.mem_cons_of_mem _ hy)]
      by_cases c : n ∈ xs
      · rw [if_pos c, if_pos (List.mem_cons_of_mem _ c)]
      · rw [if_neg c, if_neg (fun z => (List.mem_cons.mp z).elim e c)]
theorem tell_pick {kn : List (Str × Int)} {xs : List Str} (h : ∀ x ∈ xs, ∃ v, kn.lookup x = some v) : tellR (pairsOf kn xs) = tellR (pick kn xs) := by
  funext r
  unfold tellR
  rw [pairs_look h, pick_look]
theorem look_open {rs : List Rw} {kn : List (Str × Int)} (V4 : Vals4 rs kn) (nk : (kn.map (·.1)).Nodup) {x : Str} (h : x ∈ openN rs) : ∃ v, kn.lookup x = some v ∧ (x, v) ∈ kn := by
  obtain ⟨p, hp, e⟩ := List.mem_map.mp (V4.pm.mem_iff.mpr h)
  refine ⟨p.2, ?_, ?_⟩
  · exact lookup_of_mem nk (by rw [← e]; exact hp)
  · rw [← e]; exact hp
end Ask

set_option Elab.async false
set_option linter.all false
set_option maxRecDepth 100000
set_option maxHeartbeats 4000000
/-! comprehensions over a list of rows -/
namespace Ask
open PySem PySem.Spec L2 PyProof.Rows
theorem paired_refsG {α : Type} {F : Addr → α → Prop} : ∀ {rs : List α} {ys : List V}, Paired (fun r v => ∃ t, v = V.ref t ∧ F t r) rs ys → ∃ as : List Addr, ys = as.map V.ref ∧ Paired F as rs
  | _, _, .nil => ⟨[], rfl, .nil⟩
  | _, _, .cons ⟨t, e, f⟩ r => by
    obtain ⟨as, rfl, p⟩ := paired_refsG r
    subst e
    exact ⟨t :: as, rfl, .cons f p⟩
section
variable {K : PySem.W.Frag} {g : TG} {tt : TT} {te : TE} {vs : List Nat} {σ : L2.St} {H : Hp} {D X : Addr} {Qd : Hp → Prop}
theorem rows_comp {us : List Addr} {rs : List Rw} (f : Rw → Bool) (R : Rw → V → Hp → Prop) (hX : H X = some (.lst (us.map V.ref))) (pX : Paired (RowAt H) us rs) (few : rs.length ≤ 4000) (hD : H D = none)
    (stab : ∀ r v Ha Hb, R r v Ha → (∃ acc, Ha D = some (.lst acc)) → But D Ha Hb → R r v Hb)
    (turn : ∀ t r H' (R0 : Hp → Prop) (R1 : V → Hp → Prop), r ∈ rs → Same H H' → RowAt H' t r → (f r = false → ∀ H'', Same H' H'' → R0 H'') → (f r = true → ∀ v H'', Same H' H'' → R r v H'' → R1 v H'') →
      g (.ref t) (wipe σ vs) H' fun σ2 H2 => wipe σ2 vs = wipe σ vs ∧ tt σ2 H2 fun b H3 => if b = true then te σ2 H3 R1 else R0 H3)
    (h : ∀ ys H', Same H H' → H' D = some (.lst ys) → Paired (fun r y => R r y H') (rs.filter f) ys → Qd H') :
    ∃ W : Nat → Nat → Hp → Prop, (∃ m, W 0 m (upd H D (.lst []))) ∧ ∀ j m H, W j m H → ((Itl K X).stop j H ∧ Qd H) ∨ ((Itl K X).go j H ∧ ∃ Nx : Hp → Prop, (∀ H', Nx H' → ∃ m', m' < m ∧ W (j + 1) m' H') ∧ ∀ x H', (Itl K X).yld j H x H' →
      g x (wipe σ vs) H' fun σ2 H2 => wipe σ2 vs = wipe σ vs ∧ tt σ2 H2 fun b H3 => if b = true then te σ2 H3 fun y H4 => ∃ acc, H4 D = some (.lst acc) ∧ acc.length < sizeLine ∧ Nx (upd H4 D (.lst (acc ++ [y]))) else Nx H3) := by
  have xl := paired_len pX
  refine lc_pure (walk_list (K := K) (a := X) (xs := us.map V.ref)) rs f R (by rw [List.length_map, xl]) hD (fun H' s => SqL.of (s _ _ hX)) (fun i H x H' e => ⟨by rw [e.1]; exact Same.refl _, fun o h => by rw [e.1]; exact h⟩) (by rw [List.length_map, xl, sizeLine_eq]; omega) stab ?_ h
  rintro N j x r H3 H3' ed s3 - ⟨rfl, ex⟩ - s3' fin skip
  rw [List.getElem?_map] at ex
  cases ea : us[j]? with
  | none => rw [ea] at ex; cases ex
  | some t =>
  rw [ea] at ex
  obtain rfl : V.ref t = x := Option.some.inj ex
  obtain ⟨r2, er, ir⟩ := LiI.paired_get pX ea
  rw [ed] at er
  cases er
  exact turn t r _ N _ (List.mem_of_getElem? ed) s3' (s3' _ _ ir) (fun e H'' s => skip e H'' s) fun e v H'' s q => fin e v H'' s q
/-- the rows themselves -/
theorem rows_keep {us : List Addr} {rs : List Rw} (f : Rw → Bool) (hX : H X = some (.lst (us.map V.ref))) (pX : Paired (RowAt H) us rs) (few : rs.length ≤ 4000) (hD : H D = none)
    (turn : ∀ t r H' (R0 : Hp → Prop) (R1 : V → Hp → Prop), r ∈ rs → Same H H' → RowAt H' t r → (f r = false → ∀ H'', Same H' H'' → R0 H'') → (f r = true → ∀ H'', Same H' H'' → R1 (.ref t) H'') →
      g (.ref t) (wipe σ vs) H' fun σ2 H2 => wipe σ2 vs = wipe σ vs ∧ tt σ2 H2 fun b H3 => if b = true then te σ2 H3 R1 else R0 H3)
    (h : ∀ as H', Same H H' → H' D = some (.lst (as.map V.ref)) → Paired (RowAt H') as (rs.filter f) → Qd H') :
    ∃ W : Nat → Nat → Hp → Prop, (∃ m, W 0 m (upd H D (.lst []))) ∧ ∀ j m H, W j m H → ((Itl K X).stop j H ∧ Qd H) ∨ ((Itl K X).go j H ∧ ∃ Nx : Hp → Prop, (∀ H', Nx H' → ∃ m', m' < m ∧ W (j + 1) m' H') ∧ ∀ x H', (Itl K X).yld j H x H' →
      g x (wipe σ vs) H' fun σ2 H2 => wipe σ2 vs = wipe σ vs ∧ tt σ2 H2 fun b H3 => if b = true then te σ2 H3 fun y H4 => ∃ acc, H4 D = some (.lst acc) ∧ acc.length < sizeLine ∧ Nx (upd H4 D (.lst (acc ++ [y]))) else Nx H3) := by
  refine rows_comp f (fun r v H' => ∃ t, v = .ref t ∧ RowAt H' t r) hX pX few hD ?_ (fun t r H' R0 R1 hr s it k0 k1 => turn t r H' R0 R1 hr s it k0 fun e H'' s' => k1 e _ H'' s' ⟨t, rfl, s' _ _ it⟩) fun ys H' s e pz => ?_
  · rintro r v Ha Hb ⟨x, rfl, h⟩ ⟨acc, eD⟩ b'
    exact ⟨x, rfl, b' _ _ (fun c => by rw [c] at h; have h : Ha D = _ := h; rw [eD] at h; cases h) h⟩
  · obtain ⟨as, rfl, pu⟩ := paired_refsG pz
    exact h as H' s e pu
/-- values that need no object -/
theorem rows_vals {us : List Addr} {rs : List Rw} (f : Rw → Bool) (val : Rw → V) (hX : H X = some (.lst (us.map V.ref))) (pX : Paired (RowAt H) us rs) (few : rs.length ≤ 4000) (hD : H D = none)
    (turn : ∀ t r H' (R0 : Hp → Prop) (R1 : V → Hp → Prop), r ∈ rs → Same H H' → RowAt H' t r → (f r = false → ∀ H'', Same H' H'' → R0 H'') → (f r = true → ∀ H'', Same H' H'' → R1 (val r) H'') →
      g (.ref t) (wipe σ vs) H' fun σ2 H2 => wipe σ2 vs = wipe σ vs ∧ tt σ2 H2 fun b H3 => if b = true then te σ2 H3 R1 else R0 H3)
    (h : ∀ H', Same H H' → H' D = some (.lst ((rs.filter f).map val)) → Qd H') :
    ∃ W : Nat → Nat → Hp → Prop, (∃ m, W 0 m (upd H D (.lst []))) ∧ ∀ j m H, W j m H → ((Itl K X).stop j H ∧ Qd H) ∨ ((Itl K X).go j H ∧ ∃ Nx : Hp → Prop, (∀ H', Nx H' → ∃ m', m' < m ∧ W (j + 1) m' H') ∧ ∀ x H', (Itl K X).yld j H x H' →
      g x (wipe σ vs) H' fun σ2 H2 => wipe σ2 vs = wipe σ vs ∧ tt σ2 H2 fun b H3 => if b = true then te σ2 H3 fun y H4 => ∃ acc, H4 D = some (.lst acc) ∧ acc.length < sizeLine ∧ Nx (upd H4 D (.lst (acc ++ [y]))) else Nx H3) := by
  refine rows_comp f (fun r v _ => v = val r) hX pX few hD (fun _ _ _ _ h _ _ => h) (fun t r H' R0 R1 hr s it k0 k1 => turn t r H' R0 R1 hr s it k0 fun e H'' s' => k1 e _ H'' s' rfl) fun ys H' s e pz => ?_
  have ez := paired_vals val (H := H') pz
  subst ez
  exact h H' s e
/-- over a list of ints -/
theorem ints_comp {is : List Int} (val : Int → V) (hX : H X = some (.lst (is.map V.int))) (few : is.length ≤ 4000) (hD : H D = none)
    (turn : ∀ n H' (R1 : V → Hp → Prop), Same H H' → (∀ H'', Same H' H'' → R1 (val n) H'') →
      g (.int n) (wipe σ vs) H' fun σ2 H2 => wipe σ2 vs = wipe σ vs ∧ te σ2 H2 R1)
    (h : ∀ H', Same H H' → H' D = some (.lst (is.map val)) → Qd H') :
    ∃ W : Nat → Nat → Hp → Prop, (∃ m, W 0 m (upd H D (.lst []))) ∧ ∀ j m H, W j m H → ((Itl K X).stop j H ∧ Qd H) ∨ ((Itl K X).go j H ∧ ∃ Nx : Hp → Prop, (∀ H', Nx H' → ∃ m', m' < m ∧ W (j + 1) m' H') ∧ ∀ x H', (Itl K X).yld j H x H' →
      g x (wipe σ vs) H' fun σ2 H2 => wipe σ2 vs = wipe σ vs ∧ tYes σ2 H2 fun b H3 => if b = true then te σ2 H3 fun y H4 => ∃ acc, H4 D = some (.lst acc) ∧ acc.length < sizeLine ∧ Nx (upd H4 D (.lst (acc ++ [y]))) else Nx H3) := by
  refine lc_pure (walk_list (K := K) (a := X) (xs := is.map V.int)) is (fun _ => true) (fun n v _ => v = val n) (by rw [List.length_map]) hD (fun H' s => SqL.of (s _ _ hX)) (fun i H x H' e => ⟨by rw [e.1]; exact Same.refl _, fun o h => by rw [e.1]; exact h⟩) (by rw [List.length_map, sizeLine_eq]; omega) (fun _ _ _ _ h _ _ => h) ?_ fun ys H' s e pz => ?_
  · rintro N j x r H3 H3' ed s3 - ⟨rfl, ex⟩ - s3' fin skip
    rw [List.getElem?_map, ed] at ex
    obtain rfl : V.int r = x := Option.some.inj ex
    have e : (fun (σ2 : L2.St) (H2 : Hp) => wipe σ2 vs = wipe σ vs ∧ tYes σ2 H2 fun b H3 => if b = true then te σ2 H3 fun y H4 => ∃ acc, H4 D = some (.lst acc) ∧ acc.length < sizeLine ∧ N (upd H4 D (.lst (acc ++ [y]))) else N H3) = fun σ2 H2 => wipe σ2 vs = wipe σ vs ∧ te σ2 H2 fun y H4 => ∃ acc, H4 D = some (.lst acc) ∧ acc.length < sizeLine ∧ N (upd H4 D (.lst (acc ++ [y]))) := by
      funext σ2 H2
      dsimp only [tYes]
      rw [if_pos rfl]
    rw [e]
    exact turn r _ _ s3' fun H'' s => fin rfl _ _ s rfl
  · rw [all_keep] at pz
    have ez := paired_vals val (H := H') pz
    subst ez
    exact h H' s e
end
end Ask

set_option Elab.async false
set_option linter.all false
set_option maxRecDepth 100000
set_option maxHeartbeats 4000000
namespace Ask
open PySem L2
open PyProof.Rows
def top (i : Nat) : Stmt := PySem.Challenge.pw_askranges_k34_candidates.main.body.getD i (.Pass ⟨0, 0, 0, 0⟩)
abbrev s_open_names : Stmt := top 11
theorem sc_open_names : FnScope ["pool", "name"] ["pool"] (defScope s_open_names) := ⟨rfl, rfl, rfl, by decide +kernel, rfl, by decide +kernel, by decide +kernel⟩
abbrev s_is_choice : Stmt := top 12
theorem sc_is_choice : FnScope ["thing", "names", "name"] ["thing", "names"] (defScope s_is_choice) := ⟨rfl, rfl, rfl, by decide +kernel, rfl, by decide +kernel, by decide +kernel⟩
abbrev s_truth_of : Stmt := top 13
theorem sc_truth_of : FnScope ["pool", "values", "names"] ["pool", "values"] (defScope s_truth_of) := ⟨rfl, rfl, rfl, by decide +kernel, rfl, by decide +kernel, by decide +kernel⟩
abbrev s_is_settled_below : Stmt := top 15
theorem sc_is_settled_below : FnScope ["item", "other"] ["item", "other"] (defScope s_is_settled_below) := ⟨rfl, rfl, rfl, by decide +kernel, rfl, by decide +kernel, by decide +kernel⟩
abbrev s_sure_least : Stmt := top 17
theorem sc_sure_least : FnScope ["pool", "items", "name", "item", "other"] ["pool"] (defScope s_sure_least) := ⟨rfl, rfl, rfl, by decide +kernel, rfl, by decide +kernel, by decide +kernel⟩
abbrev s_candidates : Stmt := top 18
theorem sc_candidates : GScope ["pool", "values", "truth", "item", "found"] ["pool", "values"] (defScope s_candidates) := ⟨rfl, rfl, rfl, by decide +kernel, rfl, by decide +kernel, by decide +kernel⟩
abbrev s__candidates_of : Stmt := top 19
theorem sc__candidates_of : FnScope ["pool", "truth", "item", "value", "others", "other", "found", "own"] ["pool", "truth", "item"] (defScope s__candidates_of) := ⟨rfl, rfl, rfl, by decide +kernel, rfl, by decide +kernel, by decide +kernel⟩
abbrev s__reaching_down : Stmt := top 20
theorem sc__reaching_down : FnScope ["pool", "item", "value", "other"] ["pool", "item", "value"] (defScope s__reaching_down) := ⟨rfl, rfl, rfl, by decide +kernel, rfl, by decide +kernel, by decide +kernel⟩
abbrev s__candidate : Stmt := top 21
theorem sc__candidate : FnScope ["pool", "item", "asked", "name"] ["pool", "item", "asked"] (defScope s__candidate) := ⟨rfl, rfl, rfl, by decide +kernel, rfl, by decide +kernel, by decide +kernel⟩
abbrev s_is_whole : Stmt := top 24
theorem sc_is_whole : FnScope ["thing"] ["thing"] (defScope s_is_whole) := ⟨rfl, rfl, rfl, by decide +kernel, rfl, by decide +kernel, by decide +kernel⟩
abbrev s_Item___init__ : Stmt := inClass (top 28) 1
theorem sc_Item___init__ : FnScope ["self", "name", "least", "greatest", "price"] ["self", "name", "least", "greatest", "price"] (defScope s_Item___init__) := ⟨rfl, rfl, rfl, by decide +kernel, rfl, by decide +kernel, by decide +kernel⟩
abbrev s_Item_exact : Stmt := inClass (top 28) 2
theorem sc_Item_exact : FnScope ["cls", "name", "value"] ["cls", "name", "value"] (defScope s_Item_exact) := ⟨rfl, rfl, rfl, by decide +kernel, rfl, by decide +kernel, by decide +kernel⟩
abbrev s_Item_is_name : Stmt := inClass (top 28) 3
theorem sc_Item_is_name : FnScope ["thing", "sign"] ["thing"] (defScope s_Item_is_name) := ⟨rfl, rfl, rfl, by decide +kernel, rfl, by decide +kernel, by decide +kernel⟩
abbrev s_Item_name : Stmt := inClass (top 28) 4
theorem sc_Item_name : FnScope ["self"] ["self"] (defScope s_Item_name) := ⟨rfl, rfl, rfl, by decide +kernel, rfl, by decide +kernel, by decide +kernel⟩
abbrev s_Item_least : Stmt := inClass (top 28) 5
theorem sc_Item_least : FnScope ["self"] ["self"] (defScope s_Item_least) := ⟨rfl, rfl, rfl, by decide +kernel, rfl, by decide +kernel, by decide +kernel⟩
abbrev s_Item_greatest : Stmt := inClass (top 28) 6
theorem sc_Item_greatest : FnScope ["self"] ["self"] (defScope s_Item_greatest) := ⟨rfl, rfl, rfl, by decide +kernel, rfl, by decide +kernel, by decide +kernel⟩
abbrev s_Item_price : Stmt := inClass (top 28) 7
theorem sc_Item_price : FnScope ["self"] ["self"] (defScope s_Item_price) := ⟨rfl, rfl, rfl, by decide +kernel, rfl, by decide +kernel, by decide +kernel⟩
abbrev s_Item_is_exact : Stmt := inClass (top 28) 8
theorem sc_Item_is_exact : FnScope ["self"] ["self"] (defScope s_Item_is_exact) := ⟨rfl, rfl, rfl, by decide +kernel, rfl, by decide +kernel, by decide +kernel⟩
abbrev s_Item_value : Stmt := inClass (top 28) 9
theorem sc_Item_value : FnScope ["self"] ["self"] (defScope s_Item_value) := ⟨rfl, rfl, rfl, by decide +kernel, rfl, by decide +kernel, by decide +kernel⟩
abbrev s_Item_told : Stmt := inClass (top 28) 10
theorem sc_Item_told : FnScope ["self", "value"] ["self", "value"] (defScope s_Item_told) := ⟨rfl, rfl, rfl, by decide +kernel, rfl, by decide +kernel, by decide +kernel⟩
abbrev s_Item_is_surely_before : Stmt := inClass (top 28) 11
theorem sc_Item_is_surely_before : FnScope ["self", "other"] ["self", "other"] (defScope s_Item_is_surely_before) := ⟨rfl, rfl, rfl, by decide +kernel, rfl, by decide +kernel, by decide +kernel⟩
abbrev s_Item___eq__ : Stmt := inClass (top 28) 13
theorem sc_Item___eq__ : FnScope ["self", "other"] ["self", "other"] (defScope s_Item___eq__) := ⟨rfl, rfl, rfl, by decide +kernel, rfl, by decide +kernel, by decide +kernel⟩
abbrev s_Pool___init__ : Stmt := inClass (top 30) 0
theorem sc_Pool___init__ : FnScope ["self", "items", "found", "item", "name"] ["self", "items"] (defScope s_Pool___init__) := ⟨rfl, rfl, rfl, by decide +kernel, rfl, by decide +kernel, by decide +kernel⟩
abbrev s_Pool_read : Stmt := inClass (top 30) 1
theorem sc_Pool_read : FnScope ["cls", "text", "lines", "items", "at", "line", "item"] ["cls", "text"] (defScope s_Pool_read) := ⟨rfl, rfl, rfl, by decide +kernel, rfl, by decide +kernel, by decide +kernel⟩
abbrev s_Pool_names : Stmt := inClass (top 30) 2
theorem sc_Pool_names : FnScope ["self"] ["self"] (defScope s_Pool_names) := ⟨rfl, rfl, rfl, by decide +kernel, rfl, by decide +kernel, by decide +kernel⟩
abbrev s_Pool_item : Stmt := inClass (top 30) 4
theorem sc_Pool_item : FnScope ["self", "name"] ["self", "name"] (defScope s_Pool_item) := ⟨rfl, rfl, rfl, by decide +kernel, rfl, by decide +kernel, by decide +kernel⟩
abbrev s_Pool_walk : Stmt := inClass (top 30) 5
theorem sc_Pool_walk : GScope ["self"] ["self"] (defScope s_Pool_walk) := ⟨rfl, rfl, rfl, by decide +kernel, rfl, by decide +kernel, by decide +kernel⟩
abbrev s_Pool_with_items : Stmt := inClass (top 30) 7
theorem sc_Pool_with_items : FnScope ["self", "items", "found", "item", "changed"] ["self", "items"] (defScope s_Pool_with_items) := ⟨rfl, rfl, rfl, by decide +kernel, rfl, by decide +kernel, by decide +kernel⟩
abbrev s_Pool_told : Stmt := inClass (top 30) 9
theorem sc_Pool_told : FnScope ["self", "values", "name", "answered"] ["self", "values"] (defScope s_Pool_told) := ⟨rfl, rfl, rfl, by decide +kernel, rfl, by decide +kernel, by decide +kernel⟩
abbrev s_Pool___eq__ : Stmt := inClass (top 30) 12
theorem sc_Pool___eq__ : FnScope ["self", "other"] ["self", "other"] (defScope s_Pool___eq__) := ⟨rfl, rfl, rfl, by decide +kernel, rfl, by decide +kernel, by decide +kernel⟩
abbrev s__check_items : Stmt := top 31
theorem sc__check_items : FnScope ["things", "thing"] ["things"] (defScope s__check_items) := ⟨rfl, rfl, rfl, by decide +kernel, rfl, by decide +kernel, by decide +kernel⟩
abbrev s__law_pen : Stmt := top 35
theorem sc__law_pen : FnScope ["script"] ["script"] (defScope s__law_pen) := ⟨rfl, rfl, rfl, by decide +kernel, rfl, by decide +kernel, by decide +kernel⟩
abbrev s__law_next : Stmt := top 36
theorem sc__law_next : FnScope ["pen", "index", "cell", "low", "mid", "top"] ["pen"] (defScope s__law_next) := ⟨rfl, rfl, rfl, by decide +kernel, rfl, by decide +kernel, by decide +kernel⟩
abbrev s__law_draw : Stmt := top 37
theorem sc__law_draw : FnScope ["pen", "below", "digit"] ["pen", "below"] (defScope s__law_draw) := ⟨rfl, rfl, rfl, by decide +kernel, rfl, by decide +kernel, by decide +kernel⟩
abbrev s__law_rows : Stmt := top 38
theorem sc__law_rows : FnScope ["pen", "most", "width", "pool", "nyms", "turn", "shift", "high", "found", "nym", "spot", "size"] ["pen", "most", "width"] (defScope s__law_rows) := ⟨rfl, rfl, rfl, by decide +kernel, rfl, by decide +kernel, by decide +kernel⟩
abbrev s__law_truth : Stmt := top 39
theorem sc__law_truth : FnScope ["pen", "rows", "found", "nym", "low", "top", "cost", "ends", "other", "some", "end", "good", "spot", "turned"] ["pen", "rows"] (defScope s__law_truth) := ⟨rfl, rfl, rfl, by decide +kernel, rfl, by decide +kernel, by decide +kernel⟩
abbrev s__law_told : Stmt := top 40
theorem sc__law_told : FnScope ["rows", "known", "found", "row"] ["rows", "known"] (defScope s__law_told) := ⟨rfl, rfl, rfl, by decide +kernel, rfl, by decide +kernel, by decide +kernel⟩
abbrev s__law_made : Stmt := top 41
theorem sc__law_made : FnScope ["rows", "found", "row"] ["rows"] (defScope s__law_made) := ⟨rfl, rfl, rfl, by decide +kernel, rfl, by decide +kernel, by decide +kernel⟩
abbrev s__law_candidates : Stmt := top 42
theorem sc__law_candidates : FnScope ["rows", "known", "found", "row", "others", "other", "real", "mine", "free", "worth", "some"] ["rows", "known"] (defScope s__law_candidates) := ⟨rfl, rfl, rfl, by decide +kernel, rfl, by decide +kernel, by decide +kernel⟩
abbrev s__law_right : Stmt := top 43
theorem sc__law_right : FnScope ["rows", "made", "known", "seen", "due", "found", "cost", "one", "some", "after", "other", "row", "first"] ["rows", "made", "known"] (defScope s__law_right) := ⟨rfl, rfl, rfl, by decide +kernel, rfl, by decide +kernel, by decide +kernel⟩
abbrev s_law : Stmt := top 44
theorem sc_law : FnScope ["script", "pen", "turn", "rows", "made", "known", "other", "some", "candidate"] ["script"] (defScope s_law) := ⟨rfl, rfl, rfl, by decide +kernel, rfl, by decide +kernel, by decide +kernel⟩
structure Ad where
  f_open_names : Addr
  d_open_names : FuncData
  f_is_choice : Addr
  d_is_choice : FuncData
  f_truth_of : Addr
  d_truth_of : FuncData
  f_is_settled_below : Addr
  d_is_settled_below : FuncData
  f_sure_least : Addr
  d_sure_least : FuncData
  f_candidates : Addr
  d_candidates : FuncData
  f__candidates_of : Addr
  d__candidates_of : FuncData
  f__reaching_down : Addr
  d__reaching_down : FuncData
  f__candidate : Addr
  d__candidate : FuncData
  f_is_whole : Addr
  d_is_whole : FuncData
  c_Item : Addr
  f_Item___init__ : Addr
  d_Item___init__ : FuncData
  f_Item_exact : Addr
  d_Item_exact : FuncData
  p_Item_exact : Addr
  f_Item_is_name : Addr
  d_Item_is_name : FuncData
  p_Item_is_name : Addr
  f_Item_name : Addr
  d_Item_name : FuncData
  p_Item_name : Addr
  f_Item_least : Addr
  d_Item_least : FuncData
  p_Item_least : Addr
  f_Item_greatest : Addr
  d_Item_greatest : FuncData
  p_Item_greatest : Addr
  f_Item_price : Addr
  d_Item_price : FuncData
  p_Item_price : Addr
  f_Item_is_exact : Addr
  d_Item_is_exact : FuncData
  p_Item_is_exact : Addr
  f_Item_value : Addr
  d_Item_value : FuncData
  p_Item_value : Addr
  f_Item_told : Addr
  d_Item_told : FuncData
  f_Item_is_surely_before : Addr
  d_Item_is_surely_before : FuncData
  f_Item___eq__ : Addr
  d_Item___eq__ : FuncData
  c_Pool : Addr
  f_Pool___init__ : Addr
  d_Pool___init__ : FuncData
  f_Pool_read : Addr
  d_Pool_read : FuncData
  p_Pool_read : Addr
  f_Pool_names : Addr
  d_Pool_names : FuncData
  p_Pool_names : Addr
  f_Pool_item : Addr
  d_Pool_item : FuncData
  f_Pool_walk : Addr
  d_Pool_walk : FuncData
  cd_Pool_walk : Addr
  t_Pool_walk : Addr
  f_Pool_with_items : Addr
  d_Pool_with_items : FuncData
  f_Pool_told : Addr
  d_Pool_told : FuncData
  f_Pool___eq__ : Addr
  d_Pool___eq__ : FuncData
  f__check_items : Addr
  d__check_items : FuncData
  f__law_pen : Addr
  d__law_pen : FuncData
  f__law_next : Addr
  d__law_next : FuncData
  f__law_draw : Addr
  d__law_draw : FuncData
  f__law_rows : Addr
  d__law_rows : FuncData
  f__law_truth : Addr
  d__law_truth : FuncData
  f__law_told : Addr
  d__law_told : FuncData
  f__law_made : Addr
  d__law_made : FuncData
  f__law_candidates : Addr
  d__law_candidates : FuncData
  f__law_right : Addr
  d__law_right : FuncData
  f_law : Addr
  d_law : FuncData
structure Txt (K : PySem.W.Frag) (mg : Str → Option Value) (a : Ad) : Prop where
  F_open_names : Fun K "open_names" "open_names" s_open_names a.f_open_names a.d_open_names
  g_open_names : mg "open_names" = some (.ref a.f_open_names)
  F_is_choice : Fun K "is_choice" "is_choice" s_is_choice a.f_is_choice a.d_is_choice
  g_is_choice : mg "is_choice" = some (.ref a.f_is_choice)
  F_truth_of : Fun K "truth_of" "truth_of" s_truth_of a.f_truth_of a.d_truth_of
  g_truth_of : mg "truth_of" = some (.ref a.f_truth_of)
  F_is_settled_below : Fun K "is_settled_below" "is_settled_below" s_is_settled_below a.f_is_settled_below a.d_is_settled_below
  g_is_settled_below : mg "is_settled_below" = some (.ref a.f_is_settled_below)
  F_sure_least : Fun K "sure_least" "sure_least" s_sure_least a.f_sure_least a.d_sure_least
  g_sure_least : mg "sure_least" = some (.ref a.f_sure_least)
  F_candidates : Fun K "candidates" "candidates" s_candidates a.f_candidates a.d_candidates
  g_candidates : mg "candidates" = some (.ref a.f_candidates)
  F__candidates_of : Fun K "_candidates_of" "_candidates_of" s__candidates_of a.f__candidates_of a.d__candidates_of
  g__candidates_of : mg "_candidates_of" = some (.ref a.f__candidates_of)
  F__reaching_down : Fun K "_reaching_down" "_reaching_down" s__reaching_down a.f__reaching_down a.d__reaching_down
  g__reaching_down : mg "_reaching_down" = some (.ref a.f__reaching_down)
  F__candidate : Fun K "_candidate" "_candidate" s__candidate a.f__candidate a.d__candidate
  g__candidate : mg "_candidate" = some (.ref a.f__candidate)
  F_is_whole : Fun K "is_whole" "is_whole" s_is_whole a.f_is_whole a.d_is_whole
  g_is_whole : mg "is_whole" = some (.ref a.f_is_whole)
  g_Item : mg "Item" = some (.ref a.c_Item)
  cl_Item : Cls K a.c_Item
  rd_Item : ClX.CRead K a.c_Item (.type "type")
  co_Item_MOST : ∃ u, Con K a.c_Item "MOST" (.int 999) u
  cv_Item_MOST : ∃ u, ClX.CVal K a.c_Item (.type "type") "MOST" (.int 999) u
  mk_Item : Mk K a.c_Item a.f_Item___init__
  F_Item___init__ : FunD K "__init__" "Item.__init__" (defArgs s_Item___init__) (defBody s_Item___init__) (defScope s_Item___init__) [] [("price", V.int 1)] a.f_Item___init__ a.d_Item___init__
  F_Item_exact : Fun K "exact" "Item.exact" s_Item_exact a.f_Item_exact a.d_Item_exact
  m_Item_exact : ClX.CMet K a.c_Item (.type "type") "exact" a.p_Item_exact a.f_Item_exact
  i_Item_exact : ClX.CInst K a.c_Item "exact" a.p_Item_exact a.f_Item_exact
  F_Item_is_name : Fun K "is_name" "Item.is_name" s_Item_is_name a.f_Item_is_name a.d_Item_is_name
  m_Item_is_name : SMet K a.c_Item (.type "type") "is_name" a.p_Item_is_name a.f_Item_is_name
  F_Item_name : Fun K "name" "Item.name" s_Item_name a.f_Item_name a.d_Item_name
  m_Item_name : PropOf K a.c_Item "name" a.p_Item_name a.f_Item_name
  F_Item_least : Fun K "least" "Item.least" s_Item_least a.f_Item_least a.d_Item_least
  m_Item_least : PropOf K a.c_Item "least" a.p_Item_least a.f_Item_least
  F_Item_greatest : Fun K "greatest" "Item.greatest" s_Item_greatest a.f_Item_greatest a.d_Item_greatest
  m_Item_greatest : PropOf K a.c_Item "greatest" a.p_Item_greatest a.f_Item_greatest
  F_Item_price : Fun K "price" "Item.price" s_Item_price a.f_Item_price a.d_Item_price
  m_Item_price : PropOf K a.c_Item "price" a.p_Item_price a.f_Item_price
  F_Item_is_exact : Fun K "is_exact" "Item.is_exact" s_Item_is_exact a.f_Item_is_exact a.d_Item_is_exact
  m_Item_is_exact : PropOf K a.c_Item "is_exact" a.p_Item_is_exact a.f_Item_is_exact
  F_Item_value : Fun K "value" "Item.value" s_Item_value a.f_Item_value a.d_Item_value
  m_Item_value : PropOf K a.c_Item "value" a.p_Item_value a.f_Item_value
  F_Item_told : Fun K "told" "Item.told" s_Item_told a.f_Item_told a.d_Item_told
  m_Item_told : Meth K a.c_Item "told" a.f_Item_told
  F_Item_is_surely_before : Fun K "is_surely_before" "Item.is_surely_before" s_Item_is_surely_before a.f_Item_is_surely_before a.d_Item_is_surely_before
  m_Item_is_surely_before : Meth K a.c_Item "is_surely_before" a.f_Item_is_surely_before
  F_Item___eq__ : Fun K "__eq__" "Item.__eq__" s_Item___eq__ a.f_Item___eq__ a.d_Item___eq__
  m_Item___eq__ : Meth K a.c_Item "__eq__" a.f_Item___eq__
  eq_Item : EqCls K a.c_Item a.f_Item___eq__
  n_Item__name : NoAttr K a.c_Item "_name"
  n_Item__least : NoAttr K a.c_Item "_least"
  n_Item__greatest : NoAttr K a.c_Item "_greatest"
  n_Item__price : NoAttr K a.c_Item "_price"
  ty_Item : InsTy K a.c_Item
  kd_Item : ∀ t ∈ kinds, PySem.W.notFirst K a.c_Item (.type t) = true
  g_Pool : mg "Pool" = some (.ref a.c_Pool)
  cl_Pool : Cls K a.c_Pool
  rd_Pool : ClX.CRead K a.c_Pool (.type "type")
  mk_Pool : Mk K a.c_Pool a.f_Pool___init__
  F_Pool___init__ : Fun K "__init__" "Pool.__init__" s_Pool___init__ a.f_Pool___init__ a.d_Pool___init__
  F_Pool_read : Fun K "read" "Pool.read" s_Pool_read a.f_Pool_read a.d_Pool_read
  m_Pool_read : ClX.CMet K a.c_Pool (.type "type") "read" a.p_Pool_read a.f_Pool_read
  i_Pool_read : ClX.CInst K a.c_Pool "read" a.p_Pool_read a.f_Pool_read
  F_Pool_names : Fun K "names" "Pool.names" s_Pool_names a.f_Pool_names a.d_Pool_names
  m_Pool_names : PropOf K a.c_Pool "names" a.p_Pool_names a.f_Pool_names
  F_Pool_item : Fun K "item" "Pool.item" s_Pool_item a.f_Pool_item a.d_Pool_item
  m_Pool_item : Meth K a.c_Pool "item" a.f_Pool_item
  F_Pool_walk : Fun K "walk" "Pool.walk" s_Pool_walk a.f_Pool_walk a.d_Pool_walk
  tab_Pool_walk : a.d_Pool_walk.code = .ref a.cd_Pool_walk ∧ PySem.W.codeHdIn K a.cd_Pool_walk a.t_Pool_walk = true ∧ K.lookup a.t_Pool_walk = none
  m_Pool_walk : Meth K a.c_Pool "walk" a.f_Pool_walk
  F_Pool_with_items : Fun K "with_items" "Pool.with_items" s_Pool_with_items a.f_Pool_with_items a.d_Pool_with_items
  m_Pool_with_items : Meth K a.c_Pool "with_items" a.f_Pool_with_items
  bm_Pool_with_items : BMeth K a.c_Pool "with_items" a.f_Pool_with_items
  F_Pool_told : Fun K "told" "Pool.told" s_Pool_told a.f_Pool_told a.d_Pool_told
  m_Pool_told : Meth K a.c_Pool "told" a.f_Pool_told
  F_Pool___eq__ : Fun K "__eq__" "Pool.__eq__" s_Pool___eq__ a.f_Pool___eq__ a.d_Pool___eq__
  m_Pool___eq__ : Meth K a.c_Pool "__eq__" a.f_Pool___eq__
  eq_Pool : EqCls K a.c_Pool a.f_Pool___eq__
  n_Pool__by_name : NoAttr K a.c_Pool "_by_name"
  ty_Pool : InsTy K a.c_Pool
  kd_Pool : ∀ t ∈ kinds, PySem.W.notFirst K a.c_Pool (.type t) = true
  F__check_items : Fun K "_check_items" "_check_items" s__check_items a.f__check_items a.d__check_items
  g__check_items : mg "_check_items" = some (.ref a.f__check_items)
  F__law_pen : Fun K "_law_pen" "_law_pen" s__law_pen a.f__law_pen a.d__law_pen
  g__law_pen : mg "_law_pen" = some (.ref a.f__law_pen)
  F__law_next : Fun K "_law_next" "_law_next" s__law_next a.f__law_next a.d__law_next
  g__law_next : mg "_law_next" = some (.ref a.f__law_next)
  F__law_draw : Fun K "_law_draw" "_law_draw" s__law_draw a.f__law_draw a.d__law_draw
  g__law_draw : mg "_law_draw" = some (.ref a.f__law_draw)
  F__law_rows : Fun K "_law_rows" "_law_rows" s__law_rows a.f__law_rows a.d__law_rows
  g__law_rows : mg "_law_rows" = some (.ref a.f__law_rows)
  F__law_truth : Fun K "_law_truth" "_law_truth" s__law_truth a.f__law_truth a.d__law_truth
  g__law_truth : mg "_law_truth" = some (.ref a.f__law_truth)
  F__law_told : Fun K "_law_told" "_law_told" s__law_told a.f__law_told a.d__law_told
  g__law_told : mg "_law_told" = some (.ref a.f__law_told)
  F__law_made : Fun K "_law_made" "_law_made" s__law_made a.f__law_made a.d__law_made
  g__law_made : mg "_law_made" = some (.ref a.f__law_made)
  F__law_candidates : Fun K "_law_candidates" "_law_candidates" s__law_candidates a.f__law_candidates a.d__law_candidates
  g__law_candidates : mg "_law_candidates" = some (.ref a.f__law_candidates)
  F__law_right : Fun K "_law_right" "_law_right" s__law_right a.f__law_right a.d__law_right
  g__law_right : mg "_law_right" = some (.ref a.f__law_right)
  F_law : Fun K "law" "law" s_law a.f_law a.d_law
  g_law : mg "law" = some (.ref a.f_law)
  g_LONGEST_NAME : ∃ u, mg "LONGEST_NAME" = some u ∧ RelV (.int 8) u
  b_len : mg "len" = none
  b_list : mg "list" = none
  b_isinstance : mg "isinstance" = none
  b_str : mg "str" = none
  b_int : mg "int" = none
  b_bool : mg "bool" = none
  b_range : mg "range" = none
  b_repr : mg "repr" = none
  b_all : mg "all" = none
  b_any : mg "any" = none
  b_dict : mg "dict" = none
  b_tuple : mg "tuple" = none
  b_sorted : mg "sorted" = none
  b_set : mg "set" = none
  b_max : mg "max" = none
  b_enumerate : mg "enumerate" = none
  b_min : mg "min" = none
  b_sum : mg "sum" = none
theorem Txt.b_open_names {K : PySem.W.Frag} {mg : Str → Option Value} {a : Ad} (T : Txt K mg a) : Binds K a.d_open_names ["pool"] [] := T.F_open_names.binds fun _ _ _ _ _ _ us hl => match us, hl with | [_], _ => rfl
theorem Txt.b_is_choice {K : PySem.W.Frag} {mg : Str → Option Value} {a : Ad} (T : Txt K mg a) : Binds K a.d_is_choice ["thing", "names"] [] := T.F_is_choice.binds fun _ _ _ _ _ _ us hl => match us, hl with | [_, _], _ => rfl
theorem Txt.b_truth_of {K : PySem.W.Frag} {mg : Str → Option Value} {a : Ad} (T : Txt K mg a) : Binds K a.d_truth_of ["pool", "values"] [] := T.F_truth_of.binds fun _ _ _ _ _ _ us hl => match us, hl with | [_, _], _ => rfl
theorem Txt.b_is_settled_below {K : PySem.W.Frag} {mg : Str → Option Value} {a : Ad} (T : Txt K mg a) : Binds K a.d_is_settled_below ["item", "other"] [] := T.F_is_settled_below.binds fun _ _ _ _ _ _ us hl => match us, hl with | [_, _], _ => rfl
theorem Txt.b_sure_least {K : PySem.W.Frag} {mg : Str → Option Value} {a : Ad} (T : Txt K mg a) : Binds K a.d_sure_least ["pool"] [] := T.F_sure_least.binds fun _ _ _ _ _ _ us hl => match us, hl with | [_], _ => rfl
theorem Txt.b_candidates {K : PySem.W.Frag} {mg : Str → Option Value} {a : Ad} (T : Txt K mg a) : Binds K a.d_candidates ["pool", "values"] [] := T.F_candidates.binds fun _ _ _ _ _ _ us hl => match us, hl with | [_, _], _ => rfl
theorem Txt.b__candidates_of {K : PySem.W.Frag} {mg : Str → Option Value} {a : Ad} (T : Txt K mg a) : Binds K a.d__candidates_of ["pool", "truth", "item"] [] := T.F__candidates_of.binds fun _ _ _ _ _ _ us hl => match us, hl with | [_, _, _], _ => rfl
theorem Txt.b__reaching_down {K : PySem.W.Frag} {mg : Str → Option Value} {a : Ad} (T : Txt K mg a) : Binds K a.d__reaching_down ["pool", "item", "value"] [] := T.F__reaching_down.binds fun _ _ _ _ _ _ us hl => match us, hl with | [_, _, _], _ => rfl
theorem Txt.b__candidate {K : PySem.W.Frag} {mg : Str → Option Value} {a : Ad} (T : Txt K mg a) : Binds K a.d__candidate ["pool", "item", "asked"] [] := T.F__candidate.binds fun _ _ _ _ _ _ us hl => match us, hl with | [_, _, _], _ => rfl
theorem Txt.b_is_whole {K : PySem.W.Frag} {mg : Str → Option Value} {a : Ad} (T : Txt K mg a) : Binds K a.d_is_whole ["thing"] [] := T.F_is_whole.binds fun _ _ _ _ _ _ us hl => match us, hl with | [_], _ => rfl
theorem Txt.b_Item_exact {K : PySem.W.Frag} {mg : Str → Option Value} {a : Ad} (T : Txt K mg a) : Binds K a.d_Item_exact ["cls", "name", "value"] [] := T.F_Item_exact.binds fun _ _ _ _ _ _ us hl => match us, hl with | [_, _, _], _ => rfl
theorem Txt.b_Item_is_name {K : PySem.W.Frag} {mg : Str → Option Value} {a : Ad} (T : Txt K mg a) : Binds K a.d_Item_is_name ["thing"] [] := T.F_Item_is_name.binds fun _ _ _ _ _ _ us hl => match us, hl with | [_], _ => rfl
theorem Txt.b_Item_name {K : PySem.W.Frag} {mg : Str → Option Value} {a : Ad} (T : Txt K mg a) : Binds K a.d_Item_name ["self"] [] := T.F_Item_name.binds fun _ _ _ _ _ _ us hl => match us, hl with | [_], _ => rfl
theorem Txt.b_Item_least {K : PySem.W.Frag} {mg : Str → Option Value} {a : Ad} (T : Txt K mg a) : Binds K a.d_Item_least ["self"] [] := T.F_Item_least.binds fun _ _ _ _ _ _ us hl => match us, hl with | [_], _ => rfl
theorem Txt.b_Item_greatest {K : PySem.W.Frag} {mg : Str → Option Value} {a : Ad} (T : Txt K mg a) : Binds K a.d_Item_greatest ["self"] [] := T.F_Item_greatest.binds fun _ _ _ _ _ _ us hl => match us, hl with | [_], _ => rfl
theorem Txt.b_Item_price {K : PySem.W.Frag} {mg : Str → Option Value} {a : Ad} (T : Txt K mg a) : Binds K a.d_Item_price ["self"] [] := T.F_Item_price.binds fun _ _ _ _ _ _ us hl => match us, hl with | [_], _ => rfl
theorem Txt.b_Item_is_exact {K : PySem.W.Frag} {mg : Str → Option Value} {a : Ad} (T : Txt K mg a) : Binds K a.d_Item_is_exact ["self"] [] := T.F_Item_is_exact.binds fun _ _ _ _ _ _ us hl => match us, hl with | [_], _ => rfl
theorem Txt.b_Item_value {K : PySem.W.Frag} {mg : Str → Option Value} {a : Ad} (T : Txt K mg a) : Binds K a.d_Item_value ["self"] [] := T.F_Item_value.binds fun _ _ _ _ _ _ us hl => match us, hl with | [_], _ => rfl
theorem Txt.b_Item_told {K : PySem.W.Frag} {mg : Str → Option Value} {a : Ad} (T : Txt K mg a) : Binds K a.d_Item_told ["self", "value"] [] := T.F_Item_told.binds fun _ _ _ _ _ _ us hl => match us, hl with | [_, _], _ => rfl
theorem Txt.b_Item_is_surely_before {K : PySem.W.Frag} {mg : Str → Option Value} {a : Ad} (T : Txt K mg a) : Binds K a.d_Item_is_surely_before ["self", "other"] [] := T.F_Item_is_surely_before.binds fun _ _ _ _ _ _ us hl => match us, hl with | [_, _], _ => rfl
theorem Txt.b_Item___eq__ {K : PySem.W.Frag} {mg : Str → Option Value} {a : Ad} (T : Txt K mg a) : Binds K a.d_Item___eq__ ["self", "other"] [] := T.F_Item___eq__.binds fun _ _ _ _ _ _ us hl => match us, hl with | [_, _], _ => rfl
theorem Txt.b_Pool_read {K : PySem.W.Frag} {mg : Str → Option Value} {a : Ad} (T : Txt K mg a) : Binds K a.d_Pool_read ["cls", "text"] [] := T.F_Pool_read.binds fun _ _ _ _ _ _ us hl => match us, hl with | [_, _], _ => rfl
theorem Txt.b_Pool_names {K : PySem.W.Frag} {mg : Str → Option Value} {a : Ad} (T : Txt K mg a) : Binds K a.d_Pool_names ["self"] [] := T.F_Pool_names.binds fun _ _ _ _ _ _ us hl => match us, hl with | [_], _ => rfl
theorem Txt.b_Pool_item {K : PySem.W.Frag} {mg : Str → Option Value} {a : Ad} (T : Txt K mg a) : Binds K a.d_Pool_item ["self", "name"] [] := T.F_Pool_item.binds fun _ _ _ _ _ _ us hl => match us, hl with | [_, _], _ => rfl
theorem Txt.b_Pool_walk {K : PySem.W.Frag} {mg : Str → Option Value} {a : Ad} (T : Txt K mg a) : Binds K a.d_Pool_walk ["self"] [] := T.F_Pool_walk.binds fun _ _ _ _ _ _ us hl => match us, hl with | [_], _ => rfl
theorem Txt.b_Pool_told {K : PySem.W.Frag} {mg : Str → Option Value} {a : Ad} (T : Txt K mg a) : Binds K a.d_Pool_told ["self", "values"] [] := T.F_Pool_told.binds fun _ _ _ _ _ _ us hl => match us, hl with | [_, _], _ => rfl
theorem Txt.b_Pool___eq__ {K : PySem.W.Frag} {mg : Str → Option Value} {a : Ad} (T : Txt K mg a) : Binds K a.d_Pool___eq__ ["self", "other"] [] := T.F_Pool___eq__.binds fun _ _ _ _ _ _ us hl => match us, hl with | [_, _], _ => rfl
theorem Txt.b__check_items {K : PySem.W.Frag} {mg : Str → Option Value} {a : Ad} (T : Txt K mg a) : Binds K a.d__check_items ["things"] [] := T.F__check_items.binds fun _ _ _ _ _ _ us hl => match us, hl with | [_], _ => rfl
theorem Txt.b__law_pen {K : PySem.W.Frag} {mg : Str → Option Value} {a : Ad} (T : Txt K mg a) : Binds K a.d__law_pen ["script"] [] := T.F__law_pen.binds fun _ _ _ _ _ _ us hl => match us, hl with | [_], _ => rfl
theorem Txt.b__law_next {K : PySem.W.Frag} {mg : Str → Option Value} {a : Ad} (T : Txt K mg a) : Binds K a.d__law_next ["pen"] [] := T.F__law_next.binds fun _ _ _ _ _ _ us hl => match us, hl with | [_], _ => rfl
theorem Txt.b__law_draw {K : PySem.W.Frag} {mg : Str → Option Value} {a : Ad} (T : Txt K mg a) : Binds K a.d__law_draw ["pen", "below"] [] := T.F__law_draw.binds fun _ _ _ _ _ _ us hl => match us, hl with | [_, _], _ => rfl
theorem Txt.b__law_rows {K : PySem.W.Frag} {mg : Str → Option Value} {a : Ad} (T : Txt K mg a) : Binds K a.d__law_rows ["pen", "most", "width"] [] := T.F__law_rows.binds fun _ _ _ _ _ _ us hl => match us, hl with | [_, _, _], _ => rfl
theorem Txt.b__law_truth {K : PySem.W.Frag} {mg : Str → Option Value} {a : Ad} (T : Txt K mg a) : Binds K a.d__law_truth ["pen", "rows"] [] := T.F__law_truth.binds fun _ _ _ _ _ _ us hl => match us, hl with | [_, _], _ => rfl
theorem Txt.b__law_told {K : PySem.W.Frag} {mg : Str → Option Value} {a : Ad} (T : Txt K mg a) : Binds K a.d__law_told ["rows", "known"] [] := T.F__law_told.binds fun _ _ _ _ _ _ us hl => match us, hl with | [_, _], _ => rfl
theorem Txt.b__law_made {K : PySem.W.Frag} {mg : Str → Option Value} {a : Ad} (T : Txt K mg a) : Binds K a.d__law_made ["rows"] [] := T.F__law_made.binds fun _ _ _ _ _ _ us hl => match us, hl with | [_], _ => rfl
theorem Txt.b__law_candidates {K : PySem.W.Frag} {mg : Str → Option Value} {a : Ad} (T : Txt K mg a) : Binds K a.d__law_candidates ["rows", "known"] [] := T.F__law_candidates.binds fun _ _ _ _ _ _ us hl => match us, hl with | [_, _], _ => rfl
theorem Txt.b__law_right {K : PySem.W.Frag} {mg : Str → Option Value} {a : Ad} (T : Txt K mg a) : Binds K a.d__law_right ["rows", "made", "known"] [] := T.F__law_right.binds fun _ _ _ _ _ _ us hl => match us, hl with | [_, _, _], _ => rfl
theorem Txt.b_law {K : PySem.W.Frag} {mg : Str → Option Value} {a : Ad} (T : Txt K mg a) : Binds K a.d_law ["script"] [] := T.F_law.binds fun _ _ _ _ _ _ us hl => match us, hl with | [_], _ => rfl
theorem txt_get {K : PySem.W.Frag} {h : Heap} {mg : Str → Option Value} (X : K.In h) (G : h.Ns mainGlobals mg)
    {ts : List Addr}
    {f1 : Addr} {oc2 : Value} {dc3 : Value} {pm4 : Value} {cd5 : Value} {ct6 : Value} {kV7 : Value} {od8 : Option Addr}
    {an9 : Option Addr} {sl10 : Array (Option Value)} {f15 : Addr} {oc16 : Value} {dc17 : Value} {pm18 : Value} {cd19 : Value} {ct20 : Value}
    {kV21 : Value} {od22 : Option Addr} {an23 : Option Addr} {sl24 : Array (Option Value)} {f29 : Addr} {oc30 : Value} {dc31 : Value} {pm32 : Value}
    {cd33 : Value} {ct34 : Value} {kV35 : Value} {od36 : Option Addr} {an37 : Option Addr} {sl38 : Array (Option Value)} {f43 : Addr} {oc44 : Value}
    {dc45 : Value} {pm46 : Value} {cd47 : Value} {ct48 : Value} {kV49 : Value} {od50 : Option Addr} {an51 : Option Addr} {sl52 : Array (Option Value)}
    {f57 : Addr} {oc58 : Value} {dc59 : Value} {pm60 : Value} {cd61 : Value} {ct62 : Value} {kV63 : Value} {od64 : Option Addr}
    {an65 : Option Addr} {sl66 : Array (Option Value)} {f71 : Addr} {oc72 : Value} {dc73 : Value} {pm74 : Value} {cd75 : Value} {ct76 : Value}
    {kV77 : Value} {od78 : Option Addr} {an79 : Option Addr} {sl80 : Array (Option Value)} {f85 : Addr} {oc86 : Value} {dc87 : Value} {pm88 : Value}
    {cd89 : Value} {ct90 : Value} {kV91 : Value} {od92 : Option Addr} {an93 : Option Addr} {sl94 : Array (Option Value)} {f99 : Addr} {oc100 : Value}
    {dc101 : Value} {pm102 : Value} {cd103 : Value} {ct104 : Value} {kV105 : Value} {od106 : Option Addr} {an107 : Option Addr} {sl108 : Array (Option Value)}
    {f113 : Addr} {oc114 : Value} {dc115 : Value} {pm116 : Value} {cd117 : Value} {ct118 : Value} {kV119 : Value} {od120 : Option Addr}
    {an121 : Option Addr} {sl122 : Array (Option Value)} {f127 : Addr} {oc128 : Value} {dc129 : Value} {pm130 : Value} {cd131 : Value} {ct132 : Value}
    {kV133 : Value} {od134 : Option Addr} {an135 : Option Addr} {sl136 : Array (Option Value)} {C141 : Addr} {t149 : Tok} {D153 : Addr} {f154 : Addr}
    {oc155 : Value} {dc156 : Value} {pm157 : Value} {cd158 : Value} {ct159 : Value} {od160 : Option Addr} {an161 : Option Addr} {sl162 : Array (Option Value)}
    {t170 : Tok} {f172 : Addr} {oc173 : Value} {dc174 : Value} {pm175 : Value} {cd176 : Value} {ct177 : Value} {kV178 : Value}
    {od179 : Option Addr} {an180 : Option Addr} {sl181 : Array (Option Value)} {p182 : Addr} {r183 : List Value} {f196 : Addr} {oc197 : Value} {dc198 : Value}
    {pm199 : Value} {cd200 : Value} {ct201 : Value} {kV202 : Value} {od203 : Option Addr} {an204 : Option Addr} {sl205 : Array (Option Value)} {p206 : Addr}
    {r207 : List Value} {f213 : Addr} {oc214 : Value} {dc215 : Value} {pm216 : Value} {cd217 : Value} {ct218 : Value} {kV219 : Value}
    {od220 : Option Addr} {an221 : Option Addr} {sl222 : Array (Option Value)} {p223 : Addr} {r224 : List Value} {f232 : Addr} {oc233 : Value} {dc234 : Value}
    {pm235 : Value} {cd236 : Value} {ct237 : Value} {kV238 : Value} {od239 : Option Addr} {an240 : Option Addr} {sl241 : Array (Option Value)} {p242 : Addr}
    {r243 : List Value} {f251 : Addr} {oc252 : Value} {dc253 : Value} {pm254 : Value} {cd255 : Value} {ct256 : Value} {kV257 : Value}
    {od258 : Option Addr} {an259 : Option Addr} {sl260 : Array (Option Value)} {p261 : Addr} {r262 : List Value} {f270 : Addr} {oc271 : Value} {dc272 : Value}
    {pm273 : Value} {cd274 : Value} {ct275 : Value} {kV276 : Value} {od277 : Option Addr} {an278 : Option Addr} {sl279 : Array (Option Value)} {p280 : Addr}
    {r281 : List Value} {f289 : Addr} {oc290 : Value} {dc291 : Value} {pm292 : Value} {cd293 : Value} {ct294 : Value} {kV295 : Value}
    {od296 : Option Addr} {an297 : Option Addr} {sl298 : Array (Option Value)} {p299 : Addr} {r300 : List Value} {f308 : Addr} {oc309 : Value} {dc310 : Value}
    {pm311 : Value} {cd312 : Value} {ct313 : Value} {kV314 : Value} {od315 : Option Addr} {an316 : Option Addr} {sl317 : Array (Option Value)} {p318 : Addr}
    {r319 : List Value} {f327 : Addr} {oc328 : Value} {dc329 : Value} {pm330 : Value} {cd331 : Value} {ct332 : Value} {kV333 : Value}
    {od334 : Option Addr} {an335 : Option Addr} {sl336 : Array (Option Value)} {f342 : Addr} {oc343 : Value} {dc344 : Value} {pm345 : Value} {cd346 : Value}
    {ct347 : Value} {kV348 : Value} {od349 : Option Addr} {an350 : Option Addr} {sl351 : Array (Option Value)} {f357 : Addr} {oc358 : Value} {dc359 : Value}
    {pm360 : Value} {cd361 : Value} {ct362 : Value} {kV363 : Value} {od364 : Option Addr} {an365 : Option Addr} {sl366 : Array (Option Value)} {N372 : Addr}
    {e373 : Str} {e374 : Str} {e375 : List Value} {e376 : Bool} {e377 : List Str} {e378 : List Value} {e379 : Bool} {e380 : Option Bool}
    {e381 : Option Addr} {e382 : Option Value} {e383 : Option Value} {e384 : Option Value} {e385 : Option Value} {e386 : Option Value} {e387 : String} {C402 : Addr}
    {f410 : Addr} {oc411 : Value} {dc412 : Value} {pm413 : Value} {cd414 : Value} {ct415 : Value} {kV416 : Value} {od417 : Option Addr}
    {an418 : Option Addr} {sl419 : Array (Option Value)} {f427 : Addr} {oc428 : Value} {dc429 : Value} {pm430 : Value} {cd431 : Value} {ct432 : Value}
    {kV433 : Value} {od434 : Option Addr} {an435 : Option Addr} {sl436 : Array (Option Value)} {p437 : Addr} {r438 : List Value} {f451 : Addr} {oc452 : Value}
    {dc453 : Value} {pm454 : Value} {cd455 : Value} {ct456 : Value} {kV457 : Value} {od458 : Option Addr} {an459 : Option Addr} {sl460 : Array (Option Value)}
    {p461 : Addr} {r462 : List Value} {f470 : Addr} {oc471 : Value} {dc472 : Value} {pm473 : Value} {cd474 : Value} {ct475 : Value}
    {kV476 : Value} {od477 : Option Addr} {an478 : Option Addr} {sl479 : Array (Option Value)} {f485 : Addr} {oc486 : Value} {dc487 : Value} {pm488 : Value}
    {cd489 : Value} {ct490 : Value} {kV491 : Value} {od492 : Option Addr} {an493 : Option Addr} {sl494 : Array (Option Value)} {tc500 : Addr} {tt501 : Addr}
    {oC502 : Obj} {vC503 : Array Value} {f510 : Addr} {oc511 : Value} {dc512 : Value} {pm513 : Value} {cd514 : Value} {ct515 : Value}
    {kV516 : Value} {od517 : Option Addr} {an518 : Option Addr} {sl519 : Array (Option Value)} {f528 : Addr} {oc529 : Value} {dc530 : Value} {pm531 : Value}
    {cd532 : Value} {ct533 : Value} {kV534 : Value} {od535 : Option Addr} {an536 : Option Addr} {sl537 : Array (Option Value)} {f543 : Addr} {oc544 : Value}
    {dc545 : Value} {pm546 : Value} {cd547 : Value} {ct548 : Value} {kV549 : Value} {od550 : Option Addr} {an551 : Option Addr} {sl552 : Array (Option Value)}
    {N558 : Addr} {e559 : Str} {e560 : Str} {e561 : List Value} {e562 : Bool} {e563 : List Str} {e564 : List Value} {e565 : Bool}
    {e566 : Option Bool} {e567 : Option Addr} {e568 : Option Value} {e569 : Option Value} {e570 : Option Value} {e571 : Option Value} {e572 : Option Value} {e573 : String}
    {f585 : Addr} {oc586 : Value} {dc587 : Value} {pm588 : Value} {cd589 : Value} {ct590 : Value} {kV591 : Value} {od592 : Option Addr}
    {an593 : Option Addr} {sl594 : Array (Option Value)} {f599 : Addr} {oc600 : Value} {dc601 : Value} {pm602 : Value} {cd603 : Value} {ct604 : Value}
    {kV605 : Value} {od606 : Option Addr} {an607 : Option Addr} {sl608 : Array (Option Value)} {f613 : Addr} {oc614 : Value} {dc615 : Value} {pm616 : Value}
    {cd617 : Value} {ct618 : Value} {kV619 : Value} {od620 : Option Addr} {an621 : Option Addr} {sl622 : Array (Option Value)} {f627 : Addr} {oc628 : Value}
    {dc629 : Value} {pm630 : Value} {cd631 : Value} {ct632 : Value} {kV633 : Value} {od634 : Option Addr} {an635 : Option Addr} {sl636 : Array (Option Value)}
    {f641 : Addr} {oc642 : Value} {dc643 : Value} {pm644 : Value} {cd645 : Value} {ct646 : Value} {kV647 : Value} {od648 : Option Addr}
    {an649 : Option Addr} {sl650 : Array (Option Value)} {f655 : Addr} {oc656 : Value} {dc657 : Value} {pm658 : Value} {cd659 : Value} {ct660 : Value}
    {kV661 : Value} {od662 : Option Addr} {an663 : Option Addr} {sl664 : Array (Option Value)} {f669 : Addr} {oc670 : Value} {dc671 : Value} {pm672 : Value}
    {cd673 : Value} {ct674 : Value} {kV675 : Value} {od676 : Option Addr} {an677 : Option Addr} {sl678 : Array (Option Value)} {f683 : Addr} {oc684 : Value}
    {dc685 : Value} {pm686 : Value} {cd687 : Value} {ct688 : Value} {kV689 : Value} {od690 : Option Addr} {an691 : Option Addr} {sl692 : Array (Option Value)}
    {f697 : Addr} {oc698 : Value} {dc699 : Value} {pm700 : Value} {cd701 : Value} {ct702 : Value} {kV703 : Value} {od704 : Option Addr}
    {an705 : Option Addr} {sl706 : Array (Option Value)} {f711 : Addr} {oc712 : Value} {dc713 : Value} {pm714 : Value} {cd715 : Value} {ct716 : Value}
    {kV717 : Value} {od718 : Option Addr} {an719 : Option Addr} {sl720 : Array (Option Value)} {f725 : Addr} {oc726 : Value} {dc727 : Value} {pm728 : Value}
    {cd729 : Value} {ct730 : Value} {kV731 : Value} {od732 : Option Addr} {an733 : Option Addr} {sl734 : Array (Option Value)} {t739 : Tok}
    (a11 : PySem.W.nsIn K mainGlobals "open_names" = some (some (.ref f1)))
    (l12 : K.lookup f1 = some ⟨oc2, od8, .func (PySem.W.fnOf "open_names" "open_names" (defArgs s_open_names) (defBody s_open_names) (defScope s_open_names) .none kV7 dc3 pm4 an9 cd5 ct6), sl10⟩)
    (c13 : PySem.W.codeIn K cd5 "open_names" = true)
    (k14 : PySem.W.keepIn K (.ref f1) = true)
    (a25 : PySem.W.nsIn K mainGlobals "is_choice" = some (some (.ref f15)))
    (l26 : K.lookup f15 = some ⟨oc16, od22, .func (PySem.W.fnOf "is_choice" "is_choice" (defArgs s_is_choice) (defBody s_is_choice) (defScope s_is_choice) .none kV21 dc17 pm18 an23 cd19 ct20), sl24⟩)
    (c27 : PySem.W.codeIn K cd19 "is_choice" = true)
    (k28 : PySem.W.keepIn K (.ref f15) = true)
    (a39 : PySem.W.nsIn K mainGlobals "truth_of" = some (some (.ref f29)))
    (l40 : K.lookup f29 = some ⟨oc30, od36, .func (PySem.W.fnOf "truth_of" "truth_of" (defArgs s_truth_of) (defBody s_truth_of) (defScope s_truth_of) .none kV35 dc31 pm32 an37 cd33 ct34), sl38⟩)
    (c41 : PySem.W.codeIn K cd33 "truth_of" = true)
    (k42 : PySem.W.keepIn K (.ref f29) = true)
    (a53 : PySem.W.nsIn K mainGlobals "is_settled_below" = some (some (.ref f43)))
    (l54 : K.lookup f43 = some ⟨oc44, od50, .func (PySem.W.fnOf "is_settled_below" "is_settled_below" (defArgs s_is_settled_below) (defBody s_is_settled_below) (defScope s_is_settled_below) .none kV49 dc45 pm46 an51 cd47 ct48), sl52⟩)
    (c55 : PySem.W.codeIn K cd47 "is_settled_below" = true)
    (k56 : PySem.W.keepIn K (.ref f43) = true)
    (a67 : PySem.W.nsIn K mainGlobals "sure_least" = some (some (.ref f57)))
    (l68 : K.lookup f57 = some ⟨oc58, od64, .func (PySem.W.fnOf "sure_least" "sure_least" (defArgs s_sure_least) (defBody s_sure_least) (defScope s_sure_least) .none kV63 dc59 pm60 an65 cd61 ct62), sl66⟩)
    (c69 : PySem.W.codeIn K cd61 "sure_least" = true)
    (k70 : PySem.W.keepIn K (.ref f57) = true)
    (a81 : PySem.W.nsIn K mainGlobals "candidates" = some (some (.ref f71)))
    (l82 : K.lookup f71 = some ⟨oc72, od78, .func (PySem.W.fnOf "candidates" "candidates" (defArgs s_candidates) (defBody s_candidates) (defScope s_candidates) .none kV77 dc73 pm74 an79 cd75 ct76), sl80⟩)
    (c83 : PySem.W.codeIn K cd75 "candidates" = true)
    (k84 : PySem.W.keepIn K (.ref f71) = true)
    (a95 : PySem.W.nsIn K mainGlobals "_candidates_of" = some (some (.ref f85)))
    (l96 : K.lookup f85 = some ⟨oc86, od92, .func (PySem.W.fnOf "_candidates_of" "_candidates_of" (defArgs s__candidates_of) (defBody s__candidates_of) (defScope s__candidates_of) .none kV91 dc87 pm88 an93 cd89 ct90), sl94⟩)
    (c97 : PySem.W.codeIn K cd89 "_candidates_of" = true)
    (k98 : PySem.W.keepIn K (.ref f85) = true)
    (a109 : PySem.W.nsIn K mainGlobals "_reaching_down" = some (some (.ref f99)))
    (l110 : K.lookup f99 = some ⟨oc100, od106, .func (PySem.W.fnOf "_reaching_down" "_reaching_down" (defArgs s__reaching_down) (defBody s__reaching_down) (defScope s__reaching_down) .none kV105 dc101 pm102 an107 cd103 ct104), sl108⟩)
    (c111 : PySem.W.codeIn K cd103 "_reaching_down" = true)
    (k112 : PySem.W.keepIn K (.ref f99) = true)
    (a123 : PySem.W.nsIn K mainGlobals "_candidate" = some (some (.ref f113)))
    (l124 : K.lookup f113 = some ⟨oc114, od120, .func (PySem.W.fnOf "_candidate" "_candidate" (defArgs s__candidate) (defBody s__candidate) (defScope s__candidate) .none kV119 dc115 pm116 an121 cd117 ct118), sl122⟩)
    (c125 : PySem.W.codeIn K cd117 "_candidate" = true)
    (k126 : PySem.W.keepIn K (.ref f113) = true)
    (a137 : PySem.W.nsIn K mainGlobals "is_whole" = some (some (.ref f127)))
    (l138 : K.lookup f127 = some ⟨oc128, od134, .func (PySem.W.fnOf "is_whole" "is_whole" (defArgs s_is_whole) (defBody s_is_whole) (defScope s_is_whole) .none kV133 dc129 pm130 an135 cd131 ct132), sl136⟩)
    (c139 : PySem.W.codeIn K cd131 "is_whole" = true)
    (k140 : PySem.W.keepIn K (.ref f127) = true)
    (a142 : PySem.W.nsIn K mainGlobals "Item" = some (some (.ref C141)))
    (pg143 : PySem.W.plainGet K C141 Str.empty = true)
    (hd144 : PySem.W.hasDictIn K C141 = true)
    (po145 : PySem.W.plainOver K C141 = true)
    (sa146 : PySem.W.findIn K (.ref C141) "__setattr__" = some (some (.builtin "object.__setattr__")))
    (rd147 : PySem.W.readsIn K C141 (.type "type") = true)
    (ga148 : PySem.W.specialIn K (.ref C141) "__getattribute__" = some (some (.builtin "type.__getattribute__")))
    (fa150 : PySem.W.findIn K (.ref C141) "MOST" = some (some (.int 999 t149)))
    (gt151 : PySem.W.specialIn K (.int 999 t149) "__get__" = some none)
    (cv152 : PySem.W.findCls K (.ref C141) (.type "type") "MOST" = some (.val (.int 999 t149)))
    (a163 : PySem.W.findIn K (.ref C141) "__init__" = some (some (.ref f154)))
    (i164 : PySem.W.isFn K (.ref f154) = true)
    (mk165 : PySem.W.makesIn K C141 = true)
    (kc166 : PySem.W.keepIn K (.ref C141) = true)
    (l167 : K.lookup f154 = some ⟨oc155, od160, .func (PySem.W.fnOf "__init__" "Item.__init__" (defArgs s_Item___init__) (defBody s_Item___init__) (defScope s_Item___init__) .none (.ref D153) dc156 pm157 an161 cd158 ct159), sl162⟩)
    (c168 : PySem.W.codeIn K cd158 "Item.__init__" = true)
    (k169 : PySem.W.keepIn K (.ref f154) = true)
    (q171 : PySem.W.nsIn K D153 "price" = some (some (.int 1 t170)))
    (a184 : PySem.W.findCls K (.ref C141) (.type "type") "exact" = some (.get (.builtin "classmethod.__get__") (.ref p182) .none (.ref C141)))
    (rc185 : PySem.W.recIn K p182 "classmethod" = some (.ref f172 :: r183))
    (l186 : K.lookup f172 = some ⟨oc173, od179, .func (PySem.W.fnOf "exact" "Item.exact" (defArgs s_Item_exact) (defBody s_Item_exact) (defScope s_Item_exact) .none kV178 dc174 pm175 an180 cd176 ct177), sl181⟩)
    (c187 : PySem.W.codeIn K cd176 "Item.exact" = true)
    (k188 : PySem.W.keepIn K (.ref f172) = true)
    (fi189 : PySem.W.fnIn K f172 = true)
    (pg190 : PySem.W.plainGet K C141 Str.empty = true)
    (ic191 : PySem.W.isClsIn K C141 = true)
    (a192 : PySem.W.findIn K (.ref C141) "exact" = some (some (.ref p182)))
    (ty193 : PySem.W.typeIn K (.ref p182) = some (.type "classmethod"))
    (gt194 : PySem.W.specialIn K (.ref p182) "__get__" = some (some (.builtin "classmethod.__get__")))
    (tk195 : PySem.W.takesIn K (.ref p182) = some false)
    (a208 : PySem.W.findCls K (.ref C141) (.type "type") "is_name" = some (.get (.builtin "staticmethod.__get__") (.ref p206) .none (.ref C141)))
    (rc209 : PySem.W.recIn K p206 "staticmethod" = some (.ref f196 :: r207))
    (l210 : K.lookup f196 = some ⟨oc197, od203, .func (PySem.W.fnOf "is_name" "Item.is_name" (defArgs s_Item_is_name) (defBody s_Item_is_name) (defScope s_Item_is_name) .none kV202 dc198 pm199 an204 cd200 ct201), sl205⟩)
    (c211 : PySem.W.codeIn K cd200 "Item.is_name" = true)
    (k212 : PySem.W.keepIn K (.ref f196) = true)
    (a225 : PySem.W.findIn K (.ref C141) "name" = some (some (.ref p223)))
    (gt226 : PySem.W.specialIn K (.ref p223) "__get__" = some (some (.builtin "property.__get__")))
    (tk227 : PySem.W.takesIn K (.ref p223) = some true)
    (rc228 : PySem.W.recIn K p223 "property" = some (.ref f213 :: r224))
    (l229 : K.lookup f213 = some ⟨oc214, od220, .func (PySem.W.fnOf "name" "Item.name" (defArgs s_Item_name) (defBody s_Item_name) (defScope s_Item_name) .none kV219 dc215 pm216 an221 cd217 ct218), sl222⟩)
    (c230 : PySem.W.codeIn K cd217 "Item.name" = true)
    (k231 : PySem.W.keepIn K (.ref f213) = true)
    (a244 : PySem.W.findIn K (.ref C141) "least" = some (some (.ref p242)))
    (gt245 : PySem.W.specialIn K (.ref p242) "__get__" = some (some (.builtin "property.__get__")))
    (tk246 : PySem.W.takesIn K (.ref p242) = some true)
    (rc247 : PySem.W.recIn K p242 "property" = some (.ref f232 :: r243))
    (l248 : K.lookup f232 = some ⟨oc233, od239, .func (PySem.W.fnOf "least" "Item.least" (defArgs s_Item_least) (defBody s_Item_least) (defScope s_Item_least) .none kV238 dc234 pm235 an240 cd236 ct237), sl241⟩)
    (c249 : PySem.W.codeIn K cd236 "Item.least" = true)
    (k250 : PySem.W.keepIn K (.ref f232) = true)
    (a263 : PySem.W.findIn K (.ref C141) "greatest" = some (some (.ref p261)))
    (gt264 : PySem.W.specialIn K (.ref p261) "__get__" = some (some (.builtin "property.__get__")))
    (tk265 : PySem.W.takesIn K (.ref p261) = some true)
    (rc266 : PySem.W.recIn K p261 "property" = some (.ref f251 :: r262))
    (l267 : K.lookup f251 = some ⟨oc252, od258, .func (PySem.W.fnOf "greatest" "Item.greatest" (defArgs s_Item_greatest) (defBody s_Item_greatest) (defScope s_Item_greatest) .none kV257 dc253 pm254 an259 cd255 ct256), sl260⟩)
    (c268 : PySem.W.codeIn K cd255 "Item.greatest" = true)
    (k269 : PySem.W.keepIn K (.ref f251) = true)
    (a282 : PySem.W.findIn K (.ref C141) "price" = some (some (.ref p280)))
    (gt283 : PySem.W.specialIn K (.ref p280) "__get__" = some (some (.builtin "property.__get__")))
    (tk284 : PySem.W.takesIn K (.ref p280) = some true)
    (rc285 : PySem.W.recIn K p280 "property" = some (.ref f270 :: r281))
    (l286 : K.lookup f270 = some ⟨oc271, od277, .func (PySem.W.fnOf "price" "Item.price" (defArgs s_Item_price) (defBody s_Item_price) (defScope s_Item_price) .none kV276 dc272 pm273 an278 cd274 ct275), sl279⟩)
    (c287 : PySem.W.codeIn K cd274 "Item.price" = true)
    (k288 : PySem.W.keepIn K (.ref f270) = true)
    (a301 : PySem.W.findIn K (.ref C141) "is_exact" = some (some (.ref p299)))
    (gt302 : PySem.W.specialIn K (.ref p299) "__get__" = some (some (.builtin "property.__get__")))
    (tk303 : PySem.W.takesIn K (.ref p299) = some true)
    (rc304 : PySem.W.recIn K p299 "property" = some (.ref f289 :: r300))
    (l305 : K.lookup f289 = some ⟨oc290, od296, .func (PySem.W.fnOf "is_exact" "Item.is_exact" (defArgs s_Item_is_exact) (defBody s_Item_is_exact) (defScope s_Item_is_exact) .none kV295 dc291 pm292 an297 cd293 ct294), sl298⟩)
    (c306 : PySem.W.codeIn K cd293 "Item.is_exact" = true)
    (k307 : PySem.W.keepIn K (.ref f289) = true)
    (a320 : PySem.W.findIn K (.ref C141) "value" = some (some (.ref p318)))
    (gt321 : PySem.W.specialIn K (.ref p318) "__get__" = some (some (.builtin "property.__get__")))
    (tk322 : PySem.W.takesIn K (.ref p318) = some true)
    (rc323 : PySem.W.recIn K p318 "property" = some (.ref f308 :: r319))
    (l324 : K.lookup f308 = some ⟨oc309, od315, .func (PySem.W.fnOf "value" "Item.value" (defArgs s_Item_value) (defBody s_Item_value) (defScope s_Item_value) .none kV314 dc310 pm311 an316 cd312 ct313), sl317⟩)
    (c325 : PySem.W.codeIn K cd312 "Item.value" = true)
    (k326 : PySem.W.keepIn K (.ref f308) = true)
    (a337 : PySem.W.findIn K (.ref C141) "told" = some (some (.ref f327)))
    (i338 : PySem.W.isFn K (.ref f327) = true)
    (l339 : K.lookup f327 = some ⟨oc328, od334, .func (PySem.W.fnOf "told" "Item.told" (defArgs s_Item_told) (defBody s_Item_told) (defScope s_Item_told) .none kV333 dc329 pm330 an335 cd331 ct332), sl336⟩)
    (c340 : PySem.W.codeIn K cd331 "Item.told" = true)
    (k341 : PySem.W.keepIn K (.ref f327) = true)
    (a352 : PySem.W.findIn K (.ref C141) "is_surely_before" = some (some (.ref f342)))
    (i353 : PySem.W.isFn K (.ref f342) = true)
    (l354 : K.lookup f342 = some ⟨oc343, od349, .func (PySem.W.fnOf "is_surely_before" "Item.is_surely_before" (defArgs s_Item_is_surely_before) (defBody s_Item_is_surely_before) (defScope s_Item_is_surely_before) .none kV348 dc344 pm345 an350 cd346 ct347), sl351⟩)
    (c355 : PySem.W.codeIn K cd346 "Item.is_surely_before" = true)
    (k356 : PySem.W.keepIn K (.ref f342) = true)
    (a367 : PySem.W.findIn K (.ref C141) "__eq__" = some (some (.ref f357)))
    (i368 : PySem.W.isFn K (.ref f357) = true)
    (l369 : K.lookup f357 = some ⟨oc358, od364, .func (PySem.W.fnOf "__eq__" "Item.__eq__" (defArgs s_Item___eq__) (defBody s_Item___eq__) (defScope s_Item___eq__) .none kV363 dc359 pm360 an365 cd361 ct362), sl366⟩)
    (c370 : PySem.W.codeIn K cd361 "Item.__eq__" = true)
    (k371 : PySem.W.keepIn K (.ref f357) = true)
    (lc388 : K.lookup C141 = some (excClassObj e373 e374 C141 N372 e375 [.type "object"] e376 e377 e378 e379 e380 e381 e382 e383 e384 e385 e386 e387))
    (no389 : PySem.W.nsOkIn K N372 = true)
    (ee390 : PySem.W.nsIn K N372 "__eq__" = some (some (.ref f357)))
    (en391 : PySem.W.nsIn K N372 "__ne__" = some none)
    (na392 : PySem.W.findIn K (.ref C141) "_name" = some none)
    (na393 : PySem.W.findIn K (.ref C141) "_least" = some none)
    (na394 : PySem.W.findIn K (.ref C141) "_greatest" = some none)
    (na395 : PySem.W.findIn K (.ref C141) "_price" = some none)
    (ha396 : PySem.W.findIn K (.ref C141) "__class__" = some (some (.builtin "object.__class__")))
    (hn397 : PySem.W.specialIn K (.builtin "object.__class__") "__get__" = some (some (.builtin "getset_descriptor.__get__")))
    (ht398 : PySem.W.takesIn K (.builtin "object.__class__") = some true)
    (hm399 : PySem.W.mroIn K C141 (.type "object") = some true)
    (kt400 : ∀ t ∈ kinds, PySem.W.kitOne K (.type t) (.ref C141) = some false)
    (kd401 : ∀ t ∈ kinds, PySem.W.notFirst K C141 (.type t) = true)
    (a403 : PySem.W.nsIn K mainGlobals "Pool" = some (some (.ref C402)))
    (pg404 : PySem.W.plainGet K C402 Str.empty = true)
    (hd405 : PySem.W.hasDictIn K C402 = true)
    (po406 : PySem.W.plainOver K C402 = true)
    (sa407 : PySem.W.findIn K (.ref C402) "__setattr__" = some (some (.builtin "object.__setattr__")))
    (rd408 : PySem.W.readsIn K C402 (.type "type") = true)
    (ga409 : PySem.W.specialIn K (.ref C402) "__getattribute__" = some (some (.builtin "type.__getattribute__")))
    (a420 : PySem.W.findIn K (.ref C402) "__init__" = some (some (.ref f410)))
    (i421 : PySem.W.isFn K (.ref f410) = true)
    (mk422 : PySem.W.makesIn K C402 = true)
    (kc423 : PySem.W.keepIn K (.ref C402) = true)
    (l424 : K.lookup f410 = some ⟨oc411, od417, .func (PySem.W.fnOf "__init__" "Pool.__init__" (defArgs s_Pool___init__) (defBody s_Pool___init__) (defScope s_Pool___init__) .none kV416 dc412 pm413 an418 cd414 ct415), sl419⟩)
    (c425 : PySem.W.codeIn K cd414 "Pool.__init__" = true)
    (k426 : PySem.W.keepIn K (.ref f410) = true)
    (a439 : PySem.W.findCls K (.ref C402) (.type "type") "read" = some (.get (.builtin "classmethod.__get__") (.ref p437) .none (.ref C402)))
    (rc440 : PySem.W.recIn K p437 "classmethod" = some (.ref f427 :: r438))
    (l441 : K.lookup f427 = some ⟨oc428, od434, .func (PySem.W.fnOf "read" "Pool.read" (defArgs s_Pool_read) (defBody s_Pool_read) (defScope s_Pool_read) .none kV433 dc429 pm430 an435 cd431 ct432), sl436⟩)
    (c442 : PySem.W.codeIn K cd431 "Pool.read" = true)
    (k443 : PySem.W.keepIn K (.ref f427) = true)
    (fi444 : PySem.W.fnIn K f427 = true)
    (pg445 : PySem.W.plainGet K C402 Str.empty = true)
    (ic446 : PySem.W.isClsIn K C402 = true)
    (a447 : PySem.W.findIn K (.ref C402) "read" = some (some (.ref p437)))
    (ty448 : PySem.W.typeIn K (.ref p437) = some (.type "classmethod"))
    (gt449 : PySem.W.specialIn K (.ref p437) "__get__" = some (some (.builtin "classmethod.__get__")))
    (tk450 : PySem.W.takesIn K (.ref p437) = some false)
    (a463 : PySem.W.findIn K (.ref C402) "names" = some (some (.ref p461)))
    (gt464 : PySem.W.specialIn K (.ref p461) "__get__" = some (some (.builtin "property.__get__")))
    (tk465 : PySem.W.takesIn K (.ref p461) = some true)
    (rc466 : PySem.W.recIn K p461 "property" = some (.ref f451 :: r462))
    (l467 : K.lookup f451 = some ⟨oc452, od458, .func (PySem.W.fnOf "names" "Pool.names" (defArgs s_Pool_names) (defBody s_Pool_names) (defScope s_Pool_names) .none kV457 dc453 pm454 an459 cd455 ct456), sl460⟩)
    (c468 : PySem.W.codeIn K cd455 "Pool.names" = true)
    (k469 : PySem.W.keepIn K (.ref f451) = true)
    (a480 : PySem.W.findIn K (.ref C402) "item" = some (some (.ref f470)))
    (i481 : PySem.W.isFn K (.ref f470) = true)
    (l482 : K.lookup f470 = some ⟨oc471, od477, .func (PySem.W.fnOf "item" "Pool.item" (defArgs s_Pool_item) (defBody s_Pool_item) (defScope s_Pool_item) .none kV476 dc472 pm473 an478 cd474 ct475), sl479⟩)
    (c483 : PySem.W.codeIn K cd474 "Pool.item" = true)
    (k484 : PySem.W.keepIn K (.ref f470) = true)
    (a495 : PySem.W.findIn K (.ref C402) "walk" = some (some (.ref f485)))
    (i496 : PySem.W.isFn K (.ref f485) = true)
    (l497 : K.lookup f485 = some ⟨oc486, od492, .func (PySem.W.fnOf "walk" "Pool.walk" (defArgs s_Pool_walk) (defBody s_Pool_walk) (defScope s_Pool_walk) .none kV491 dc487 pm488 an493 cd489 ct490), sl494⟩)
    (c498 : PySem.W.codeIn K cd489 "Pool.walk" = true)
    (k499 : PySem.W.keepIn K (.ref f485) = true)
    (rt504 : cd489 = .ref tc500)
    (lk505 : K.lookup tc500 = some oC502)
    (rt506 : oC502.data = .fields vC503)
    (rt507 : vC503[11]? = some (.ref tt501))
    (rh508 : PySem.W.codeHdIn K tc500 tt501 = true)
    (rn509 : K.lookup tt501 = none)
    (a520 : PySem.W.findIn K (.ref C402) "with_items" = some (some (.ref f510)))
    (i521 : PySem.W.isFn K (.ref f510) = true)
    (l522 : K.lookup f510 = some ⟨oc511, od517, .func (PySem.W.fnOf "with_items" "Pool.with_items" (defArgs s_Pool_with_items) (defBody s_Pool_with_items) (defScope s_Pool_with_items) .none kV516 dc512 pm513 an518 cd514 ct515), sl519⟩)
    (c523 : PySem.W.codeIn K cd514 "Pool.with_items" = true)
    (k524 : PySem.W.keepIn K (.ref f510) = true)
    (gf525 : PySem.W.specialIn K (.ref f510) "__get__" = some (some (.builtin "function.__get__")))
    (tk526 : PySem.W.takesIn K (.ref f510) = some false)
    (fi527 : PySem.W.fnIn K f510 = true)
    (a538 : PySem.W.findIn K (.ref C402) "told" = some (some (.ref f528)))
    (i539 : PySem.W.isFn K (.ref f528) = true)
    (l540 : K.lookup f528 = some ⟨oc529, od535, .func (PySem.W.fnOf "told" "Pool.told" (defArgs s_Pool_told) (defBody s_Pool_told) (defScope s_Pool_told) .none kV534 dc530 pm531 an536 cd532 ct533), sl537⟩)
    (c541 : PySem.W.codeIn K cd532 "Pool.told" = true)
    (k542 : PySem.W.keepIn K (.ref f528) = true)
    (a553 : PySem.W.findIn K (.ref C402) "__eq__" = some (some (.ref f543)))
    (i554 : PySem.W.isFn K (.ref f543) = true)
    (l555 : K.lookup f543 = some ⟨oc544, od550, .func (PySem.W.fnOf "__eq__" "Pool.__eq__" (defArgs s_Pool___eq__) (defBody s_Pool___eq__) (defScope s_Pool___eq__) .none kV549 dc545 pm546 an551 cd547 ct548), sl552⟩)
    (c556 : PySem.W.codeIn K cd547 "Pool.__eq__" = true)
    (k557 : PySem.W.keepIn K (.ref f543) = true)
    (lc574 : K.lookup C402 = some (excClassObj e559 e560 C402 N558 e561 [.type "object"] e562 e563 e564 e565 e566 e567 e568 e569 e570 e571 e572 e573))
    (no575 : PySem.W.nsOkIn K N558 = true)
    (ee576 : PySem.W.nsIn K N558 "__eq__" = some (some (.ref f543)))
    (en577 : PySem.W.nsIn K N558 "__ne__" = some none)
    (na578 : PySem.W.findIn K (.ref C402) "_by_name" = some none)
    (ha579 : PySem.W.findIn K (.ref C402) "__class__" = some (some (.builtin "object.__class__")))
    (hn580 : PySem.W.specialIn K (.builtin "object.__class__") "__get__" = some (some (.builtin "getset_descriptor.__get__")))
    (ht581 : PySem.W.takesIn K (.builtin "object.__class__") = some true)
    (hm582 : PySem.W.mroIn K C402 (.type "object") = some true)
    (kt583 : ∀ t ∈ kinds, PySem.W.kitOne K (.type t) (.ref C402) = some false)
    (kd584 : ∀ t ∈ kinds, PySem.W.notFirst K C402 (.type t) = true)
    (a595 : PySem.W.nsIn K mainGlobals "_check_items" = some (some (.ref f585)))
    (l596 : K.lookup f585 = some ⟨oc586, od592, .func (PySem.W.fnOf "_check_items" "_check_items" (defArgs s__check_items) (defBody s__check_items) (defScope s__check_items) .none kV591 dc587 pm588 an593 cd589 ct590), sl594⟩)
    (c597 : PySem.W.codeIn K cd589 "_check_items" = true)
    (k598 : PySem.W.keepIn K (.ref f585) = true)
    (a609 : PySem.W.nsIn K mainGlobals "_law_pen" = some (some (.ref f599)))
    (l610 : K.lookup f599 = some ⟨oc600, od606, .func (PySem.W.fnOf "_law_pen" "_law_pen" (defArgs s__law_pen) (defBody s__law_pen) (defScope s__law_pen) .none kV605 dc601 pm602 an607 cd603 ct604), sl608⟩)
    (c611 : PySem.W.codeIn K cd603 "_law_pen" = true)
    (k612 : PySem.W.keepIn K (.ref f599) = true)
    (a623 : PySem.W.nsIn K mainGlobals "_law_next" = some (some (.ref f613)))
    (l624 : K.lookup f613 = some ⟨oc614, od620, .func (PySem.W.fnOf "_law_next" "_law_next" (defArgs s__law_next) (defBody s__law_next) (defScope s__law_next) .none kV619 dc615 pm616 an621 cd617 ct618), sl622⟩)
    (c625 : PySem.W.codeIn K cd617 "_law_next" = true)
    (k626 : PySem.W.keepIn K (.ref f613) = true)
    (a637 : PySem.W.nsIn K mainGlobals "_law_draw" = some (some (.ref f627)))
    (l638 : K.lookup f627 = some ⟨oc628, od634, .func (PySem.W.fnOf "_law_draw" "_law_draw" (defArgs s__law_draw) (defBody s__law_draw) (defScope s__law_draw) .none kV633 dc629 pm630 an635 cd631 ct632), sl636⟩)
    (c639 : PySem.W.codeIn K cd631 "_law_draw" = true)
    (k640 : PySem.W.keepIn K (.ref f627) = true)
    (a651 : PySem.W.nsIn K mainGlobals "_law_rows" = some (some (.ref f641)))
    (l652 : K.lookup f641 = some ⟨oc642, od648, .func (PySem.W.fnOf "_law_rows" "_law_rows" (defArgs s__law_rows) (defBody s__law_rows) (defScope s__law_rows) .none kV647 dc643 pm644 an649 cd645 ct646), sl650⟩)
    (c653 : PySem.W.codeIn K cd645 "_law_rows" = true)
    (k654 : PySem.W.keepIn K (.ref f641) = true)
    (a665 : PySem.W.nsIn K mainGlobals "_law_truth" = some (some (.ref f655)))
    (l666 : K.lookup f655 = some ⟨oc656, od662, .func (PySem.W.fnOf "_law_truth" "_law_truth" (defArgs s__law_truth) (defBody s__law_truth) (defScope s__law_truth) .none kV661 dc657 pm658 an663 cd659 ct660), sl664⟩)
    (c667 : PySem.W.codeIn K cd659 "_law_truth" = true)
    (k668 : PySem.W.keepIn K (.ref f655) = true)
    (a679 : PySem.W.nsIn K mainGlobals "_law_told" = some (some (.ref f669)))
    (l680 : K.lookup f669 = some ⟨oc670, od676, .func (PySem.W.fnOf "_law_told" "_law_told" (defArgs s__law_told) (defBody s__law_told) (defScope s__law_told) .none kV675 dc671 pm672 an677 cd673 ct674), sl678⟩)
    (c681 : PySem.W.codeIn K cd673 "_law_told" = true)
    (k682 : PySem.W.keepIn K (.ref f669) = true)
    (a693 : PySem.W.nsIn K mainGlobals "_law_made" = some (some (.ref f683)))
    (l694 : K.lookup f683 = some ⟨oc684, od690, .func (PySem.W.fnOf "_law_made" "_law_made" (defArgs s__law_made) (defBody s__law_made) (defScope s__law_made) .none kV689 dc685 pm686 an691 cd687 ct688), sl692⟩)
    (c695 : PySem.W.codeIn K cd687 "_law_made" = true)
    (k696 : PySem.W.keepIn K (.ref f683) = true)
    (a707 : PySem.W.nsIn K mainGlobals "_law_candidates" = some (some (.ref f697)))
    (l708 : K.lookup f697 = some ⟨oc698, od704, .func (PySem.W.fnOf "_law_candidates" "_law_candidates" (defArgs s__law_candidates) (defBody s__law_candidates) (defScope s__law_candidates) .none kV703 dc699 pm700 an705 cd701 ct702), sl706⟩)
    (c709 : PySem.W.codeIn K cd701 "_law_candidates" = true)
    (k710 : PySem.W.keepIn K (.ref f697) = true)
    (a721 : PySem.W.nsIn K mainGlobals "_law_right" = some (some (.ref f711)))
    (l722 : K.lookup f711 = some ⟨oc712, od718, .func (PySem.W.fnOf "_law_right" "_law_right" (defArgs s__law_right) (defBody s__law_right) (defScope s__law_right) .none kV717 dc713 pm714 an719 cd715 ct716), sl720⟩)
    (c723 : PySem.W.codeIn K cd715 "_law_right" = true)
    (k724 : PySem.W.keepIn K (.ref f711) = true)
    (a735 : PySem.W.nsIn K mainGlobals "law" = some (some (.ref f725)))
    (l736 : K.lookup f725 = some ⟨oc726, od732, .func (PySem.W.fnOf "law" "law" (defArgs s_law) (defBody s_law) (defScope s_law) .none kV731 dc727 pm728 an733 cd729 ct730), sl734⟩)
    (c737 : PySem.W.codeIn K cd729 "law" = true)
    (k738 : PySem.W.keepIn K (.ref f725) = true)
    (a740 : PySem.W.nsIn K mainGlobals "LONGEST_NAME" = some (some (.int 8 t739)))
    (z741 : PySem.W.nsIn K mainGlobals "len" = some none)
    (z742 : PySem.W.nsIn K mainGlobals "list" = some none)
    (z743 : PySem.W.nsIn K mainGlobals "isinstance" = some none)
    (z744 : PySem.W.nsIn K mainGlobals "str" = some none)
    (z745 : PySem.W.nsIn K mainGlobals "int" = some none)
    (z746 : PySem.W.nsIn K mainGlobals "bool" = some none)
    (z747 : PySem.W.nsIn K mainGlobals "range" = some none)
    (z748 : PySem.W.nsIn K mainGlobals "repr" = some none)
    (z749 : PySem.W.nsIn K mainGlobals "all" = some none)
    (z750 : PySem.W.nsIn K mainGlobals "any" = some none)
    (z751 : PySem.W.nsIn K mainGlobals "dict" = some none)
    (z752 : PySem.W.nsIn K mainGlobals "tuple" = some none)
    (z753 : PySem.W.nsIn K mainGlobals "sorted" = some none)
    (z754 : PySem.W.nsIn K mainGlobals "set" = some none)
    (z755 : PySem.W.nsIn K mainGlobals "max" = some none)
    (z756 : PySem.W.nsIn K mainGlobals "enumerate" = some none)
    (z757 : PySem.W.nsIn K mainGlobals "min" = some none)
    (z758 : PySem.W.nsIn K mainGlobals "sum" = some none)
    (mt759 : tt501 ∈ ts)
    : ∃ a : Ad, Txt K mg a ∧ a.t_Pool_walk ∈ ts := ⟨{ f_open_names := f1, d_open_names := _, f_is_choice := f15, d_is_choice := _, f_truth_of := f29, d_truth_of := _, f_is_settled_below := f43, d_is_settled_below := _, f_sure_least := f57, d_sure_least := _, f_candidates := f71, d_candidates := _, f__candidates_of := f85, d__candidates_of := _, f__reaching_down := f99, d__reaching_down := _, f__candidate := f113, d__candidate := _, f_is_whole := f127, d_is_whole := _, c_Item := C141, f_Item___init__ := f154, d_Item___init__ := _, f_Item_exact := f172, d_Item_exact := _, p_Item_exact := p182, f_Item_is_name := f196, d_Item_is_name := _, p_Item_is_name := p206, f_Item_name := f213, d_Item_name := _, p_Item_name := p223, f_Item_least := f232, d_Item_least := _, p_Item_least := p242, f_Item_greatest := f251, d_Item_greatest := _, p_Item_greatest := p261, f_Item_price := f270, d_Item_price := _, p_Item_price := p280, f_Item_is_exact := f289, d_Item_is_exact := _, p_Item_is_exact := p299, f_Item_value := f308, d_Item_value := _, p_Item_value := p318, f_Item_told := f327, d_Item_told := _, f_Item_is_surely_before := f342, d_Item_is_surely_before := _, f_Item___eq__ := f357, d_Item___eq__ := _, c_Pool := C402, f_Pool___init__ := f410, d_Pool___init__ := _, f_Pool_read := f427, d_Pool_read := _, p_Pool_read := p437, f_Pool_names := f451, d_Pool_names := _, p_Pool_names := p461, f_Pool_item := f470, d_Pool_item := _, f_Pool_walk := f485, d_Pool_walk := _, cd_Pool_walk := tc500, t_Pool_walk := tt501, f_Pool_with_items := f510, d_Pool_with_items := _, f_Pool_told := f528, d_Pool_told := _, f_Pool___eq__ := f543, d_Pool___eq__ := _, f__check_items := f585, d__check_items := _, f__law_pen := f599, d__law_pen := _, f__law_next := f613, d__law_next := _, f__law_draw := f627, d__law_draw := _, f__law_rows := f641, d__law_rows := _, f__law_truth := f655, d__law_truth := _, f__law_told := f669, d__law_told := _, f__law_made := f683, d__law_made := _, f__law_candidates := f697, d__law_candidates := _, f__law_right := f711, d__law_right := _, f_law := f725, d_law := _ }, ⟨
  { F_open_names := fun_mk l12 c13 k14
    g_open_names := PySem.W.mg_of X G a11
    F_is_choice := fun_mk l26 c27 k28
    g_is_choice := PySem.W.mg_of X G a25
    F_truth_of := fun_mk l40 c41 k42
    g_truth_of := PySem.W.mg_of X G a39
    F_is_settled_below := fun_mk l54 c55 k56
    g_is_settled_below := PySem.W.mg_of X G a53
    F_sure_least := fun_mk l68 c69 k70
    g_sure_least := PySem.W.mg_of X G a67
    F_candidates := fun_mk l82 c83 k84
    g_candidates := PySem.W.mg_of X G a81
    F__candidates_of := fun_mk l96 c97 k98
    g__candidates_of := PySem.W.mg_of X G a95
    F__reaching_down := fun_mk l110 c111 k112
    g__reaching_down := PySem.W.mg_of X G a109
    F__candidate := fun_mk l124 c125 k126
    g__candidate := PySem.W.mg_of X G a123
    F_is_whole := fun_mk l138 c139 k140
    g_is_whole := PySem.W.mg_of X G a137
    g_Item := PySem.W.mg_of X G a142
    cl_Item := ⟨pg143, hd144, po145, sa146⟩
    rd_Item := ⟨rd147, ga148⟩
    co_Item_MOST := ⟨_, fa150, ⟨_, rfl⟩, gt151, by decide⟩
    cv_Item_MOST := ⟨_, cv152, ⟨_, rfl⟩⟩
    mk_Item := ⟨mk165, a163, i164, kc166⟩
    F_Item___init__ := ⟨⟨_, _, .none, _, _, _, _, _, _, _, rfl, l167, c168, .inl ⟨rfl, rfl⟩, .inr ⟨_, rfl, fun z hz => by obtain rfl := List.mem_singleton.mp hz; exact ⟨_, q171, _, rfl⟩⟩⟩, k169⟩
    F_Item_exact := fun_mk l186 c187 k188
    m_Item_exact := ⟨a184, ⟨_, rc185⟩, fi189⟩
    i_Item_exact := ⟨pg190, ic191, a192, ty193, gt194, tk195, by decide, ⟨_, rc185⟩, fi189⟩
    F_Item_is_name := fun_mk l210 c211 k212
    m_Item_is_name := ⟨a208, ⟨_, rc209⟩, k212⟩
    F_Item_name := fun_mk l229 c230 k231
    m_Item_name := ⟨a225, gt226, tk227, _, rc228⟩
    F_Item_least := fun_mk l248 c249 k250
    m_Item_least := ⟨a244, gt245, tk246, _, rc247⟩
    F_Item_greatest := fun_mk l267 c268 k269
    m_Item_greatest := ⟨a263, gt264, tk265, _, rc266⟩
    F_Item_price := fun_mk l286 c287 k288
    m_Item_price := ⟨a282, gt283, tk284, _, rc285⟩
    F_Item_is_exact := fun_mk l305 c306 k307
    m_Item_is_exact := ⟨a301, gt302, tk303, _, rc304⟩
    F_Item_value := fun_mk l324 c325 k326
    m_Item_value := ⟨a320, gt321, tk322, _, rc323⟩
    F_Item_told := fun_mk l339 c340 k341
    m_Item_told := ⟨a337, i338, k341⟩
    F_Item_is_surely_before := fun_mk l354 c355 k356
    m_Item_is_surely_before := ⟨a352, i353, k356⟩
    F_Item___eq__ := fun_mk l369 c370 k371
    m_Item___eq__ := ⟨a367, i368, k371⟩
    eq_Item := ⟨⟨_, _, _, _, _, _, _, _, _, _, _, _, _, _, _, _, lc388, no389, ee390, en391⟩, a367, i368⟩
    n_Item__name := na392
    n_Item__least := na393
    n_Item__greatest := na394
    n_Item__price := na395
    ty_Item := ⟨ha396, hn397, ht398, hm399, kt400⟩
    kd_Item := kd401
    g_Pool := PySem.W.mg_of X G a403
    cl_Pool := ⟨pg404, hd405, po406, sa407⟩
    rd_Pool := ⟨rd408, ga409⟩
    mk_Pool := ⟨mk422, a420, i421, kc423⟩
    F_Pool___init__ := fun_mk l424 c425 k426
    F_Pool_read := fun_mk l441 c442 k443
    m_Pool_read := ⟨a439, ⟨_, rc440⟩, fi444⟩
    i_Pool_read := ⟨pg445, ic446, a447, ty448, gt449, tk450, by decide, ⟨_, rc440⟩, fi444⟩
    F_Pool_names := fun_mk l467 c468 k469
    m_Pool_names := ⟨a463, gt464, tk465, _, rc466⟩
    F_Pool_item := fun_mk l482 c483 k484
    m_Pool_item := ⟨a480, i481, k484⟩
    F_Pool_walk := fun_mk l497 c498 k499
    tab_Pool_walk := ⟨rt504, rh508, rn509⟩
    m_Pool_walk := ⟨a495, i496, k499⟩
    F_Pool_with_items := fun_mk l522 c523 k524
    m_Pool_with_items := ⟨a520, i521, k524⟩
    bm_Pool_with_items := ⟨⟨a520, i521, k524⟩, gf525, tk526, by decide, fi527⟩
    F_Pool_told := fun_mk l540 c541 k542
    m_Pool_told := ⟨a538, i539, k542⟩
    F_Pool___eq__ := fun_mk l555 c556 k557
    m_Pool___eq__ := ⟨a553, i554, k557⟩
    eq_Pool := ⟨⟨_, _, _, _, _, _, _, _, _, _, _, _, _, _, _, _, lc574, no575, ee576, en577⟩, a553, i554⟩
    n_Pool__by_name := na578
    ty_Pool := ⟨ha579, hn580, ht581, hm582, kt583⟩
    kd_Pool := kd584
    F__check_items := fun_mk l596 c597 k598
    g__check_items := PySem.W.mg_of X G a595
    F__law_pen := fun_mk l610 c611 k612
    g__law_pen := PySem.W.mg_of X G a609
    F__law_next := fun_mk l624 c625 k626
    g__law_next := PySem.W.mg_of X G a623
    F__law_draw := fun_mk l638 c639 k640
    g__law_draw := PySem.W.mg_of X G a637
    F__law_rows := fun_mk l652 c653 k654
    g__law_rows := PySem.W.mg_of X G a651
    F__law_truth := fun_mk l666 c667 k668
    g__law_truth := PySem.W.mg_of X G a665
    F__law_told := fun_mk l680 c681 k682
    g__law_told := PySem.W.mg_of X G a679
    F__law_made := fun_mk l694 c695 k696
    g__law_made := PySem.W.mg_of X G a693
    F__law_candidates := fun_mk l708 c709 k710
    g__law_candidates := PySem.W.mg_of X G a707
    F__law_right := fun_mk l722 c723 k724
    g__law_right := PySem.W.mg_of X G a721
    F_law := fun_mk l736 c737 k738
    g_law := PySem.W.mg_of X G a735
    g_LONGEST_NAME := ⟨_, PySem.W.mg_of X G a740, _, rfl⟩
    b_len := PySem.W.mg_none_of X G z741
    b_list := PySem.W.mg_none_of X G z742
    b_isinstance := PySem.W.mg_none_of X G z743
    b_str := PySem.W.mg_none_of X G z744
    b_int := PySem.W.mg_none_of X G z745
    b_bool := PySem.W.mg_none_of X G z746
    b_range := PySem.W.mg_none_of X G z747
    b_repr := PySem.W.mg_none_of X G z748
    b_all := PySem.W.mg_none_of X G z749
    b_any := PySem.W.mg_none_of X G z750
    b_dict := PySem.W.mg_none_of X G z751
    b_tuple := PySem.W.mg_none_of X G z752
    b_sorted := PySem.W.mg_none_of X G z753
    b_set := PySem.W.mg_none_of X G z754
    b_max := PySem.W.mg_none_of X G z755
    b_enumerate := PySem.W.mg_none_of X G z756
    b_min := PySem.W.mg_none_of X G z757
    b_sum := PySem.W.mg_none_of X G z758 }, mt759⟩⟩
end Ask

set_option Elab.async false
set_option linter.all false
set_option maxRecDepth 100000
set_option maxHeartbeats 4000000
namespace Ask
open PySem L2
open PyProof.Rows
section
variable {P : Program} {w : World} {K : PySem.W.Frag} {mg : Str → Option Value} {base : Heap} {a : Ad}

/-- any object of a built-in kind -/
def Obj' (K : PySem.W.Frag) (H : Hp) (v : V) (t : String) : Prop := TyX K H v (.type t) ∧ t ∈ kinds
def spWhole (K : PySem.W.Frag) : Sp := fun vs H Q _ => ∃ v t, vs = [v] ∧ Obj' K H v t ∧ Q (.bl (t == "int")) H
theorem ok_whole (T : Txt K mg a) : FnOk P w K mg base CX0 1 a.f_is_whole a.d_is_whole ["thing"] (spWhole K) := by
  refine T.F_is_whole.ok sc_is_whole (fun vs H Q E h => ?_) (fun cdv A outer s H vs Q E hr h => ?_)
  · obtain ⟨v, t, rfl, _⟩ := h
    rfl
  · obtain ⟨v, t, rfl, ⟨ty, ht⟩, q⟩ := h
    refine ⟨_, (pss_one (ps_ret (pe_and (pe_callB call_isi (by rfl) T.b_isinstance (by decide +kernel) (pa_cons (pv 0) (pa_cons (pe_bltn (v := .ty "int") (by rfl) T.b_int (by decide +kernel) rfl) pa_nil))) (pe_one (pe_not (pe_callB call_isi (by rfl) T.b_isinstance (by decide +kernel) (pa_cons (pv 0) (pa_cons (pe_bltn (v := .ty "bool") (by rfl) T.b_bool (by decide +kernel) rfl) pa_nil)))))))), ?_⟩
    refine ⟨v, rfl, ?_⟩
    simp only [kinds, List.mem_cons, List.not_mem_nil, or_false] at ht
    rcases ht with rfl | rfl | rfl | rfl | rfl | rfl | rfl
    · exact ⟨v, .ty "int", _, _, false, rfl, .ty _, ty, kit_ty (by decide +kernel), false, rfl, iteF q⟩
    · refine ⟨v, .ty "int", _, _, true, rfl, .ty _, ty, kit_ty (by decide +kernel), true, rfl, iteT ?_⟩
      exact ⟨v, rfl, v, .ty "bool", _, _, true, rfl, .ty _, ty, kit_ty (by decide +kernel), true, rfl, q⟩
    · refine ⟨v, .ty "int", _, _, true, rfl, .ty _, ty, kit_ty (by decide +kernel), true, rfl, iteT ?_⟩
      exact ⟨v, rfl, v, .ty "bool", _, _, false, rfl, .ty _, ty, kit_ty (by decide +kernel), false, rfl, q⟩
    · exact ⟨v, .ty "int", _, _, false, rfl, .ty _, ty, kit_ty (by decide +kernel), false, rfl, iteF q⟩
    · exact ⟨v, .ty "int", _, _, false, rfl, .ty _, ty, kit_ty (by decide +kernel), false, rfl, iteF q⟩
    · exact ⟨v, .ty "int", _, _, false, rfl, .ty _, ty, kit_ty (by decide +kernel), false, rfl, iteF q⟩
    · exact ⟨v, .ty "int", _, _, false, rfl, .ty _, ty, kit_ty (by decide +kernel), false, rfl, iteF q⟩

/-- the name's signs, the name's length -/
def signB (c : Nat) : Bool := decide (97 ≤ c) && decide (c ≤ 122)
def nameB (x : Str) : Bool := decide (1 ≤ x.length) && decide (x.length ≤ 8) && x.cps.toList.all signB
def spIsName (K : PySem.W.Frag) : Sp := fun vs H Q _ => ∃ v t, vs = [v] ∧ Obj' K H v t ∧
  ((t ≠ "str" ∧ Q (.bl false) H) ∨ ∃ x, v = .str x ∧ x.length ≤ sizeLine ∧ ∀ H', Same H H' → Q (.bl (nameB x)) H')
theorem lt_one (c d : Nat) : decide ((⟨#[c]⟩ : Str).cps.toList < (⟨#[d]⟩ : Str).cps.toList) = decide (c < d) := by
  congr 1
  apply propext
  constructor
  · intro h
    cases h with
    | rel h => exact h
    | cons h => cases h
  · intro h
    exact List.Lex.rel h
theorem lt_a (c : Nat) : decide ((⟨#[c]⟩ : Str).cps.toList < (Str.ofString "a").cps.toList) = decide (c < 97) := by
  rw [show Str.ofString "a" = ⟨#[97]⟩ from by decide +kernel]
  exact lt_one c 97
theorem lt_z (c : Nat) : decide ((Str.ofString "z").cps.toList < (⟨#[c]⟩ : Str).cps.toList) = decide (122 < c) := by
  rw [show Str.ofString "z" = ⟨#[122]⟩ from by decide +kernel]
  exact lt_one 122 c
theorem ok_is_name (T : Txt K mg a) : FnOk P w K mg base CX0 1 a.f_Item_is_name a.d_Item_is_name ["thing"] (spIsName K) := by
  refine T.F_Item_is_name.ok sc_Item_is_name (fun vs H Q E h => ?_) (fun cdv A outer s H vs Q E hr h => ?_)
  · obtain ⟨v, t, rfl, _⟩ := h
    rfl
  · obtain ⟨v, t, rfl, ⟨ty, ht⟩, q⟩ := h
    have nd := sc_Item_is_name.nd
    refine ⟨_, (pss_cons (ps_if (PW.pt (pw_or (pt_not (pt_val (pe_callB call_isi (by rfl) T.b_isinstance (by decide +kernel) (pa_cons (pv 0) (pa_cons (pe_bltn (v := .ty "str") (by rfl) T.b_str (by decide +kernel) rfl) pa_nil))))) (pw_or1 (pt_not (pt_chain op_le op_le pe_int (pe_callB call_len_str (by rfl) T.b_len PySem.boot_len (pa_cons (pv 0) pa_nil)) (pe_gi rfl T.g_LONGEST_NAME))))))
    (pss_one (ps_ret pe_bl))
    pss_nil)
  (pss_one (ps_ret (pe_callB (cr_all rfl) (by rfl) T.b_all (by decide +kernel) (pa_cons (pe_lc (own := [("sign", 1)]) (g := gName 1) (tt := tYes) rfl nd (pi_str (pv 0)) (blkOk_by (N := ["thing", "sign"]) (sc := defScope s_Item_is_name) (by decide +kernel)) (fun _ _ _ _ _ => (pg_name (i := 1) nd rfl (by first | exact Or.inl rfl | exact Or.inr rfl))) (fun _ _ _ _ _ => pts_nil) (fun _ _ _ _ _ => (pe_chain op_le_str op_le_str pe_str (pv 1) pe_str))) pa_nil))))), ?_⟩
    refine ⟨v, rfl, ?_⟩
    rcases q with ⟨hn, q⟩ | ⟨x, rfl, hx, q⟩
    · refine ⟨v, .ty "str", _, _, false, rfl, .ty _, ty, kit_ty ?_, false, rfl, iteT (iteT q)⟩
      simp only [kinds, List.mem_cons, List.not_mem_nil, or_false] at ht
      rcases ht with rfl | rfl | rfl | rfl | rfl | rfl | rfl
      all_goals first | decide +kernel | exact absurd rfl hn
    · refine ⟨.str x, .ty "str", _, _, true, rfl, .ty _, .base (.str x), kit_ty (by decide +kernel), true, rfl, iteF ?_⟩
      refine ⟨_, rfl, x, rfl, hx, _, _, rfl, rfl, _, rfl, ?_⟩
      have hlen : x.cps.toList.length = x.length := by simp [Str.length]
      by_cases h1 : (1 : Int) ≤ ((x.length : Nat) : Int)
      · rw [decide_eq_true h1]
        refine iteT ⟨_, _, rfl, rfl, _, rfl, ?_⟩
        by_cases h8 : ((x.length : Nat) : Int) ≤ 8
        · rw [decide_eq_true h8]
          refine iteF ?_
          refine ⟨_, rfl, x, rfl, fun D hD => ?_⟩
          refine lc_it (walk_str (z := x)) (fun i H' => Same H H' ∧ H' D = some (.lst (((x.cps.toList.take i).map signB).map V.bl))) ⟨Same.new hD, upd_same⟩ (fun _ _ _ _ => trivial) ?_ ?_
          · rintro i z H1 H2 hi ⟨b1, b2⟩ ⟨rfl, c, hc, rfl⟩
            have hc' : x.cps.toList[i]? = some c := by rw [Array.getElem?_toList]; exact hc
            have step : x.cps.toList.take (i + 1) = x.cps.toList.take i ++ [c] := by
              rw [List.take_add_one, hc']
              rfl
            have fin : ∀ y, y = V.bl (signB c) → ∃ acc, H2 D = some (.lst acc) ∧ acc.length < sizeLine ∧
                (Same H (upd H2 D (.lst (acc ++ [y]))) ∧ upd H2 D (.lst (acc ++ [y])) D = some (.lst (((x.cps.toList.take (i + 1)).map signB).map V.bl))) := by
              rintro y rfl
              refine ⟨_, b2, ?_, Same.of b1 hD, ?_⟩
              · rw [List.length_map, List.length_map, List.length_take]
                exact Nat.lt_of_le_of_lt (show _ ≤ 8 by omega) (by decide)
              · rw [upd_same, step, List.map_append, List.map_append]
                rfl
            refine ⟨rfl, ?_⟩
            refine ⟨_, rfl, _, _, rfl, rfl, _, rfl, ?_⟩
            rw [lt_a]
            by_cases ha : 97 ≤ c
            · rw [decide_eq_false (show ¬ c < 97 by omega)]
              refine iteT ⟨_, _, rfl, rfl, ?_⟩
              rw [lt_z]
              refine fin _ ?_
              unfold signB
              rw [decide_eq_true ha, Bool.true_and]
              congr 1
              by_cases hz : c ≤ 122
              · rw [decide_eq_true hz, decide_eq_false (by omega)]
                rfl
              · rw [decide_eq_false hz, decide_eq_true (by omega)]
                rfl
            · rw [decide_eq_true (show c < 97 by omega)]
              refine iteF (fin _ ?_)
              unfold signB
              rw [decide_eq_false ha]
              rfl
          · rintro H1 ⟨b1, b2⟩
            refine ⟨D, _, rfl, SqL.of b2, ?_⟩
            have e : nameB x = (List.map signB (x.cps.toList.take x.cps.size)).all id := by
              unfold nameB
              rw [decide_eq_true (show 1 ≤ x.length by omega), decide_eq_true (show x.length ≤ 8 by omega), Bool.true_and, Bool.true_and]
              rw [List.take_of_length_le (by rw [Array.length_toList]; exact Nat.le_refl _), List.all_map]
              rfl
            rw [← e]
            exact q H1 b1
        · rw [decide_eq_false h8]
          refine iteT ?_
          have e : nameB x = false := by
            unfold nameB
            rw [decide_eq_false (show ¬ x.length ≤ 8 by omega), Bool.and_false, Bool.false_and]
          rw [← e]
          exact q H (Same.refl H)
      · rw [decide_eq_false h1]
        refine iteF ⟨_, rfl, ?_⟩
        have e : nameB x = false := by
          unfold nameB
          rw [decide_eq_false (show ¬ 1 ≤ x.length by omega), Bool.false_and, Bool.false_and]
        have q2 := q H (Same.refl H)
        rw [e] at q2
        exact q2
end
end Ask

set_option Elab.async false
set_option linter.all false
set_option maxRecDepth 100000
set_option maxHeartbeats 4000000
namespace Ask
open PySem L2
open PyProof.Rows
section
variable {P : Program} {w : World} {K : PySem.W.Frag} {mg : Str → Option Value} {base : Heap} {a : Ad}
def itF (nm : Str) (lo hi pr : Int) : List (Str × V) := [("_name", .str nm), ("_least", .int lo), ("_greatest", .int hi), ("_price", .int pr)]
theorem itF_put (nm : Str) (lo hi pr : Int) : putF "_price" (.int pr) (putF "_greatest" (.int hi) (putF "_least" (.int lo) (putF "_name" (.str nm) []))) = itF nm lo hi pr := by
  with_unfolding_all rfl
/-- what a new item's price is -/
def prI (lo hi pr : Int) : Int := if lo = hi then 0 else pr
/-- __init__, arguments that form an item -/
def spInit (C : Addr) : Sp := fun vs H Q _ => ∃ (x dx : Addr) (nm : Str) (lo hi pr : Int), vs = [.ref x, .str nm, .int lo, .int hi, .int pr] ∧
  H x = some (.ins C dx []) ∧ nameB nm = true ∧ lo ≤ hi ∧ 1 ≤ pr ∧ pr ≤ 999 ∧
  ∀ H', But x H H' → H' x = some (.ins C dx (itF nm lo hi (prI lo hi pr))) → Q .non H'
theorem name_len {nm : Str} (h : nameB nm = true) : nm.length ≤ 8 := by
  unfold nameB at h
  rw [Bool.and_eq_true, Bool.and_eq_true] at h
  exact of_decide_eq_true h.1.2
theorem ok_init (T : Txt K mg a) : FnOk P w K mg base CX0 3 a.f_Item___init__ a.d_Item___init__ ["self", "name", "least", "greatest", "price"] (spInit a.c_Item) := by
  have G_is_name : FnOk P w K mg base CX0 1 a.f_Item_is_name a.d_Item_is_name ["thing"] (spIsName K) := ok_is_name T
  have Gis_whole : FnOk P w K mg base CX0 1 a.f_is_whole a.d_is_whole ["thing"] (spWhole K) := ok_whole T
  refine T.F_Item___init__.ok sc_Item___init__ (fun vs H Q E h => ?_) (fun cdv A outer s H vs Q E hr h => ?_)
  · obtain ⟨x, dx, nm, lo, hi, pr, rfl, _⟩ := h
    rfl
  · obtain ⟨x, dx, nm, lo, hi, pr, rfl, hx, hn, hlh, p1, p2, k⟩ := h
    have nd := sc_Item___init__.nd
    have hl := name_len hn
    have oS : ∀ H, Obj' K H (.str nm) "str" := fun H => ⟨.base (.str nm), by decide⟩
    have oI : ∀ H (i : Int), Obj' K H (.int i) "int" := fun H i => ⟨.base (.int i), by decide⟩
    refine ⟨_, (pss_cons (ps_if (pt_not (pt_val (pe_smeth (pe_glob (v := .ref a.c_Item) rfl T.g_Item rfl) T.rd_Item T.m_Item_is_name G_is_name (hr.mono (by decide)) T.b_Item_is_name pass0 (pa_cons (pv 1) pa_nil))))
    (pss_one ps_never)
    pss_nil)
  (pss_cons (ps_if (PW.pt (pw_or (pt_not (pt_val (pe_call Gis_whole (hr.mono (by first | decide | omega)) rfl T.g_is_whole T.F_is_whole.kp T.b_is_whole .nil pass0 (pa_cons (pv 2) pa_nil)))) (pw_or1 (pt_not (pt_val (pe_call Gis_whole (hr.mono (by first | decide | omega)) rfl T.g_is_whole T.F_is_whole.kp T.b_is_whole .nil pass0 (pa_cons (pv 3) pa_nil)))))))
    (pss_one ps_never)
    pss_nil)
  (pss_cons (ps_if (pt_cmpR op_gt (pv 2) (pv 3) (nomark _))
    (pss_one ps_never)
    pss_nil)
  (pss_cons (ps_if (PW.pt (pw_or (pt_not (pt_val (pe_call Gis_whole (hr.mono (by first | decide | omega)) rfl T.g_is_whole T.F_is_whole.kp T.b_is_whole .nil pass0 (pa_cons (pv 4) pa_nil)))) (pw_or1 (pt_not (pt_chain op_le op_le pe_int (pv 4) (ClX.pe_cval (pe_glob (v := .ref a.c_Item) rfl T.g_Item rfl)))))))
    (pss_one ps_never)
    pss_nil)
  (pss_cons (ps_fld (pv 0) (pv 1) rfl)
  (pss_cons (ps_fld (pv 0) (pv 2) rfl)
  (pss_cons (ps_fld (pv 0) (pv 3) rfl)
  (pss_one (ps_fld (pv 0) (pe_ifExp (pt_cmpR op_eq (pv 2) (pv 3) (nomark _)) pe_int (pv 4)) rfl))))))))), ?_⟩
    refine ⟨rfl, _, rfl, .str nm, "str", rfl, oS H, .inr ⟨nm, rfl, Nat.le_trans hl (by decide), fun H1 s1 => ?_⟩⟩
    rw [hn]
    have hx1 := s1 _ _ hx
    refine ⟨_, rfl, iteF ?_⟩
    -- the ends of the range
    refine ⟨_, rfl, _, "int", rfl, oI H1 lo, _, rfl, iteF ?_⟩
    refine ⟨_, rfl, _, "int", rfl, oI H1 hi, _, rfl, iteF ?_⟩
    refine ⟨_, rfl, _, rfl, _, _, rfl, rfl, _, rfl, ?_⟩
    rw [decide_eq_false (show ¬ hi < lo by omega)]
    refine iteF ?_
    -- the price
    refine ⟨_, rfl, _, "int", rfl, oI H1 pr, _, rfl, iteF ?_⟩
    refine ⟨_, rfl, _, _, rfl, rfl, _, rfl, ?_⟩
    rw [decide_eq_true p1]
    obtain ⟨u, cv⟩ := T.cv_Item_MOST
    refine iteT ⟨_, _, _, u, rfl, T.rd_Item, cv, _, _, rfl, rfl, _, rfl, ?_⟩
    rw [decide_eq_true p2]
    refine iteF ?_
    -- the fields
    refine ⟨_, rfl, _, rfl, x, _, dx, _, rfl, hx1, T.cl_Item, T.n_Item__name, (by show 0 < 1000; decide), ?_⟩
    refine ⟨_, rfl, _, rfl, x, _, dx, _, rfl, upd_same, T.cl_Item, T.n_Item__least, (by show 1 < 1000; decide), ?_⟩
    refine ⟨_, rfl, _, rfl, x, _, dx, _, rfl, upd_same, T.cl_Item, T.n_Item__greatest, (by show 2 < 1000; decide), ?_⟩
    refine ⟨_, rfl, _, rfl, rfl, _, rfl, ?_⟩
    have fin : ∀ z, z = prI lo hi pr → Q .non (upd (upd (upd (upd H1 x (.ins a.c_Item dx (putF "_name" (.str nm) []))) x (.ins a.c_Item dx (putF "_least" (.int lo) (putF "_name" (.str nm) [])))) x
        (.ins a.c_Item dx (putF "_greatest" (.int hi) (putF "_least" (.int lo) (putF "_name" (.str nm) []))))) x (.ins a.c_Item dx (putF "_price" (.int z) (putF "_greatest" (.int hi) (putF "_least" (.int lo) (putF "_name" (.str nm) [])))))) := by
      rintro z rfl
      refine k _ ?_ ?_
      · intro b o hb e
        rw [upd_ne hb, upd_ne hb, upd_ne hb, upd_ne hb]
        exact s1 b o e
      · rw [upd_same, itF_put]
    by_cases e : lo = hi
    · rw [decide_eq_true (congrArg V.int e)]
      refine iteT ?_
      refine ⟨_, rfl, x, _, dx, _, rfl, upd_same, T.cl_Item, T.n_Item__price, (by show 3 < 1000; decide), ?_⟩
      exact fin 0 (by unfold prI; rw [if_pos e])
    · rw [decide_eq_false (fun q => e (V.int.inj q))]
      refine iteF ?_
      refine ⟨_, rfl, _, rfl, x, _, dx, _, rfl, upd_same, T.cl_Item, T.n_Item__price, (by show 3 < 1000; decide), ?_⟩
      exact fin pr (by unfold prI; rw [if_neg e])
end
end Ask

set_option Elab.async false
set_option linter.all false
set_option maxRecDepth 100000
set_option maxHeartbeats 4000000
namespace Ask
open PySem L2
open PyProof.Rows
section
variable {P : Program} {w : World} {K : PySem.W.Frag} {mg : Str → Option Value} {base : Heap} {a : Ad}
/-- the item (nm, lo, hi, pr) stands at x -/
def ItemAt (C : Addr) (H : Hp) (x : Addr) (nm : Str) (lo hi pr : Int) : Prop := ∃ dx, H x = some (.ins C dx (itF nm lo hi pr))
theorem l_name {nm : Str} {lo hi pr : Int} : (itF nm lo hi pr).lookup (Str.ofString "_name") = some (.str nm) := by with_unfolding_all rfl
theorem l_least {nm : Str} {lo hi pr : Int} : (itF nm lo hi pr).lookup (Str.ofString "_least") = some (.int lo) := by with_unfolding_all rfl
theorem l_greatest {nm : Str} {lo hi pr : Int} : (itF nm lo hi pr).lookup (Str.ofString "_greatest") = some (.int hi) := by with_unfolding_all rfl
theorem l_price {nm : Str} {lo hi pr : Int} : (itF nm lo hi pr).lookup (Str.ofString "_price") = some (.int pr) := by with_unfolding_all rfl
/-- a property: what it tells of the item's parts -/
def spPart (C : Addr) (g : Str → Int → Int → Int → V) : Sp := fun vs H Q _ => ∃ x nm lo hi pr, vs = [.ref x] ∧ ItemAt C H x nm lo hi pr ∧ Q (g nm lo hi pr) H
abbrev spName (C : Addr) : Sp := spPart C fun nm _ _ _ => .str nm
abbrev spLeast (C : Addr) : Sp := spPart C fun _ lo _ _ => .int lo
abbrev spGreatest (C : Addr) : Sp := spPart C fun _ _ hi _ => .int hi
abbrev spIsExact (C : Addr) : Sp := spPart C fun _ lo hi _ => .bl (decide (lo = hi))
theorem ok_name (T : Txt K mg a) : FnOk P w K mg base CX0 1 a.f_Item_name a.d_Item_name ["self"] (spName a.c_Item) := by
  refine T.F_Item_name.ok sc_Item_name (fun vs H Q E h => ?_) (fun cdv A outer s H vs Q E hr h => ?_)
  · obtain ⟨x, nm, lo, hi, pr, rfl, _⟩ := h
    rfl
  · obtain ⟨x, nm, lo, hi, pr, rfl, ⟨dx, hx⟩, q⟩ := h
    exact ⟨_, (pss_one (ps_ret (pe_fld (pv 0) rfl))), _, rfl, x, _, dx, _, _, rfl, hx, T.cl_Item, T.n_Item__name, l_name, q⟩
theorem ok_least (T : Txt K mg a) : FnOk P w K mg base CX0 1 a.f_Item_least a.d_Item_least ["self"] (spLeast a.c_Item) := by
  refine T.F_Item_least.ok sc_Item_least (fun vs H Q E h => ?_) (fun cdv A outer s H vs Q E hr h => ?_)
  · obtain ⟨x, nm, lo, hi, pr, rfl, _⟩ := h
    rfl
  · obtain ⟨x, nm, lo, hi, pr, rfl, ⟨dx, hx⟩, q⟩ := h
    exact ⟨_, (pss_one (ps_ret (pe_fld (pv 0) rfl))), _, rfl, x, _, dx, _, _, rfl, hx, T.cl_Item, T.n_Item__least, l_least, q⟩
theorem ok_greatest (T : Txt K mg a) : FnOk P w K mg base CX0 1 a.f_Item_greatest a.d_Item_greatest ["self"] (spGreatest a.c_Item) := by
  refine T.F_Item_greatest.ok sc_Item_greatest (fun vs H Q E h => ?_) (fun cdv A outer s H vs Q E hr h => ?_)
  · obtain ⟨x, nm, lo, hi, pr, rfl, _⟩ := h
    rfl
  · obtain ⟨x, nm, lo, hi, pr, rfl, ⟨dx, hx⟩, q⟩ := h
    exact ⟨_, (pss_one (ps_ret (pe_fld (pv 0) rfl))), _, rfl, x, _, dx, _, _, rfl, hx, T.cl_Item, T.n_Item__greatest, l_greatest, q⟩
theorem ok_is_exact (T : Txt K mg a) : FnOk P w K mg base CX0 1 a.f_Item_is_exact a.d_Item_is_exact ["self"] (spIsExact a.c_Item) := by
  refine T.F_Item_is_exact.ok sc_Item_is_exact (fun vs H Q E h => ?_) (fun cdv A outer s H vs Q E hr h => ?_)
  · obtain ⟨x, nm, lo, hi, pr, rfl, _⟩ := h
    rfl
  · obtain ⟨x, nm, lo, hi, pr, rfl, ⟨dx, hx⟩, q⟩ := h
    refine ⟨_, (pss_one (ps_ret (pe_cmpR op_eq (pe_fld (pv 0) rfl) (pe_fld (pv 0) rfl) (nomark _)))), _, rfl, x, _, dx, _, _, rfl, hx, T.cl_Item, T.n_Item__least, l_least, _, rfl, x, _, dx, _, _, rfl, hx, T.cl_Item, T.n_Item__greatest, l_greatest, rfl, ?_⟩
    rw [dV_int]
    exact q
end
end Ask

set_option Elab.async false
set_option linter.all false
set_option maxRecDepth 100000
set_option maxHeartbeats 4000000
namespace Ask
open PySem L2
open PyProof.Rows
local macro_rules | `(tactic| walk_at "h") => `(tactic| first
  | assumption | exact upd_same
  | (refine Eq.trans (upd_ne (by first | assumption | exact Ne.symm (by assumption) | exact ne_of_none (by walk_at "h") (by assumption))) ?_; walk_at "h"))
local macro_rules | `(tactic| walk_at "rd") => `(tactic| repeat (first
  | (refine ⟨_, rfl, ?_⟩) | (refine ⟨_, _, rfl, rfl, ?_⟩)
  | (apply rd_ixL 0; walk_at "h"; exact rfl)
  | (apply rd_ixL 1; walk_at "h"; exact rfl)
  | (apply rd_ixL 2; walk_at "h"; exact rfl)
  | (refine ⟨by show (0 : Int) < _; decide, ?_⟩)
  | (refine ⟨.inr ⟨by decide, by decide⟩, ?_⟩)
  | (refine iteT ?_) | (refine iteF ?_)))
section
variable {P : Program} {w : World} {K : PySem.W.Frag} {mg : Str → Option Value} {base : Heap} {a : Ad}
theorem ok_pen (T : Txt K mg a) :
    FnOk P w K mg base CX0 1 a.f__law_pen a.d__law_pen ["script"] (spPen K) := by
  refine T.F__law_pen.ok sc__law_pen (fun vs H Q E h => ?_) (fun cdv A outer s H vs Q E hr h => ?_)
  · obtain ⟨a, ns, rfl, _⟩ := h
    rfl
  · obtain ⟨a, ns, rfl, hS, hl, k⟩ := h
    refine ⟨_, (pss_one (ps_ret (pe_lst (pa_cons (pe_callTy call_list_of (by rfl) T.b_list (by decide +kernel) (pa_cons (pe_slice sl_list (pv 0) po_none (po_some pe_int)) pa_nil)) (pa_cons pe_int (pa_cons pe_int pa_nil)))))), ?_⟩
    refine ⟨_, rfl, _, rfl, a, _, rfl, hS, fun q hq => ?_⟩
    refine ⟨q, _, rfl, .inl (SqL.of upd_same), fun l hl' => ?_⟩
    refine ⟨by show 3 ≤ sizeLine; decide, fun p hp => ?_⟩
    have nlq : l ≠ q := fun z => by
      rw [z, upd_same] at hl'
      cases hl'
    have npl : p ≠ l := fun z => by
      rw [z, upd_same] at hp
      cases hp
    have npq : p ≠ q := fun z => by
      rw [z, upd_ne nlq.symm, upd_same] at hp
      cases hp
    have hl0 : H l = none := by
      rw [upd_ne nlq] at hl'
      exact hl'
    have hp0 : H p = none := by
      rw [upd_ne npl, upd_ne npq] at hp
      exact hp
    refine k p _ hp0 ?_ ⟨l, 0, 0, ns.take 60, upd_same, ?_, by omega, by omega, by omega, ?_⟩
    · intro b o hb e
      rw [upd_ne hb, upd_ne (ne_of_none e hl0), upd_ne (ne_of_none e hq)]
      exact e
    · rw [upd_ne npl.symm, upd_same]
      rw [show (60 : Int) = ((60 : Nat) : Int) from rfl, cut_ints]
    · rw [List.length_take]
      omega
theorem ok_next (T : Txt K mg a) :
    FnOk P w K mg base CX0 1 a.f__law_next a.d__law_next ["pen"] spNext := by
  refine T.F__law_next.ok sc__law_next (fun vs H Q E h => ?_) (fun cdv A outer s H vs Q E hr h => ?_)
  · obtain ⟨p, n, l, i, v, ns, rfl, _⟩ := h
    rfl
  · obtain ⟨p, n, l, i, v, ns, rfl, hp, hl, i0, i1, n1, hns, k⟩ := h
    have nd := sc__law_next.nd
    have npl : l ≠ p := ne_of hl hp (by
      intro q
      have q2 := HO.lst.inj q
      cases ns with
      | nil => cases q2
      | cons a r => cases q2)
    refine ⟨_, (pss_cons (ps_set (i := 1) nd rfl (by first | exact Or.inl rfl | exact Or.inr rfl) (pe_ix ix_list (pv 0) pe_int (fun _ _ => rfl)))
  (pss_cons (ps_asg (pe_op op_add (pv 1) pe_int) (pg_sub (pv 0) pe_int set_list))
  (pss_cons (ps_set (i := 2) nd rfl (by first | exact Or.inl rfl | exact Or.inr rfl) (pe_op op_add (pe_op op_mul (pv 1) pe_int) pe_int))
  (Evl.pss_cut (ps_if (pt_cmpR (op_neD hr.units) (pe_ix ix_list (pv 0) pe_int (fun _ _ => rfl)) (pe_lst pa_nil) (nomark _))
    (pss_one (ps_set (i := 2) nd rfl (by first | exact Or.inl rfl | exact Or.inr rfl) (pe_ix ix_list (pe_ix ix_list (pv 0) pe_int (fun _ _ => rfl)) (pe_op op_mod (pv 1) (pe_callB call_len_seq (by rfl) T.b_len PySem.boot_len (pa_cons (pe_ix ix_list (pv 0) pe_int (fun _ _ => rfl)) pa_nil))) (fun _ _ => rfl))))
    pss_nil)
  (Evl.pss_cut (ps_if (PW.pt (pw_and (pt_cmpR op_lt (pv 1) (pe_callB call_len_seq (by rfl) T.b_len PySem.boot_len (pa_cons (pe_ix ix_list (pv 0) pe_int (fun _ _ => rfl)) pa_nil)) (nomark _)) (pw_and1 (pt_cmpR op_ge (pv 2) (pe_op op_pow pe_int pe_int) (nomark _)))))
    (pss_one (ps_ret (pv 2)))
    pss_nil)
  (Evl.pss_cut (ps_set (i := 3) nd rfl (by first | exact Or.inl rfl | exact Or.inr rfl) (pe_op op_mod (pe_op op_add (pe_op op_add (pe_op op_mod (pv 2) pe_int) (pe_op op_mul (pv 1) pe_int)) pe_int) pe_int))
  (Evl.pss_cut (ps_set (i := 4) nd rfl (by first | exact Or.inl rfl | exact Or.inr rfl) (pe_op op_mod (pe_op op_add (pe_op op_add (pe_op op_mul (pv 3) (pv 3)) (pe_op op_mul (pv 1) pe_int)) pe_int) pe_int))
  (Evl.pss_cut (ps_set (i := 5) nd rfl (by first | exact Or.inl rfl | exact Or.inr rfl) (pe_op op_mod (pe_op op_add (pe_op op_add (pe_op op_mul (pv 4) (pv 4)) (pv 3)) (pe_op op_mul (pe_op op_mul (pv 1) (pv 1)) pe_int)) pe_int))
  (pss_one (ps_ret (pe_op op_add (pe_op op_mul (pe_op op_add (pe_op op_mul (pv 5) pe_int) (pv 4)) pe_int) (pv 3)))))))))))), ?_⟩
    walk_at "rd"
    refine ⟨p, _, _, 1, rfl, rfl, hp, rfl, ?_⟩
    walk_at "rd"
    have hp' : upd H p (.lst [.ref l, .int (i + 1), .int v]) p = some (.lst [.ref l, .int (i + 1), .int v]) := upd_same
    have hl' : upd H p (.lst [.ref l, .int (i + 1), .int v]) l = some (.lst (ns.map V.int)) := by
      rw [upd_ne npl]
      exact hl
    show Evl.tCut _ _ _ _ _
    refine ⟨fun σ' H' => ∃ c : Int, σ' = [some (.ref p), some (.int i), some (.int c), none, none, none] ∧
      H' p = some (.lst [.ref l, .int (i + 1), .int v]) ∧ H' l = some (.lst (ns.map V.int)) ∧ (∀ z : Int, 0 ≤ z → Q (.int z) H'), ?_, ?_⟩
    · walk_at "rd"
      refine ⟨Nat.zero_le _, fun q hq => ?_⟩
      have nql : l ≠ q := ne_of_none hl' hq
      have nqp : p ≠ q := ne_of_none hp' hq
      have hp3 : upd (upd H p (.lst [.ref l, .int (i + 1), .int v])) q (.lst []) p = some (.lst [.ref l, .int (i + 1), .int v]) := by
        rw [upd_ne nqp]
        exact hp'
      have hl3 : upd (upd H p (.lst [.ref l, .int (i + 1), .int v])) q (.lst []) l = some (.lst (ns.map V.int)) := by
        rw [upd_ne nql]
        exact hl'
      refine ⟨_, _, .lst (SqL.of hl3) (dp_ints ns), .lst (SqL.of upd_same) .nil, shaped_ints ns, rfl, _, rfl, ?_⟩
      rw [ne_nil]
      have k3 : ∀ z : Int, 0 ≤ z → Q (.int z) (upd (upd H p (.lst [.ref l, .int (i + 1), .int v])) q (.lst [])) := fun z hz => k z hz _ (But.trans But.upd (But.new hq)) hp3
      cases ns with
      | nil => exact iteF ⟨_, rfl, hp3, hl3, k3⟩
      | cons a r =>
        refine iteT ?_
        walk_at "rd"
        refine ⟨_, _, rfl, .inl (SqL.of (by walk_at "h")), ?_⟩
        walk_at "rd"
        obtain ⟨j, ej, hj⟩ := mod_below i (n := (List.map V.int (a :: r)).length) (by rw [List.length_map]; exact Nat.succ_pos _)
        obtain ⟨c, hc⟩ := ints_at (ns := a :: r) (j := j) (by rw [List.length_map] at hj; exact hj)
        refine ⟨by rw [List.length_map]; show (0 : Int) < ((r.length + 1 : Nat) : Int); omega, ?_⟩
        refine ⟨l, _, _, .int c, rfl, rfl, SqL.of (by walk_at "h"), by rw [ej]; exact atI_nat hc, ?_⟩
        exact ⟨c, rfl, hp3, hl3, k3⟩
    · rintro σ' H' ⟨c, rfl, hp2, hl2, k2⟩
      have hi : -(2 ^ 64) < i ∧ i < 2 ^ 64 := ⟨by omega, by omega⟩
      refine ⟨fun σ' H2 => σ' = [some (.ref p), some (.int i), some (.int c), none, none, none] ∧ H2 = H', ?_, ?_⟩
      · walk_at "rd"
        refine ⟨_, _, rfl, .inl (SqL.of (by walk_at "h")), ?_⟩
        walk_at "rd"
        refine ite2 (fun hc => ?_) (fun hc => ?_)
        · walk_at "rd"
          refine ⟨⟨by decide, by decide, by decide⟩, ?_⟩
          walk_at "rd"
          refine ite2 (fun hd => ?_) (fun hd => ?_)
          · walk_at "rd"
            refine k2 c ?_
            have h := of_decide_eq_true hd
            have e : (10 : Int) ^ (18 : Int).toNat = 1000000000000000000 := by decide
            rw [e] at h
            omega
          · exact ⟨rfl, rfl⟩
        · exact iteF ⟨rfl, rfl⟩
      · rintro σ' H2' ⟨rfl, rfl⟩
        refine ⟨fun σ' H2 => ∃ low : Int, (0 ≤ low ∧ low < 2147483587) ∧ σ' = [some (.ref p), some (.int i), some (.int c), some (.int low), none, none] ∧ H2 = H2', ?_, ?_⟩
        · walk_at "rd"
          exact ⟨_, ⟨Int.emod_nonneg _ (by decide), Int.emod_lt_of_pos _ (by decide)⟩, rfl, rfl⟩
        · rintro σ' H2 ⟨low, ⟨l0, l1⟩, rfl, rfl⟩
          refine ⟨fun σ' H3 => ∃ mid : Int, (0 ≤ mid ∧ mid < 2147483563) ∧ σ' = [some (.ref p), some (.int i), some (.int c), some (.int low), some (.int mid), none] ∧ H3 = H2, ?_, ?_⟩
          · walk_at "rd"
            refine ⟨.inl ⟨by omega, by omega⟩, ?_⟩
            walk_at "rd"
            exact ⟨_, ⟨Int.emod_nonneg _ (by decide), Int.emod_lt_of_pos _ (by decide)⟩, rfl, rfl⟩
          · rintro σ' H3 ⟨mid, ⟨m0, m1⟩, rfl, rfl⟩
            refine ⟨fun σ' H4 => ∃ top : Int, (0 ≤ top ∧ top < 2147483549) ∧ σ' = [some (.ref p), some (.int i), some (.int c), some (.int low), some (.int mid), some (.int top)] ∧ H4 = H3, ?_, ?_⟩
            · walk_at "rd"
              refine ⟨.inl ⟨by omega, by omega⟩, ?_⟩
              walk_at "rd"
              refine ⟨.inl hi, ?_⟩
              walk_at "rd"
              exact ⟨_, ⟨Int.emod_nonneg _ (by decide), Int.emod_lt_of_pos _ (by decide)⟩, rfl, rfl⟩
            · rintro σ' H4 ⟨top, ⟨t0, t1⟩, rfl, rfl⟩
              walk_at "rd"
              exact k2 _ (by omega)
end
section
variable {P : Program} {w : World} {K : PySem.W.Frag} {mg : Str → Option Value} {base : Heap} {a : Ad}
/-- the pen's list of cells stays the same one -/
def SameL (p : Addr) (H H' : Hp) : Prop := ∀ l i v, H p = some (.lst [.ref l, .int i, .int v]) → ∃ i' v', H' p = some (.lst [.ref l, .int i', .int v'])
theorem SameL.trans {p : Addr} {H H1 H2 : Hp} (a : SameL p H H1) (b : SameL p H1 H2) : SameL p H H2 := fun l i v e => by
  obtain ⟨i', v', e'⟩ := a l i v e
  exact b l i' v' e'
theorem SameL.new {p q : Addr} {H : Hp} {o : HO} (e : p ≠ q) : SameL p H (upd H q o) := fun l i v z => ⟨i, v, by rw [upd_ne e]; exact z⟩
theorem SameL.of {p : Addr} {H H' : Hp} (s : Same H H') : SameL p H H' := fun l i v z => ⟨i, v, s _ _ z⟩
def spDrawL : Sp := fun vs H Q _ => ∃ (p : Addr) (n : Nat) (b : Int), vs = [.ref p, .int b] ∧ Pen H p n ∧ n ≤ 1000000 ∧
  0 < b ∧ b < 2 ^ 200 ∧ ∀ (z : Int) H', 0 ≤ z → z < b → But p H H' → Pen H' p (n + 1) → SameL p H H' → Q (.int z) H'
theorem ok_drawL (T : Txt K mg a) : FnOk P w K mg base CX0 2 a.f__law_draw a.d__law_draw ["pen", "below"] spDrawL := by
  have G_law_next : FnOk P w K mg base CX0 1 a.f__law_next a.d__law_next ["pen"] spNext := ok_next T
  refine T.F__law_draw.ok sc__law_draw (fun vs H Q E h => ?_) (fun cdv A outer s H vs Q E hr h => ?_)
  · obtain ⟨p, n, b, rfl, _⟩ := h
    rfl
  · obtain ⟨p, n, b, rfl, ⟨l, i, v, ns, hp, hl, i0, i1, v0, hns⟩, n1, b0, b1, k⟩ := h
    have nd := sc__law_draw.nd
    refine ⟨_, (Evl.pss_cut (ps_if (pt_cmpR op_lt (pe_ix ix_list (pv 0) pe_int (fun _ _ => rfl)) (pv 1) (nomark _))
    (pss_one (ps_asg (pe_call G_law_next (hr.mono (by first | decide | omega)) rfl T.g__law_next T.F__law_next.kp T.b__law_next .nil pass0 (pa_cons (pv 0) pa_nil)) (pg_sub (pv 0) pe_int set_list)))
    pss_nil)
  (pss_cons (ps_set (i := 2) nd rfl (by first | exact Or.inl rfl | exact Or.inr rfl) (pe_op op_mod (pe_ix ix_list (pv 0) pe_int (fun _ _ => rfl)) (pv 1)))
  (pss_cons (ps_asg (pe_op op_fdivW (pe_ix ix_list (pv 0) pe_int (fun _ _ => rfl)) (pv 1)) (pg_sub (pv 0) pe_int set_list))
  (pss_one (ps_ret (pv 2)))))), ?_⟩
    refine ⟨fun σ' H' => ∃ j u : Int, σ' = [some (.ref p), some (.int b), none] ∧ H' p = some (.lst [.ref l, .int j, .int u]) ∧
      0 ≤ j ∧ j ≤ i + 1 ∧ 0 ≤ u ∧ But p H H', ?_, ?_⟩
    · walk_at "rd"
      refine ite2 (fun hc => ?_) (fun hc => ?_)
      · walk_at "rd"
        refine ⟨p, n, l, i, v, ns, rfl, hp, hl, i0, i1, n1, hns, fun z hz H' hb' hp' => ?_⟩
        walk_at "rd"
        refine ⟨p, _, _, 2, rfl, rfl, hp', rfl, ?_⟩
        exact ⟨i + 1, z, rfl, upd_same, by omega, by omega, hz, But.trans hb' But.upd⟩
      · exact ⟨i, v, rfl, hp, i0, by omega, v0, But.refl p H⟩
    · rintro σ' H' ⟨j, u, rfl, hp', j0, j1, u0, hb'⟩
      walk_at "rd"
      refine ⟨b0, ?_⟩
      walk_at "rd"
      refine ⟨⟨b0, Nat.lt_of_lt_of_le (PySem.Flt.log2_lt_of (by decide : 0 < 200) (by omega)) (by decide)⟩, ?_⟩
      walk_at "rd"
      refine ⟨p, _, _, 2, rfl, rfl, hp', rfl, ?_⟩
      walk_at "rd"
      have nlp : l ≠ p := by
        refine ne_of hl hp ?_
        intro q
        have q2 := HO.lst.inj q
        cases ns with
        | nil => cases q2
        | cons a r => cases q2
      refine k _ _ (Int.emod_nonneg _ (by omega)) (Int.emod_lt_of_pos _ b0) (But.trans hb' But.upd) ⟨l, j, _, ns, upd_same, ?_, j0, by omega, ?_, hns⟩ ?_
      · rw [upd_ne nlp]
        exact hb' _ _ nlp hl
      · exact Int.ediv_nonneg u0 (by omega)
      · intro l2 i2 v2 e
        rw [hp] at e
        cases e
        exact ⟨_, _, upd_same⟩
theorem ok_draw (T : Txt K mg a) : FnOk P w K mg base CX0 2 a.f__law_draw a.d__law_draw ["pen", "below"] spDraw :=
  (ok_drawL T).imp fun vs H Q E ⟨p, n, b, e, hp, h1, h2, h3, k⟩ => ⟨p, n, b, e, hp, h1, h2, h3, fun z H' z0 z1 b1 p1 _ => k z H' z0 z1 b1 p1⟩
end
end Ask

set_option Elab.async false
set_option linter.all false
set_option maxRecDepth 100000
set_option maxHeartbeats 4000000
set_option pp.deepTerms false
set_option pp.deepTerms.threshold 14
namespace Ask
open PySem L2
open PyProof.Rows
section
variable {P : Program} {w : World} {K : PySem.W.Frag} {mg : Str → Option Value} {base : Heap} {a : Ad}
/-- at x: the item of the row r -/
def ItemIs (C : Addr) (H : Hp) (x : Addr) (r : Rw) : Prop := ItemAt C H x r.nm r.lo r.hi r.pr
theorem ItemIs.same {C : Addr} {H H' : Hp} {x : Addr} {r : Rw} (h : ItemIs C H x r) (s : Same H H') : ItemIs C H' x r := by
  obtain ⟨dx, h⟩ := h
  exact ⟨dx, s _ _ h⟩
abbrev Items (C : Addr) (H : Hp) (as : List Addr) (rs : List Rw) : Prop := Paired (ItemIs C H) as rs
theorem paired_map {α β : Type} {F G : α → β → Prop} (h : ∀ x y, F x y → G x y) : ∀ {xs : List α} {ys : List β}, Paired F xs ys → Paired G xs ys := paired_imp h
theorem Items.same {C : Addr} {H H' : Hp} {as : List Addr} {rs : List Rw} (h : Items C H as rs) (s : Same H H') : Items C H' as rs := paired_imp (fun _ _ z => ItemIs.same z s) h
theorem Items.at {C : Addr} {H : Hp} {as : List Addr} {rs : List Rw} (h : Items C H as rs) {i : Nat} {v : V} (e : (as.map V.ref)[i]? = some v) : ∃ x r, v = .ref x ∧ as[i]? = some x ∧ rs[i]? = some r ∧ ItemIs C H x r := by
  rw [List.getElem?_map] at e
  cases e2 : as[i]? with
  | none => rw [e2] at e; cases e
  | some x =>
    rw [e2] at e
    obtain ⟨r, e3, z⟩ := LiI.paired_get h e2
    exact ⟨x, r, (Option.some.inj e).symm, rfl, e3, z⟩
/-- _check_items, all of them items -/
def spCheck (C : Addr) : Sp := fun vs H Q _ => ∃ t as rs, vs = [.ref t] ∧ H t = some (.tup (as.map V.ref)) ∧ Items C H as rs ∧ Q .non H
theorem ok_check (T : Txt K mg a) : FnOk P w K mg base CX0 1 a.f__check_items a.d__check_items ["things"] (spCheck a.c_Item) := by
  refine T.F__check_items.ok sc__check_items (fun vs H Q E h => ?_) (fun cdv A outer s H vs Q E hr h => ?_)
  · obtain ⟨t, as, rs, rfl, _⟩ := h
    rfl
  · obtain ⟨t, as, rs, rfl, ht, hi, q⟩ := h
    have nd := sc__check_items.nd
    refine ⟨_, (pss_one (ps_for PassesOwn.never rfl (pi_tup (pv 0)) (pg_name (i := 1) nd rfl (by first | exact Or.inl rfl | exact Or.inr rfl))
    (pss_one (ps_if (pt_not (pt_val (pe_callB call_isi (by rfl) T.b_isinstance (by decide +kernel) (pa_cons (pv 1) (pa_cons (pe_glob (v := .ref a.c_Item) rfl T.g_Item rfl) pa_nil)))))
    (pss_one ps_never)
    pss_nil)))), ?_⟩
    refine ⟨_, rfl, t, rfl, ⟨_, SqT.of ht⟩, for_tup (xs := as.map V.ref) (fun _ σ' H' => H' = H ∧ ∃ v, σ' = [some (.ref t), v]) ⟨rfl, none, rfl⟩ (fun _ _ H' _ ⟨e, _⟩ => by rw [e]; exact SqT.of ht) ?_ ?_⟩
    · rintro i v σ' H' e ⟨rfl, v0, rfl⟩
      obtain ⟨x, r, rfl, _, _, dx, hx⟩ := hi.at e
      refine ⟨_, rfl, .ref x, .ref a.c_Item, _, _, true, rfl, .own _, T.ty_Item.of T.cl_Item hx, kit_self, true, rfl, iteF ?_⟩
      exact ⟨rfl, _, rfl⟩
    · rintro σ' H' ⟨rfl, _⟩
      exact q
/-- Pool.__init__, items of different names -/
def spPInit (C CI : Addr) : Sp := fun vs H Q _ => ∃ (x dx t : Addr) (as : List Addr) (rs : List Rw), vs = [.ref x, .ref t] ∧ H x = some (.ins C dx []) ∧ H t = some (.tup (as.map V.ref)) ∧ Items CI H as rs ∧ (rs.map (·.nm)).Nodup ∧ rs.length < 64 ∧
  ∀ H' d as' rs', But x H H' → H' x = some (.ins C dx [("_by_name", .ref d)]) → H' d = some (.dK (ents as' rs')) → Items CI H' as' rs' → (∀ r, r ∈ rs' ↔ r ∈ rs) → Asc rs' → Q .non H'
theorem ok_pinit (T : Txt K mg a) : ∀ (cdv : Value) (A : Around) (outer : List Env) (s : Shared) (H : Hp) (vs : List V) (Q : VK) (E : XK), Room 2 (A.deeper (envOfC "Pool.__init__" (defScope s_Pool___init__) s.heap.objs.size a.f_Pool___init__ cdv)) → spPInit a.c_Pool a.c_Item vs H Q E →
    ∃ t, PSs (cxOf CX0 P w K mg base ["self", "items", "found", "item", "name"] "Pool.__init__" (defScope s_Pool___init__) a.f_Pool___init__ cdv A outer s H E) (defBody s_Pool___init__) t ∧ t { nx := fun _ H' => Q .non H', rt := Q } (start ["self", "items", "found", "item", "name"] vs) H := by
  have G_check_items : FnOk P w K mg base CX0 1 a.f__check_items a.d__check_items ["things"] (spCheck a.c_Item) := ok_check T
  have G_name : FnOk P w K mg base CX0 1 a.f_Item_name a.d_Item_name ["self"] (spName a.c_Item) := ok_name T
  intro cdv A outer s H vs Q E hr h
  obtain ⟨x, dx, t, as, rs, rfl, hx, ht, hi, hn, hl, k⟩ := h
  have nd := sc_Pool___init__.nd
  refine ⟨_, PSs.nox (pss_cons (ps_expr (pe_call G_check_items (hr.mono (by first | decide | omega)) rfl T.g__check_items T.F__check_items.kp T.b__check_items .nil pass0 (pa_cons (pv 1) pa_nil)))
  (Evl.pss_cut (ps_set (i := 2) nd rfl (by first | exact Or.inl rfl | exact Or.inr rfl) pe_dnewK)
  (Evl.pss_cut (ps_for PassesOwn.never rfl (pi_tup (pv 1)) (pg_name (i := 3) nd rfl (by first | exact Or.inl rfl | exact Or.inr rfl))
    (pss_cons (ps_if (pt_cmp (pc_din (hu_of hr) (pe_prop (pv 3) T.cl_Item T.m_Item_name G_name (hr.mono (by decide)) T.b_Item_name .nil pass0 rfl) (pv 2)))
    (pss_one ps_never)
    pss_nil)
  (pss_one (ps_dput (hu_of hr) (pv 2) (pe_prop (pv 3) T.cl_Item T.m_Item_name G_name (hr.mono (by decide)) T.b_Item_name .nil pass0 rfl) (pv 3) rfl))))
  (pss_one (ps_fld (pv 0) (pe_dc (own := [("name", 4)]) (g := gName 4) (tt := tYes) rfl nd (pi_list (pe_callB (call_sortedD rfl) (by rfl) T.b_sorted (by decide +kernel) (pa_cons (pv 2) pa_nil))) (blkOk_by (N := ["self", "items", "found", "item", "name"]) (sc := defScope s_Pool___init__) (by decide +kernel)) (fun _ _ _ _ _ => (pg_name (i := 4) nd rfl (by first | exact Or.inl rfl | exact Or.inr rfl))) (fun _ _ _ _ _ => pts_nil) (fun _ _ _ _ _ => (pv 4)) (fun _ _ _ _ _ => (pe_dget (hu_of hr) (pv 2) (pv 4) (fun _ _ => rfl)))) rfl))))), ?_⟩
  refine ⟨_, rfl, t, as, rs, rfl, ht, hi, ?_⟩
  have hlen : as.length = rs.length := paired_len hi
  -- found
  refine ⟨fun σ' H' => ∃ D, H D = none ∧ σ' = [some (.ref x), some (.ref t), some (.ref D), none, none] ∧ H' = upd H D (.dK []), fun D hD => ⟨D, hD, rfl, rfl⟩, ?_⟩
  rintro σ1 H1 ⟨D, hD, rfl, rfl⟩
  have nxD : x ≠ D := ne_of_none hx hD
  have S1 := Same.new hD (o := .dK [])
  -- the loop
  refine ⟨fun σ' H' => ∃ v, σ' = [some (.ref x), some (.ref t), some (.ref D), v, none] ∧ H' D = some (.dK (ents as rs)) ∧ But D (upd H D (.dK [])) H', ?_, ?_⟩
  · refine ⟨_, rfl, t, rfl, ⟨_, SqT.of (S1 _ _ ht)⟩, for_tup (xs := as.map V.ref) (fun i σ' H' => ∃ v, σ' = [some (.ref x), some (.ref t), some (.ref D), v, none] ∧ H' D = some (.dK (ents (as.take i) (rs.take i))) ∧ But D (upd H D (.dK [])) H')
      ⟨none, rfl, upd_same, But.refl _ _⟩ (fun _ _ H' _ ⟨_, _, _, b⟩ => SqT.of (b _ _ (ne_of_none ht hD) (S1 _ _ ht))) ?_ ?_⟩
    · rintro i v σ' H' e ⟨v0, rfl, hd, b⟩
      obtain ⟨y, r, rfl, ea, er, hy⟩ := hi.at e
      have hy' : ItemIs a.c_Item H' y r := by
        obtain ⟨dy, hy⟩ := hy
        exact ⟨dy, b _ _ (ne_of_none hy hD) (S1 _ _ hy)⟩
      obtain ⟨dy, hy2⟩ := id hy'
      have lt : (as.take i).length = (rs.take i).length := paired_take hi i
      have fresh : r.nm ∉ (rs.take i).map (·.nm) := by
        have hn' := hn
        have sp : rs.map (·.nm) = (rs.take i).map (·.nm) ++ (r.nm :: (rs.drop (i + 1)).map (·.nm)) := by
          have hlt : i < rs.length := (List.getElem?_eq_some_iff.mp er).1
          have e3 : rs.drop i = r :: rs.drop (i + 1) := by
            rw [List.drop_eq_getElem_cons hlt]
            congr 1
            exact (List.getElem?_eq_some_iff.mp er).2
          rw [← List.map_cons, ← e3, ← List.map_append, List.take_append_drop]
        rw [sp, List.nodup_append] at hn'
        intro m
        exact hn'.2.2 _ m _ List.mem_cons_self rfl
      have nv : valV (ents (as.take i) (rs.take i)) (Sum.inr r.nm : Key) = none := ents_none fresh
      refine ⟨_, rfl, y, dy, _, rfl, hy2, y, _, _, _, _, rfl, hy', _, rfl, D, _, rfl, DGet.k (k := Sum.inr r.nm) hd, _, rfl, ?_⟩
      rw [nv]
      refine iteF ⟨_, rfl, _, rfl, _, rfl, y, dy, _, rfl, hy2, y, _, _, _, _, rfl, hy', D, _, rfl, DPut.k (k := Sum.inr r.nm) hd ?_, ?_⟩
      · rw [ents_len lt, List.length_take]
        exact Nat.lt_of_lt_of_le (show _ < 64 by omega) (by decide)
      · refine ⟨_, rfl, ?_, b.trans But.upd⟩
        rw [upd_same, putK_new _ nv, take_snoc ea, take_snoc er, ents_snoc lt]
    · rintro σ' H' ⟨v0, rfl, hd, b⟩
      have e1 : as.take (as.map V.ref).length = as := by rw [List.length_map]; exact List.take_length
      have e2 : rs.take (as.map V.ref).length = rs := by rw [List.length_map, hlen]; exact List.take_length
      rw [e1, e2] at hd
      exact ⟨_, rfl, hd, b⟩
  · rintro σ2 H2 ⟨v, rfl, hd, b⟩
    refine ⟨_, rfl, D, _, rs.map (·.nm), rfl, .inl hd, ents_keys hlen, by rw [List.length_map]; exact hl, fun ys p perm srt hp => ?_⟩
    have ndy : ys.Nodup := perm.symm.nodup hn
    have asc : ys.Pairwise ltS := sortedS_lt srt ndy
    obtain ⟨as', rs', en, pr⟩ := pick_rows hlen ys (fun y hy => perm.subset hy)
    have hl' : as'.length = rs'.length := paired_len pr
    have ly : ys.length = rs'.length := by rw [← en, List.length_map]
    have ly2 : ys.length < 64 := by rw [perm.length_eq, List.length_map]; exact hl
    have nDp : D ≠ p := ne_of_none hd hp
    have S2 := Same.new hp (o := .lst (ys.map V.str))
    refine ⟨p, rfl, ⟨_, SqL.of upd_same⟩, fun E0' hE => ?_⟩
    refine dc_list (K := K) (a := p) (xs := ys.map V.str) (fun i H' => H' E0' = some (.dK (ents (as'.take i) (rs'.take i))) ∧ But E0' (upd H2 p (.lst (ys.map V.str))) H') ⟨upd_same, But.upd⟩ (fun _ H' _ ⟨_, b'⟩ => SqL.of (b' _ _ (ne_of_none upd_same hE) upd_same)) ?_ ?_
    · rintro i v H' e ⟨h1, b'⟩
      rw [List.getElem?_map] at e
      cases ey : ys[i]? with
      | none => rw [ey] at e; cases e
      | some y =>
        rw [ey] at e
        obtain rfl : V.str y = v := Option.some.inj e
        have er0 : (rs'.map (·.nm))[i]? = some y := by rw [en]; exact ey
        rw [List.getElem?_map] at er0
        cases er : rs'[i]? with
        | none => rw [er] at er0; cases er0
        | some r =>
          rw [er] at er0
          obtain rfl : r.nm = y := Option.some.inj er0
          have hlt : i < rs'.length := (List.getElem?_eq_some_iff.mp er).1
          have ea : as'[i]? = some (as'[i]'(by omega)) := List.getElem?_eq_getElem _
          obtain ⟨r2, er2, j, ja, jr⟩ := LiI.paired_get pr ea
          obtain rfl : r = r2 := Option.some.inj (er.symm.trans er2)
          generalize as'[i]'(by omega) = y at ea ja
          have nDE : D ≠ E0' := ne_of_none (S2 _ _ hd) hE
          have hd' : H' D = some (.dK (ents as rs)) := b' _ _ nDE (S2 _ _ hd)
          have lt : (as'.take i).length = (rs'.take i).length := paired_take pr i
          have asc' : Asc rs' := asc_of_names (by rw [en]; exact asc)
          have fresh : r.nm ∉ (rs'.take i).map (·.nm) := by
            have hn' := asc'.nodup
            have sp : rs'.map (·.nm) = (rs'.take i).map (·.nm) ++ (r.nm :: (rs'.drop (i + 1)).map (·.nm)) := by
              have e3 : rs'.drop i = r :: rs'.drop (i + 1) := by
                rw [List.drop_eq_getElem_cons hlt]
                congr 1
                exact (List.getElem?_eq_some_iff.mp er).2
              rw [← List.map_cons, ← e3, ← List.map_append, List.take_append_drop]
            rw [sp, List.nodup_append] at hn'
            intro m
            exact hn'.2.2 _ m _ List.mem_cons_self rfl
          have nv : valV (ents (as'.take i) (rs'.take i)) (Sum.inr r.nm : Key) = none := ents_none fresh
          have gv : valV (ents as rs) (Sum.inr r.nm : Key) = some (.ref y) := ents_some hn ja jr
          refine ⟨rfl, ?_⟩
          have g2 : DGet H' D (V.str r.nm) (some (.ref y)) := by
            rw [← gv]
            exact DGet.k (k := Sum.inr r.nm) hd'
          refine ⟨_, rfl, _, rfl, _, rfl, D, .ref y, rfl, g2, _, Sum.inr r.nm, rfl, h1, ?_, ?_, b'.trans But.upd⟩
          · rw [ents_len lt, List.length_take]
            exact Nat.lt_of_lt_of_le (show _ < 64 by omega) (by decide)
          · rw [upd_same, putK_new _ nv, take_snoc ea, take_snoc er, ents_snoc lt]
    · rintro H3 ⟨h3, b'⟩
      have e1 : as'.take (ys.map V.str).length = as' := by rw [List.length_map, ly, ← hl']; exact List.take_length
      have e2 : rs'.take (ys.map V.str).length = rs' := by rw [List.length_map, ly]; exact List.take_length
      rw [e1, e2] at h3
      have nxE : x ≠ E0' := ne_of_none (S2 _ _ (b _ _ nxD (S1 _ _ hx))) hE
      have hx3 : H3 x = some (.ins a.c_Pool dx []) := b' _ _ nxE (S2 _ _ (b _ _ nxD (S1 _ _ hx)))
      have S03 : Same H H3 := by
        intro c o ec
        have c1 : H2 c = some o := b _ _ (ne_of_none ec hD) (S1 _ _ ec)
        exact b' _ _ (ne_of_none (S2 _ _ c1) hE) (S2 _ _ c1)
      refine ⟨_, rfl, x, _, dx, _, rfl, hx3, T.cl_Pool, T.n_Pool__by_name, (by show 0 < 1000; decide), ?_⟩
      have S4 : But x H (upd H3 x (.ins a.c_Pool dx (putF "_by_name" (.ref E0') []))) := fun c o hc ec => by
        rw [upd_ne hc]
        exact S03 _ _ ec
      refine k _ E0' as' rs' S4 (by rw [upd_same]; with_unfolding_all rfl) (by rw [upd_ne (Ne.symm nxE)]; exact h3) ?_ (fun r => pick_mem hn pr en perm r) (asc_of_names (by rw [en]; exact asc))
      -- the items
      clear h3 hx3 S4 e1 e2
      clear asc srt
      have im : ∀ {z : Addr} {r : Rw}, Both as rs z r → ItemIs a.c_Item (upd H3 x (.ins a.c_Pool dx (putF "_by_name" (.ref E0') []))) z r := by
        rintro z r ⟨j, j1, j2⟩
        obtain ⟨r2, e2, dz, hz⟩ := LiI.paired_get hi j1
        obtain rfl : r = r2 := Option.some.inj (j2.symm.trans e2)
        refine ⟨dz, ?_⟩
        rw [upd_ne (ne_of hz hx (fun q => by have z := (HO.ins.inj q).2.2; unfold itF at z; cases z))]
        exact S03 _ _ hz
      exact paired_imp (fun _ _ z => im z) pr
end
end Ask

set_option Elab.async false
set_option linter.all false
set_option maxRecDepth 100000
set_option maxHeartbeats 4000000
set_option pp.deepTerms false
set_option pp.deepTerms.threshold 14
namespace Ask
open PySem L2
open PyProof.Rows
section
variable {P : Program} {w : World} {K : PySem.W.Frag} {mg : Str → Option Value} {base : Heap} {a : Ad}
theorem same_made {H : Hp} {C x dx : Addr} (hx : H x = none) (hdx : H dx = none) (ne : dx ≠ x) : Same H (upd (upd H dx (.own x)) x (.ins C dx [])) := by
  intro b o e
  rw [upd_ne (ne_of_none e hx), upd_ne (ne_of_none e hdx)]
  exact e
theorem made {H H' : Hp} {C x dx : Addr} (hx : H x = none) (hdx : H dx = none) (hb : But x (upd (upd H dx (.own x)) x (.ins C dx [])) H') : Same H H' := by
  intro b o e
  refine hb b o (ne_of_none e hx) ?_
  rw [upd_ne (ne_of_none e hx), upd_ne (ne_of_none e hdx)]
  exact e
/-- at x: a pool of these rows -/
def PoolAt (C CI : Addr) (H : Hp) (x : Addr) (rs : List Rw) : Prop := ∃ dx d as, H x = some (.ins C dx [("_by_name", .ref d)]) ∧ H d = some (.dK (ents as rs)) ∧ Items CI H as rs
theorem PoolAt.same {C CI : Addr} {H H' : Hp} {x : Addr} {rs : List Rw} (h : PoolAt C CI H x rs) (s : Same H H') : PoolAt C CI H' x rs := by
  obtain ⟨dx, d, as, h1, h2, h3⟩ := h
  exact ⟨dx, d, as, s _ _ h1, s _ _ h2, h3.same s⟩
theorem l_by {v : V} : List.lookup (Str.ofString "_by_name") [(Str.ofString "_by_name", v)] = some v := by with_unfolding_all rfl
def spPI (C CI : Addr) : Sp := fun vs H Q _ => ∃ (x dx : Addr) (as : List Addr) (rs : List Rw), vs = .ref x :: as.map V.ref ∧ H x = some (.ins C dx []) ∧ Items CI H as rs ∧ (rs.map (·.nm)).Nodup ∧ rs.length < 64 ∧
  ∀ H' rs', But x H H' → PoolAt C CI H' x rs' → (∀ r, r ∈ rs' ↔ r ∈ rs) → Asc rs' → Q .non H'
theorem r_pinit (T : Txt K mg a) : FnR P w K mg base CX0 3 a.f_Pool___init__ (spPI a.c_Pool a.c_Item) := by
  obtain ⟨oc, od, kV, doc, pm, an, cdv, ct, osl, e, lk, hcd⟩ := T.F_Pool___init__.ex
  have hb := StX.bind_star1 (p1 := "self") (pv := "items") (B := fun z => bindArgs (PySem.W.fnOf "__init__" "Pool.__init__" (defArgs s_Pool___init__) (defBody s_Pool___init__) (defScope s_Pool___init__) .none kV doc pm an cdv ct) ⟨z, []⟩) (fun _ => rfl) (fun _ _ _ => rfl)
  refine (StX.fn_star (k := 2) (ps := ["self"]) (pv := "items") (N := ["self", "items", "found", "item", "name"]) (sp := spPInit a.c_Pool a.c_Item) (by rw [← e]; exact lk) hcd sc_Pool___init__ StX.cxUp_none hb (fun A outer s H vs Q E hr h => ok_pinit T cdv A outer s H vs Q E hr h)).imp ?_
  rintro vs H Q E ⟨x, dx, as, rs, rfl, hx, hi, hn, hl, k⟩
  refine ⟨[.ref x], as.map V.ref, rfl, rfl, ?_, fun p hp => ?_⟩
  · rw [List.length_map, paired_len hi]
    exact Nat.le_trans (Nat.le_of_lt hl) (by decide)
  · have S := Same.new hp (o := .tup (as.map V.ref))
    refine ⟨x, dx, p, as, rs, rfl, S _ _ hx, upd_same, hi.same S, hn, hl, fun H' d as' rs' b hx' hd hi' hm asc => ?_⟩
    exact k H' rs' (fun c o hc ec => b c o hc (S _ _ ec)) ⟨dx, d, as', hx', hd, hi'⟩ hm asc
/-- names -/
def spPNames (C CI : Addr) : Sp := fun vs H Q _ => ∃ x rs, vs = [.ref x] ∧ PoolAt C CI H x rs ∧ ∀ p, H p = none → Q (.ref p) (upd H p (.lst ((rs.map (·.nm)).map V.str)))
theorem ok_pnames (T : Txt K mg a) : FnOk P w K mg base CX0 1 a.f_Pool_names a.d_Pool_names ["self"] (spPNames a.c_Pool a.c_Item) := by
  refine T.F_Pool_names.ok sc_Pool_names (fun vs H Q E h => ?_) (fun cdv A outer s H vs Q E hr h => ?_)
  · obtain ⟨x, rs, rfl, _⟩ := h
    rfl
  · obtain ⟨x, rs, rfl, ⟨dx, d, as, hx, hd, hi⟩, k⟩ := h
    refine ⟨_, (pss_one (ps_ret (pe_callTy (call_listD rfl) (by rfl) T.b_list (by decide +kernel) (pa_cons (pe_fld (pv 0) rfl) pa_nil)))), ?_⟩
    refine ⟨_, rfl, x, _, dx, _, _, rfl, hx, T.cl_Pool, T.n_Pool__by_name, l_by, d, _, rfl, .inl hd, fun p hp => ?_⟩
    have e : (ents as rs).map (fun kv => kV kv.1) = (rs.map (·.nm)).map V.str := by
      rw [show (fun kv : Key × V => kV kv.1) = kV ∘ (·.1) from rfl, ← List.map_map, ents_keys (paired_len hi), List.map_map]
      rfl
    rw [e]
    exact k p hp
/-- item, a name of the pool -/
def spPItem (C CI : Addr) : Sp := fun vs H Q _ => ∃ x rs r, vs = [.ref x, .str r.nm] ∧ PoolAt C CI H x rs ∧ (rs.map (·.nm)).Nodup ∧ r ∈ rs ∧ nameB r.nm = true ∧ ∀ y H', Same H H' → ItemIs CI H' y r → Q (.ref y) H'
theorem ok_pitem (T : Txt K mg a) : FnOk P w K mg base CX0 2 a.f_Pool_item a.d_Pool_item ["self", "name"] (spPItem a.c_Pool a.c_Item) := by
  have G_is_name : FnOk P w K mg base CX0 1 a.f_Item_is_name a.d_Item_is_name ["thing"] (spIsName K) := ok_is_name T
  refine T.F_Pool_item.ok sc_Pool_item (fun vs H Q E h => ?_) (fun cdv A outer s H vs Q E hr h => ?_)
  · obtain ⟨x, rs, r, rfl, _⟩ := h
    rfl
  · obtain ⟨x, rs, r, rfl, ⟨dx, d, as, hx, hd, hi⟩, hn, hm, hnm, k⟩ := h
    refine ⟨_, (pss_cons (ps_if (PW.pt (pw_or (pt_not (pt_val (pe_smeth (pe_glob (v := .ref a.c_Item) rfl T.g_Item rfl) T.rd_Item T.m_Item_is_name G_is_name (hr.mono (by decide)) T.b_Item_is_name pass0 (pa_cons (pv 1) pa_nil)))) (pw_or1 (pt_cmp (pc_dnotin (hu_of hr) (pv 1) (pe_fld (pv 0) rfl))))))
    (pss_one ps_never)
    pss_nil)
  (pss_one (ps_ret (pe_dget (hu_of hr) (pe_fld (pv 0) rfl) (pv 1) (fun _ _ => rfl))))), ?_⟩
    obtain ⟨y, gy, hy⟩ : ∃ y, valV (ents as rs) (Sum.inr r.nm : Key) = some (.ref y) ∧ ItemIs a.c_Item H y r := by
      obtain ⟨i, hi1, ei⟩ := List.mem_iff_getElem.mp hm
      have er : rs[i]? = some r := by rw [List.getElem?_eq_getElem hi1, ei]
      have ha : i < as.length := by rw [paired_len hi]; exact hi1
      have ea : as[i]? = some as[i] := List.getElem?_eq_getElem ha
      obtain ⟨r2, er2, z⟩ := LiI.paired_get hi ea
      obtain rfl : r = r2 := Option.some.inj (er.symm.trans er2)
      exact ⟨as[i], ents_some hn ea er, z⟩
    refine ⟨rfl, .str r.nm, rfl, .str r.nm, "str", rfl, ⟨.base (.str _), by decide⟩, .inr ⟨r.nm, rfl, Nat.le_trans (name_len hnm) (by decide), fun H1 S1 => ?_⟩⟩
    have hx1 := S1 _ _ hx
    have hd1 := S1 _ _ hd
    rw [hnm]
    have gd : DGet H1 d (.str r.nm) (some (.ref y)) := by
      rw [← gy]
      exact DGet.k (k := Sum.inr r.nm) hd1
    refine ⟨_, rfl, iteF ⟨_, rfl, _, rfl, x, _, dx, _, _, rfl, hx1, T.cl_Pool, T.n_Pool__by_name, l_by, d, _, rfl, gd, _, rfl, iteF ?_⟩⟩
    exact ⟨_, rfl, x, _, dx, _, _, rfl, hx1, T.cl_Pool, T.n_Pool__by_name, l_by, _, rfl, d, .ref y, rfl, gd, k y H1 S1 (hy.same S1)⟩
/-- with_items, items of different names -/
def spPWith0 (C CI : Addr) : Sp := fun vs H Q _ => ∃ (x t : Addr) (bs : List Addr) (rs qs : List Rw), vs = [.ref x, .ref t] ∧ PoolAt C CI H x rs ∧ (rs.map (·.nm)).Nodup ∧ H t = some (.tup (bs.map V.ref)) ∧ Items CI H bs qs ∧ rs.length + qs.length < 1000 ∧ (putAll rs qs).length < 64 ∧
  ∀ y H' rs', H y = none → Same H H' → PoolAt C CI H' y rs' → (∀ r, r ∈ rs' ↔ r ∈ putAll rs qs) → Asc rs' → Q (.ref y) H'
theorem ok_pwith (T : Txt K mg a) : ∀ (cdv : Value) (A : Around) (outer : List Env) (s : Shared) (H : Hp) (vs : List V) (Q : VK) (E : XK), Room 4 (A.deeper (envOfC "Pool.with_items" (defScope s_Pool_with_items) s.heap.objs.size a.f_Pool_with_items cdv)) → spPWith0 a.c_Pool a.c_Item vs H Q E →
    ∃ t, PSs (cxOf CX0 P w K mg base ["self", "items", "found", "item", "changed"] "Pool.with_items" (defScope s_Pool_with_items) a.f_Pool_with_items cdv A outer s H E) (defBody s_Pool_with_items) t ∧ t { nx := fun _ H' => Q .non H', rt := Q } (start ["self", "items", "found", "item", "changed"] vs) H := by
  have G_check_items : FnOk P w K mg base CX0 1 a.f__check_items a.d__check_items ["things"] (spCheck a.c_Item) := ok_check T
  have G_name : FnOk P w K mg base CX0 1 a.f_Item_name a.d_Item_name ["self"] (spName a.c_Item) := ok_name T
  intro cdv A outer s H vs Q E hr h
  obtain ⟨x, t, bs, rs, qs, rfl, ⟨dx, d, as, hx, hd, hi⟩, hn, ht, hq, hl, hl2, k⟩ := h
  have nd := sc_Pool_with_items.nd
  refine ⟨_, PSs.nox (pss_cons (ps_expr (pe_call G_check_items (hr.mono (by first | decide | omega)) rfl T.g__check_items T.F__check_items.kp T.b__check_items .nil pass0 (pa_cons (pv 1) pa_nil)))
  (Evl.pss_cut (ps_set (i := 2) nd rfl (by first | exact Or.inl rfl | exact Or.inr rfl) (pe_callTy call_dictD (by rfl) T.b_dict (by decide +kernel) (pa_cons (pe_fld (pv 0) rfl) pa_nil)))
  (Evl.pss_cut (ps_for PassesOwn.never rfl (pi_tup (pv 1)) (pg_name (i := 3) nd rfl (by first | exact Or.inl rfl | exact Or.inr rfl))
    (pss_one (ps_dput (hu_of hr) (pv 2) (pe_prop (pv 3) T.cl_Item T.m_Item_name G_name (hr.mono (by decide)) T.b_Item_name .nil pass0 rfl) (pv 3) rfl)))
  (pss_cons (ps_set (i := 4) nd rfl (by first | exact Or.inl rfl | exact Or.inr rfl) (pe_listValues rfl (pv 2) (by rfl) T.b_list (by decide +kernel)))
  (pss_one (ps_ret (pe_makeS T.mk_Pool (r_pinit T) (hr.mono (by decide)) rfl T.g_Pool pass0 (pv 4)))))))), ?_⟩
  refine ⟨_, rfl, t, bs, qs, rfl, ht, hq, ?_⟩
  have hlen := paired_len hi
  refine ⟨fun σ' H' => ∃ D, H D = none ∧ σ' = [some (.ref x), some (.ref t), some (.ref D), none, none] ∧ H' = upd H D (.dK (ents as rs)), ⟨_, rfl, x, _, dx, _, _, rfl, hx, T.cl_Pool, T.n_Pool__by_name, l_by, d, _, rfl, .inl hd, fun D hD => ⟨D, hD, rfl, rfl⟩⟩, ?_⟩
  rintro σ1 H1 ⟨D, hD, rfl, e1⟩
  have S1 : Same H H1 := e1 ▸ Same.new hD
  have hD1 : H1 D = some (.dK (ents as rs)) := by rw [e1]; exact upd_same
  have hi1 := hi.same S1
  have hq1 := hq.same S1
  have ht1 := S1 _ _ ht
  have ntD : t ≠ D := ne_of_none ht hD
  clear e1
  -- the loop
  refine ⟨fun σ' H' => ∃ v as', σ' = [some (.ref x), some (.ref t), some (.ref D), v, none] ∧ H' D = some (.dK (ents as' (putAll rs qs))) ∧ Items a.c_Item H1 as' (putAll rs qs) ∧ But D H1 H', ?_, ?_⟩
  · refine ⟨_, rfl, t, rfl, ⟨_, SqT.of ht1⟩, for_tup (xs := bs.map V.ref) (fun i σ' H' => ∃ v as', σ' = [some (.ref x), some (.ref t), some (.ref D), v, none] ∧ H' D = some (.dK (ents as' (putAll rs (qs.take i)))) ∧ Items a.c_Item H1 as' (putAll rs (qs.take i)) ∧ But D H1 H')
      ⟨none, as, rfl, hD1, hi1, But.refl _ _⟩ (fun _ _ H' _ ⟨_, _, _, _, _, b⟩ => SqT.of (b _ _ ntD ht1)) ?_ ?_⟩
    · rintro i v σ' H' e ⟨v0, as', rfl, hd', hi', b⟩
      obtain ⟨y, r, rfl, ea, er, hy⟩ := hq1.at e
      obtain ⟨dy, hy1⟩ := id hy
      have nyD : y ≠ D := ne_of hy1 hD1 (fun z => by cases z)
      have hy2 := b _ _ nyD hy1
      have n' : ((putAll rs (qs.take i)).map (·.nm)).Nodup := putAll_nodup hn
      obtain ⟨p1, p2⟩ := ents_put (a := y) (r := r) (paired_len hi') n'
      refine ⟨_, rfl, _, rfl, _, rfl, y, dy, _, rfl, hy2, y, _, _, _, _, rfl, ⟨dy, hy2⟩, D, _, rfl, DPut.k (k := Sum.inr r.nm) hd' ?_, ?_⟩
      · rw [ents_len (paired_len hi')]
        have l1 := putAll_len (qs := qs.take i) (rs := rs)
        rw [List.length_take] at l1
        exact Nat.lt_of_lt_of_le (show _ < 1000 by omega) (by decide)
      · refine ⟨_, putA as' (putAll rs (qs.take i)) y r.nm, rfl, ?_, ?_, b.trans But.upd⟩
        · rw [upd_same, p1, take_snoc er, putAll_snoc]
        · rw [take_snoc er, putAll_snoc]
          exact items_put hy hi' n'
    · rintro σ' H' ⟨v0, as', rfl, hd', hi', b⟩
      have e2 : qs.take (bs.map V.ref).length = qs := by rw [List.length_map, paired_len hq]; exact List.take_length
      rw [e2] at hd' hi'
      exact ⟨_, as', rfl, hd', hi', b⟩
  · rintro σ2 H2 ⟨v, as', rfl, hd', hi', b⟩
    have n' : ((putAll rs qs).map (·.nm)).Nodup := putAll_nodup hn
    refine ⟨_, rfl, D, _, rfl, hd', fun p hp => ?_⟩
    have S2 := Same.new hp (o := .lst ((ents as' (putAll rs qs)).map (·.2)))
    rw [ents_vals (paired_len hi')] at S2 ⊢
    have S02 : Same H H2 := fun c o ec => b _ _ (ne_of_none ec hD) (S1 _ _ ec)
    have i2 : Items a.c_Item H2 as' (putAll rs qs) := paired_imp (fun z r hz => by
      obtain ⟨dz, hz⟩ := hz
      exact ⟨dz, b _ _ (ne_of hz hD1 (fun q => by cases q)) hz⟩) hi'
    refine ⟨_, rfl, p, as'.map V.ref, rfl, .inr (SqL.of upd_same), fun y dy hy hdy ne => ?_⟩
    have S3 := same_made (C := a.c_Pool) hy hdy ne
    refine ⟨y, dy, as', putAll rs qs, rfl, upd_same, (i2.same S2).same S3, n', hl2, fun H' rs' b' hp' hm asc => ⟨rfl, ?_⟩⟩
    · refine k y H' rs' ?_ ?_ hp' hm asc
      · cases z : H y with
        | none => rfl
        | some o =>
          have z2 := S2 _ _ (S02 _ _ z)
          rw [hy] at z2
          cases z2
      · intro c o ec
        have c2 := S2 _ _ (S02 _ _ ec)
        exact b' _ _ (ne_of_none c2 hy) (S3 _ _ c2)
def spPWith (C CI : Addr) : Sp := fun vs H Q _ => ∃ (x : Addr) (bs : List Addr) (rs qs : List Rw), vs = .ref x :: bs.map V.ref ∧ PoolAt C CI H x rs ∧ (rs.map (·.nm)).Nodup ∧ Items CI H bs qs ∧ rs.length + qs.length < 1000 ∧ (putAll rs qs).length < 64 ∧
  ∀ y H' rs', H y = none → Same H H' → PoolAt C CI H' y rs' → (∀ r, r ∈ rs' ↔ r ∈ putAll rs qs) → Asc rs' → Q (.ref y) H'
theorem r_pwith (T : Txt K mg a) : FnR P w K mg base CX0 5 a.f_Pool_with_items (spPWith a.c_Pool a.c_Item) := by
  obtain ⟨oc, od, kV, doc, pm, an, cdv, ct, osl, e, lk, hcd⟩ := T.F_Pool_with_items.ex
  have hb := StX.bind_star1 (p1 := "self") (pv := "items") (B := fun z => bindArgs (PySem.W.fnOf "with_items" "Pool.with_items" (defArgs s_Pool_with_items) (defBody s_Pool_with_items) (defScope s_Pool_with_items) .none kV doc pm an cdv ct) ⟨z, []⟩) (fun _ => rfl) (fun _ _ _ => rfl)
  refine (StX.fn_star (k := 4) (ps := ["self"]) (pv := "items") (N := ["self", "items", "found", "item", "changed"]) (sp := spPWith0 a.c_Pool a.c_Item) (by rw [← e]; exact lk) hcd sc_Pool_with_items StX.cxUp_none hb (fun A outer s H vs Q E hr h => ok_pwith T cdv A outer s H vs Q E hr h)).imp ?_
  rintro vs H Q E ⟨x, bs, rs, qs, rfl, hp, hn, hq, hl, hl2, k⟩
  refine ⟨[.ref x], bs.map V.ref, rfl, rfl, ?_, fun p hp0 => ?_⟩
  · rw [List.length_map, paired_len hq]
    exact Nat.le_trans (show _ ≤ 1000 by omega) (by decide)
  · have S := Same.new hp0 (o := .tup (bs.map V.ref))
    refine ⟨x, p, bs, rs, qs, rfl, hp.same S, hn, upd_same, hq.same S, hl, hl2, fun y H' rs' hy s' hp' hm asc => ?_⟩
    refine k y H' rs' ?_ (S.trans s') hp' hm asc
    cases z : H y with
    | none => rfl
    | some o =>
      have z2 := S _ _ z
      rw [hy] at z2
      cases z2
end
end Ask

set_option Elab.async false
set_option linter.all false
set_option maxRecDepth 100000
set_option maxHeartbeats 4000000
namespace Ask
open PySem L2
open PyProof.Rows
section
variable {P : Program} {w : World} {K : PySem.W.Frag} {mg : Str → Option Value} {base : Heap} {a : Ad}
/-- the item made of a name and a value -/
def spExact (C : Addr) : Sp := fun vs H Q _ => ∃ nm v, vs = [.ref C, .str nm, .int v] ∧ nameB nm = true ∧
  ∀ x H', H x = none → Same H H' → ItemAt C H' x nm v v 0 → Q (.ref x) H'
theorem init_d (T : Txt K mg a) : ∃ ds, Vals [V.int 1] ds ∧ Binds K a.d_Item___init__ ["self", "name", "least", "greatest", "price"] ds := by
  refine T.F_Item___init__.binds0 (ps := ["self", "name", "least", "greatest", "price"]) 4 (by simp) rfl ?_
  intro D doc pm an cdv ct us ks l1 l2
  match us, ks, l1, l2 with
  | [_, _, _, _], [_], _, _ => exact ⟨_, _, _, _, _, _, rfl, rfl, rfl⟩
theorem ok_exact (T : Txt K mg a) : FnOk P w K mg base CX0 5 a.f_Item_exact a.d_Item_exact ["cls", "name", "value"] (spExact a.c_Item) := by
  have G_init : FnOk P w K mg base CX0 3 a.f_Item___init__ a.d_Item___init__ ["self", "name", "least", "greatest", "price"] (spInit a.c_Item) := ok_init T
  obtain ⟨ds, hdv, hbn⟩ := init_d T
  refine T.F_Item_exact.ok sc_Item_exact (fun vs H Q E h => ?_) (fun cdv A outer s H vs Q E hr h => ?_)
  · obtain ⟨nm, v, rfl, _⟩ := h
    rfl
  · obtain ⟨nm, v, rfl, hn, k⟩ := h
    refine ⟨_, (pss_one (ps_ret (pe_makeL (i := 0) T.mk_Item G_init (hr.mono (by decide)) rfl (Or.inl rfl) hbn hdv pass0 (pa_cons (pv 1) (pa_cons (pv 2) (pa_cons (pv 2) pa_nil)))))), rfl, ?_⟩
    refine ⟨_, rfl, _, rfl, _, rfl, fun x dx hx hdx ne => ?_⟩
    refine ⟨x, dx, nm, v, v, 1, rfl, upd_same, hn, by omega, by decide, by decide, fun H' hb' hx' => ⟨rfl, ?_⟩⟩
    have e0 : prI v v 1 = 0 := by
      unfold prI
      rw [if_pos rfl]
    rw [e0] at hx'
    refine k x H' hx ?_ ⟨dx, hx'⟩
    intro b o e
    refine hb' b o (ne_of_none e hx) ?_
    rw [upd_ne (ne_of_none e hx), upd_ne (ne_of_none e hdx)]
    exact e
/-- told, a possible value -/
def spTold (C : Addr) : Sp := fun vs H Q _ => ∃ x nm lo hi pr v, vs = [.ref x, .int v] ∧ ItemAt C H x nm lo hi pr ∧ nameB nm = true ∧ lo ≤ v ∧ v ≤ hi ∧
  ∀ y H', H y = none → Same H H' → ItemAt C H' y nm v v 0 → Q (.ref y) H'
theorem ok_told (T : Txt K mg a) : FnOk P w K mg base CX0 6 a.f_Item_told a.d_Item_told ["self", "value"] (spTold a.c_Item) := by
  have Gis_whole : FnOk P w K mg base CX0 1 a.f_is_whole a.d_is_whole ["thing"] (spWhole K) := ok_whole T
  have G_exact : FnOk P w K mg base CX0 5 a.f_Item_exact a.d_Item_exact ["cls", "name", "value"] (spExact a.c_Item) := ok_exact T
  refine T.F_Item_told.ok sc_Item_told (fun vs H Q E h => ?_) (fun cdv A outer s H vs Q E hr h => ?_)
  · obtain ⟨x, nm, lo, hi, pr, v, rfl, _⟩ := h
    rfl
  · obtain ⟨x, nm, lo, hi, pr, v, rfl, ⟨dx, hx⟩, hn, l1, l2, k⟩ := h
    refine ⟨_, (pss_cons (ps_if (PW.pt (pw_or (pt_not (pt_val (pe_call Gis_whole (hr.mono (by first | decide | omega)) rfl T.g_is_whole T.F_is_whole.kp T.b_is_whole .nil pass0 (pa_cons (pv 1) pa_nil)))) (pw_or1 (pt_not (pt_chain op_le op_le (pe_fld (pv 0) rfl) (pv 1) (pe_fld (pv 0) rfl))))))
    (pss_one ps_never)
    pss_nil)
  (pss_one (ps_ret (ClX.pe_cmeth (pe_glob (v := .ref a.c_Item) rfl T.g_Item rfl) T.rd_Item T.m_Item_exact (G_exact.raw T.b_Item_exact .nil) (hr.mono (by decide)) pass0 (pa_cons (pe_fld (pv 0) rfl) (pa_cons (pv 1) pa_nil)))))), ?_⟩
    refine ⟨_, rfl, .int v, "int", rfl, ⟨.base (.int v), by decide⟩, _, rfl, iteF ?_⟩
    refine ⟨_, rfl, x, _, dx, _, _, rfl, hx, T.cl_Item, T.n_Item__least, l_least, ?_⟩
    refine ⟨_, rfl, _, _, rfl, rfl, _, rfl, ?_⟩
    rw [decide_eq_true l1]
    refine iteT ⟨_, rfl, x, _, dx, _, _, rfl, hx, T.cl_Item, T.n_Item__greatest, l_greatest, _, _, rfl, rfl, _, rfl, ?_⟩
    rw [decide_eq_true l2]
    refine iteF ⟨rfl, _, rfl, x, _, dx, _, _, rfl, hx, T.cl_Item, T.n_Item__name, l_name, ?_⟩
    exact ⟨_, rfl, nm, v, rfl, hn, k⟩
end
end Ask

set_option Elab.async false
set_option linter.all false
set_option maxRecDepth 100000
set_option maxHeartbeats 4000000
set_option pp.deepTerms false
set_option pp.deepTerms.threshold 14
namespace Ask
open PySem L2
open PyProof.Rows
section
variable {P : Program} {w : World} {K : PySem.W.Frag} {mg : Str → Option Value} {base : Heap} {a : Ad}
/-- told, possible values of some of the items -/
def spPTold (C CI : Addr) : Sp := fun vs H Q _ => ∃ (x v : Addr) (rs : List Rw) (kn : List (Str × Int)), vs = [.ref x, .ref v] ∧ PoolAt C CI H x rs ∧ Asc rs ∧ (∀ r ∈ rs, nameB r.nm = true) ∧ rs.length < 64 ∧
  H v = some (.dK (kents kn)) ∧ (kn.map (·.1)).Nodup ∧ (∀ p ∈ kn, ∃ r ∈ rs, r.nm = p.1 ∧ r.lo ≤ p.2 ∧ p.2 ≤ r.hi) ∧ kn.length < 64 ∧
  ∀ y H', H y = none → Same H H' → PoolAt C CI H' y (rs.map (tellR kn)) → Q (.ref y) H'
/-- a pool's row by its name -/
theorem PoolAt.get {CI : Addr} {H : Hp} {as : List Addr} {rs : List Rw} {r : Rw} (hi : Items CI H as rs) (hn : (rs.map (·.nm)).Nodup) (hm : r ∈ rs) : ∃ y, valV (ents as rs) (Sum.inr r.nm : Key) = some (.ref y) ∧ ItemIs CI H y r := by
  obtain ⟨i, hi1, ei⟩ := List.mem_iff_getElem.mp hm
  have er : rs[i]? = some r := by rw [List.getElem?_eq_getElem hi1, ei]
  have ha : i < as.length := by rw [paired_len hi]; exact hi1
  have ea : as[i]? = some as[i] := List.getElem?_eq_getElem ha
  obtain ⟨r2, er2, z⟩ := LiI.paired_get hi ea
  obtain rfl : r = r2 := Option.some.inj (er.symm.trans er2)
  exact ⟨as[i], ents_some hn ea er, z⟩
theorem ents_ne {as : List Addr} {rs : List Rw} {kn : List (Str × Int)} {n : Str} {y : Addr} {v : Int} (h1 : valV (ents as rs) (Sum.inr n : Key) = some (.ref y)) (h2 : valV (kents kn) (Sum.inr n : Key) = some (.int v)) : HO.dK (ents as rs) ≠ .dK (kents kn) := fun z => by
  have e := HO.dK.inj z
  rw [e, h2] at h1
  cases h1
theorem ok_ptold (T : Txt K mg a) : FnOk P w K mg base CX0 7 a.f_Pool_told a.d_Pool_told ["self", "values"] (spPTold a.c_Pool a.c_Item) := by
  have G_told : FnOk P w K mg base CX0 6 a.f_Item_told a.d_Item_told ["self", "value"] (spTold a.c_Item) := ok_told T
  refine T.F_Pool_told.ok sc_Pool_told (fun vs H Q E h => ?_) (fun cdv A outer s H vs Q E hr h => ?_)
  · obtain ⟨x, v, rs, kn, rfl, _⟩ := h
    rfl
  · obtain ⟨x, v, rs, kn, rfl, hp, asc, hnm, hl, hv, nk, hk, hl2, k⟩ := h
    have nd := sc_Pool_told.nd
    refine ⟨_, (Evl.pss_cut (ps_if (PW.pt (pw_or (pt_not (pt_val (pe_callB call_isi (by rfl) T.b_isinstance (by decide +kernel) (pa_cons (pv 1) (pa_cons (pe_bltn (v := .ty "dict") (by rfl) T.b_dict (by decide +kernel) rfl) pa_nil))))) (pw_or1 (pt_not (pt_val (pe_callB (cr_all rfl) (by rfl) T.b_all (by decide +kernel) (pa_cons (pe_lock (pe_lc (own := [("name", 2)]) (g := gName 2) (tt := tYes) rfl nd (pi_keys (pv 1)) (blkOk_by (N := ["self", "values", "name", "answered"]) (sc := defScope s_Pool_told) (by decide +kernel)) (fun _ _ _ _ _ => (pg_name (i := 2) nd rfl (by first | exact Or.inl rfl | exact Or.inr rfl))) (fun _ _ _ _ _ => pts_nil) (fun _ _ _ _ _ => (pe_callB (call_isiK (K := K) rfl) (by rfl) T.b_isinstance (by decide +kernel) (pa_cons (pv 2) (pa_cons (pe_bltn (v := .ty "str") (by rfl) T.b_str (by decide +kernel) rfl) pa_nil)))))) pa_nil)))))))
    (pss_one ps_never)
    pss_nil)
  (Evl.pss_cut (ps_lock (ps_for PassesOwn.never rfl (pi_keys (pv 1)) (pg_name (i := 2) nd rfl (by first | exact Or.inl rfl | exact Or.inr rfl))
    (pss_one (ps_if (pt_cmp (pc_dnotin (hu_of hr) (pv 2) (pe_fld (pv 0) rfl)))
    (pss_one ps_never)
    pss_nil))))
  (Evl.pss_cut (ps_setLc (i := 3) (own := [("name", 2)]) (g := gName 2) (tt := tYes) rfl nd rfl rfl (sw_true rfl rfl rfl (by decide +kernel)) (pi_list (pe_callB (call_sortedD rfl) (by rfl) T.b_sorted (by decide +kernel) (pa_cons (pv 1) pa_nil))) (blkOk_by (N := ["self", "values", "name", "answered"]) (sc := defScope s_Pool_told) (by decide +kernel)) (fun _ _ _ _ _ => (pg_name (i := 2) nd rfl (by first | exact Or.inl rfl | exact Or.inr rfl))) (fun _ _ _ _ _ => pts_nil) (fun _ _ _ _ _ => (pe_meth (pe_dget (hu_of hr) (pe_fldK (K := K) rfl (pv 0) rfl) (pv 2) (fun _ _ => rfl)) T.cl_Item T.m_Item_told G_told (hr.mono (by decide)) T.b_Item_told .nil pass0 (pa_cons (pe_dget (hu_of hr) (pv 1) (pv 2) (fun _ _ => rfl)) pa_nil))))
  (pss_one (ps_ret (pe_methSL (pv 0) T.cl_Pool T.bm_Pool_with_items (r_pwith T) (hr.mono (by decide)) pass0 (pv 3))))))), ?_⟩
    have l64 : (kents kn).length < 64 := by unfold kents; rw [List.length_map]; exact hl2
    -- all strings
    refine ⟨fun σ' H' => σ' = [some (.ref x), some (.ref v), none, none] ∧ Same H H', ?_, ?_⟩
    · refine ⟨_, rfl, .ref v, .ty "dict", _, _, true, rfl, .ty _, .base (.dK hv), kit_ty (by decide +kernel), true, rfl, iteF ?_⟩
      refine ⟨v, _, hv, trivial, fun od => ⟨_, rfl, v, od, rfl, .inl ⟨kents kn, upd_same, fun D hD => ?_⟩⟩⟩
      have nvD : v ≠ D := ne_of_none upd_same hD
      have hD0 : H D = none := by rw [upd_ne (Ne.symm nvD)] at hD; exact hD
      refine lc_it (walk_keys (d := v) (o := od) (kvs := kents kn)) (fun i H' => H' D = some (.lst ((List.replicate i true).map V.bl)) ∧ But D (upd H v (.frz od (.dK (kents kn)))) H') ⟨upd_same, But.upd⟩ (fun _ H' _ ⟨_, b⟩ => b _ _ nvD upd_same) ?_ ?_
      · rintro i z H1 H2 hlt ⟨h1, b⟩ ⟨rfl, kk, w0, e, rfl⟩
        obtain ⟨n, val, e2, rfl, rfl⟩ := kents_at e
        refine ⟨rfl, ?_⟩
        refine ⟨_, rfl, .str n, .ty "str", _, _, true, rfl, .ty _, .base (.str n), kit_ty (by decide +kernel), _, h1, ?_, ?_, b.trans But.upd⟩
        · rw [List.length_map, List.length_replicate]
          exact Nat.lt_of_lt_of_le (show _ < 64 by omega) (by decide)
        · rw [upd_same, List.replicate_succ', List.map_append]
          rfl
      · rintro H1 ⟨h1, b⟩
        refine ⟨b _ _ nvD upd_same, D, _, rfl, SqL.of (by rw [upd_ne (Ne.symm nvD)]; exact h1), _, rfl, ?_⟩
        rw [show (List.replicate (kents kn).length true).all id = true from List.all_eq_true.mpr fun x hx => List.eq_of_mem_replicate hx]
        refine iteF ⟨rfl, fun c o ec => ?_⟩
        by_cases e : c = v
        · subst e
          rw [upd_same, ← hv]
          exact ec
        · rw [upd_ne e]
          exact b _ _ (ne_of_none ec hD0) (by rw [upd_ne e]; exact ec)
    · rintro σ1 H1 ⟨rfl, S1⟩
      have hv1 := S1 _ _ hv
      obtain ⟨dx, d, as, hx, hd, hi⟩ := hp.same S1
      have hn := asc.nodup
      -- all known
      refine ⟨fun σ' H' => (∃ z, σ' = [some (.ref x), some (.ref v), z, none]) ∧ H' = H1, ?_, ?_⟩
      · refine ⟨v, _, hv1, trivial, fun od => ⟨_, rfl, v, od, rfl, .inl ⟨kents kn, upd_same, ?_⟩⟩⟩
        refine for_it (walk_keys (d := v) (o := od) (kvs := kents kn)) (fun i σ' H' => (∃ z, σ' = [some (.ref x), some (.ref v), z, none]) ∧ H' = upd H1 v (.frz od (.dK (kents kn)))) ⟨⟨none, rfl⟩, rfl⟩ (fun _ _ H' _ ⟨_, e⟩ => by rw [e]; exact upd_same) ?_ ?_
        · rintro i z σ' H2 H3 hlt ⟨⟨z0, rfl⟩, rfl⟩ ⟨rfl, kk, w0, e, rfl⟩
          obtain ⟨n, val, e2, rfl, rfl⟩ := kents_at e
          have m := List.mem_of_getElem? e2
          obtain ⟨r, hr, rn, _⟩ := hk _ m
          obtain ⟨y, gy, _⟩ := PoolAt.get hi hn hr
          rw [rn] at gy
          have ndv : d ≠ v := ne_of hd hv1 (ents_ne gy (kents_get nk m))
          have nxv : x ≠ v := ne_of hx hv1 (fun z => by cases z)
          have gd : DGet (upd H1 v (.frz od (.dK (kents kn)))) d (.str n) (some (.ref y)) := by
            rw [← gy]
            exact DGet.k (k := Sum.inr n) (by rw [upd_ne ndv]; exact hd)
          refine ⟨_, rfl, _, rfl, x, _, dx, _, _, rfl, by rw [upd_ne nxv]; exact hx, T.cl_Pool, T.n_Pool__by_name, l_by, d, _, rfl, gd, _, rfl, iteF ?_⟩
          exact ⟨⟨_, rfl⟩, rfl⟩
        · rintro σ' H2 ⟨⟨z0, rfl⟩, rfl⟩
          exact ⟨upd_same, ⟨_, rfl⟩, upd_undo hv1⟩
      · rintro σ2 H2 ⟨⟨z, rfl⟩, rfl⟩
        -- answered
        refine ⟨fun σ' H' => ∃ z D bs qs, σ' = [some (.ref x), some (.ref v), z, some (.ref D)] ∧ H' D = some (.lst (bs.map V.ref)) ∧ Items a.c_Item H' bs qs ∧ Same H2 H' ∧ (∀ q, q ∈ qs ↔ ∃ p ∈ kn, q = ⟨p.1, p.2, p.2, 0⟩) ∧ (qs.map (·.nm)).Nodup ∧ qs.length < 64, ?_, ?_⟩
        · refine ⟨_, rfl, v, _, kn.map (·.1), rfl, .inl hv1, kents_keys kn, by rw [List.length_map]; exact hl2, fun ys p perm srt hp0 => ?_⟩
          have lys : ys.length = kn.length := by rw [perm.length_eq, List.length_map]
          have ndy : ys.Nodup := perm.symm.nodup nk
          have S3 := Same.new hp0 (o := .lst (ys.map V.str))
          refine ⟨p, rfl, ⟨_, SqL.of upd_same⟩, fun D hD => ?_⟩
          have npD : p ≠ D := ne_of_none upd_same hD
          have nvD : v ≠ D := ne_of_none (S3 _ _ hv1) hD
          have nxD : x ≠ D := ne_of_none (S3 _ _ hx) hD
          have ndD : d ≠ D := ne_of_none (S3 _ _ hd) hD
          let qOf : Str → Rw := fun n => ⟨n, (kn.lookup n).getD 0, (kn.lookup n).getD 0, 0⟩
          refine lc_it (walk_list (K := K) (a := p) (xs := ys.map V.str)) (fun i H' => ∃ bs, H' D = some (.lst (bs.map V.ref)) ∧ Items a.c_Item H' bs ((ys.take i).map qOf) ∧ But D (upd H2 p (.lst (ys.map V.str))) H') ⟨[], upd_same, .nil, But.upd⟩ (fun _ H' _ ⟨_, _, _, b⟩ => SqL.of (b _ _ npD upd_same)) ?_ ?_
          · rintro i u H3' H3 hlt ⟨bs, h1, hit, b⟩ ⟨rfl, eu⟩
            rw [List.getElem?_map] at eu
            cases ey : ys[i]? with
            | none => rw [ey] at eu; cases eu
            | some n =>
              rw [ey] at eu
              obtain rfl : V.str n = u := Option.some.inj eu
              obtain ⟨⟨n', val⟩, m, en⟩ := List.mem_map.mp (perm.subset (List.mem_of_getElem? ey))
              obtain rfl : n' = n := en
              obtain ⟨r, hr, rn, r1, r2⟩ := hk _ m
              obtain ⟨y, gy, hy⟩ := PoolAt.get hi hn hr
              have hnmr := hnm r hr
              rw [rn] at gy hnmr
              have hd3 := b _ _ ndD (S3 _ _ hd)
              have hx3 := b _ _ nxD (S3 _ _ hx)
              have hv3 := b _ _ nvD (S3 _ _ hv1)
              obtain ⟨dy, hy⟩ := hy
              have hy3 := b _ _ (ne_of_none (S3 _ _ hy) hD) (S3 _ _ hy)
              have gd : DGet H3 d (.str n') (some (.ref y)) := by
                rw [← gy]
                exact DGet.k (k := Sum.inr n') hd3
              have gv : DGet H3 v (.str n') (some (.int val)) := by
                rw [← kents_get nk m]
                exact DGet.k (k := Sum.inr n') hv3
              have lk : kn.lookup n' = some val := lookup_of_mem nk m
              have qe : qOf n' = ⟨n', val, val, 0⟩ := by
                show (⟨n', (kn.lookup n').getD 0, (kn.lookup n').getD 0, 0⟩ : Rw) = _
                rw [lk]
                rfl
              refine ⟨rfl, ?_⟩
              refine ⟨_, rfl, x, _, dx, _, _, rfl, hx3, T.cl_Pool, T.n_Pool__by_name, l_by, _, rfl, d, .ref y, rfl, gd, ?_⟩
              refine ⟨y, dy, _, rfl, hy3, by with_unfolding_all rfl, _, rfl, _, rfl, v, .int val, rfl, gv, ?_⟩
              rw [rn] at hy3
              refine ⟨y, n', r.lo, r.hi, r.pr, val, rfl, ⟨dy, hy3⟩, hnmr, r1, r2, fun z H5 hz S5 hit5 => ?_⟩
              have h15 := S5 _ _ h1
              have S6 : ∀ c o, c ≠ D → H3 c = some o → upd H5 D (.lst (bs.map V.ref ++ [.ref z])) c = some o := fun c o hc ec => by
                rw [upd_ne hc]
                exact S5 _ _ ec
              refine ⟨_, h15, ?_, bs ++ [z], ?_, ?_, fun c o hc ec => S6 c o hc (b _ _ hc ec)⟩
              · rw [List.length_map, paired_len hit, List.length_map, List.length_take]
                exact Nat.lt_of_lt_of_le (show _ < 64 by omega) (by decide)
              · rw [upd_same, List.map_append]
                rfl
              · rw [take_snoc ey, List.map_append]
                refine paired_snoc (paired_imp (fun e r he => ?_) hit) ?_
                · obtain ⟨de, he⟩ := he
                  exact ⟨de, S6 _ _ (ne_of he h1 (fun q => by cases q)) he⟩
                · show ItemIs a.c_Item _ z (qOf n')
                  rw [qe]
                  obtain ⟨dz, hz5⟩ := hit5
                  exact ⟨dz, by rw [upd_ne (ne_of hz5 h15 (fun q => by cases q))]; exact hz5⟩
          · rintro H3 ⟨bs, h1, hit, b⟩
            have e1 : ys.take (ys.map V.str).length = ys := by rw [List.length_map]; exact List.take_length
            rw [e1] at hit
            refine ⟨_, D, bs, ys.map qOf, rfl, h1, hit, ?_, ?_, ?_, ?_⟩
            · intro c o ec
              exact b _ _ (ne_of_none (S3 _ _ ec) hD) (S3 _ _ ec)
            · intro q
              have key : ∀ n, n ∈ ys → ∃ val, (n, val) ∈ kn ∧ qOf n = ⟨n, val, val, 0⟩ := fun n hn' => by
                obtain ⟨⟨n', val⟩, m, en⟩ := List.mem_map.mp (perm.subset hn')
                obtain rfl : n' = n := en
                refine ⟨val, m, ?_⟩
                show (⟨n', (kn.lookup n').getD 0, (kn.lookup n').getD 0, 0⟩ : Rw) = _
                rw [lookup_of_mem nk m]
                rfl
              constructor
              · intro hq
                obtain ⟨n, hn', rfl⟩ := List.mem_map.mp hq
                obtain ⟨val, m, e⟩ := key n hn'
                exact ⟨(n, val), m, e⟩
              · rintro ⟨⟨n, val⟩, m, rfl⟩
                have hy : n ∈ ys := perm.symm.subset (List.mem_map.mpr ⟨_, m, rfl⟩)
                obtain ⟨val', m', e⟩ := key n hy
                have : val' = val := by
                  have a1 := lookup_of_mem nk m
                  have a2 := lookup_of_mem nk m'
                  rw [a1] at a2
                  exact (Option.some.inj a2).symm
                subst this
                exact List.mem_map.mpr ⟨n, hy, e⟩
            · rw [List.map_map, show ((fun x => x.nm) ∘ qOf : Str → Str) = id from rfl, List.map_id]
              exact ndy
            · rw [List.length_map]
              omega
        · rintro σ3 H3 ⟨z, D, bs, qs, rfl, h1, hit, S3, hq, nq, lq⟩
          have hx3 := S3 _ _ hx
          have hp3 : PoolAt a.c_Pool a.c_Item H3 x rs := ⟨dx, d, as, hx3, S3 _ _ hd, hi.same S3⟩
          refine ⟨_, rfl, x, dx, _, rfl, hx3, by with_unfolding_all rfl, fun q0 hq0 => ?_⟩
          have S4 := Same.new hq0 (o := .met a.f_Pool_with_items x)
          have inn : ∀ q ∈ qs, q.nm ∈ rs.map (·.nm) := fun q hq' => by
            obtain ⟨p, hp', e⟩ := (hq q).mp hq'
            obtain ⟨r, hr, rn, _⟩ := hk p hp'
            rw [e]
            exact List.mem_map.mpr ⟨r, hr, rn⟩
          refine ⟨_, rfl, D, bs.map V.ref, rfl, .inr (SqL.of (S4 _ _ h1)), upd_same, x, bs, rs, qs, rfl, hp3.same S4, hn, hit.same S4, by omega, by rw [putAll_in inn]; exact hl, fun y H' rs' hy S5 hp' hm asc' => ?_⟩
          have e : rs' = rs.map (tellR kn) := asc'.unique (tellR_asc asc) fun r => (hm r).trans (told_mem hn nk (fun p hp => by
            obtain ⟨r, hr, rn, _⟩ := hk p hp
            exact List.mem_map.mpr ⟨r, hr, rn⟩) hq nq r)
          subst e
          refine k y H' ?_ (fun c o ec => S5 _ _ (S4 _ _ (S3 _ _ (S1 _ _ ec)))) hp'
          cases z : H y with
          | none => rfl
          | some o =>
            have z2 := S4 _ _ (S3 _ _ (S1 _ _ z))
            rw [hy] at z2
            cases z2
end
end Ask

set_option Elab.async false
set_option linter.all false
set_option maxRecDepth 100000
set_option maxHeartbeats 4000000
set_option pp.deepTerms false
set_option pp.deepTerms.threshold 14
namespace Ask
open PySem L2
open PyProof.Rows
section
variable {P : Program} {w : World} {K : PySem.W.Frag} {mg : Str → Option Value} {base : Heap} {a : Ad}
/-- rows of a pool -/
structure Rows (rs : List Rw) : Prop where
  asc : Asc rs
  nm : ∀ r ∈ rs, nameB r.nm = true
  len : rs.length < 64
def spOpenN (C CI : Addr) : Sp := fun vs H Q _ => ∃ x rs, vs = [.ref x] ∧ PoolAt C CI H x rs ∧ Rows rs ∧ ∀ p H', H p = none → Same H H' → H' p = some (.lst ((openN rs).map V.str)) → Q (.ref p) H'
theorem ok_open (T : Txt K mg a) : FnOk P w K mg base CX0 3 a.f_open_names a.d_open_names ["pool"] (spOpenN a.c_Pool a.c_Item) := by
  have G_pnames : FnOk P w K mg base CX0 1 a.f_Pool_names a.d_Pool_names ["self"] (spPNames a.c_Pool a.c_Item) := ok_pnames T
  have G_pitem : FnOk P w K mg base CX0 2 a.f_Pool_item a.d_Pool_item ["self", "name"] (spPItem a.c_Pool a.c_Item) := ok_pitem T
  have G_is_exact : FnOk P w K mg base CX0 1 a.f_Item_is_exact a.d_Item_is_exact ["self"] (spIsExact a.c_Item) := ok_is_exact T
  refine T.F_open_names.ok sc_open_names (fun vs H Q E h => ?_) (fun cdv A outer s H vs Q E hr h => ?_)
  · obtain ⟨x, rs, rfl, _⟩ := h
    rfl
  · obtain ⟨x, rs, rfl, hp, R, k⟩ := h
    have nd := sc_open_names.nd
    refine ⟨_, (pss_one (ps_ret (pe_lc (own := [("name", 1)]) (g := gName 1) rfl nd (pi_list (pe_prop (pv 0) T.cl_Pool T.m_Pool_names G_pnames (hr.mono (by decide)) T.b_Pool_names .nil pass0 rfl)) (blkOk_by (N := ["pool", "name"]) (sc := defScope s_open_names) (by decide +kernel)) (fun _ _ _ _ _ => (pg_name (i := 1) nd rfl (by first | exact Or.inl rfl | exact Or.inr rfl))) (fun _ _ _ _ _ => (pts_one (pt_not (pt_val (pe_prop (pe_meth (pv 0) T.cl_Pool T.m_Pool_item G_pitem (hr.mono (by decide)) T.b_Pool_item .nil pass0 (pa_cons (pv 1) pa_nil)) T.cl_Item T.m_Item_is_exact G_is_exact (hr.mono (by decide)) T.b_Item_is_exact .nil pass0 rfl))))) (fun _ _ _ _ _ => (pv 1))))), ?_⟩
    have n64 := R.len
    refine ⟨_, rfl, x, ?_⟩
    obtain ⟨dx, d, as, hx, hd, hi⟩ := id hp
    refine ⟨dx, _, rfl, hx, x, rs, rfl, hp, fun p0 hp0 => ⟨p0, rfl, ⟨_, SqL.of upd_same⟩, fun D hD => ?_⟩⟩
    have S1 := Same.new hp0 (o := .lst ((rs.map (·.nm)).map V.str))
    have npD : p0 ≠ D := ne_of_none upd_same hD
    have hD0 : H D = none := by
      rw [upd_ne (Ne.symm npD)] at hD
      exact hD
    refine lc_it (walk_list (K := K) (a := p0) (xs := (rs.map (·.nm)).map V.str)) (fun i H' => H' D = some (.lst ((openN (rs.take i)).map V.str)) ∧ But D (upd H p0 (.lst ((rs.map (·.nm)).map V.str))) H') ⟨upd_same, But.upd⟩ (fun _ H' _ ⟨_, b⟩ => SqL.of (b _ _ npD upd_same)) ?_ ?_
    · rintro i u H3' H3 hlt ⟨h1, b⟩ ⟨rfl, eu⟩
      rw [List.getElem?_map, List.getElem?_map] at eu
      cases er : rs[i]? with
      | none => rw [er] at eu; cases eu
      | some r =>
        rw [er] at eu
        obtain rfl : V.str r.nm = u := Option.some.inj eu
        have hm := List.mem_of_getElem? er
        have hp3 : PoolAt a.c_Pool a.c_Item H3 x rs := ⟨dx, d, as, b _ _ (ne_of_none (S1 _ _ hx) hD) (S1 _ _ hx), b _ _ (ne_of_none (S1 _ _ hd) hD) (S1 _ _ hd), paired_imp (fun z r ⟨dz, hz⟩ => ⟨dz, b _ _ (ne_of_none (S1 _ _ hz) hD) (S1 _ _ hz)⟩) hi⟩
        have tk : openN (rs.take (i + 1)) = openN (rs.take i) ++ (if (!decide (r.lo = r.hi)) = true then [r.nm] else []) := by
          unfold openN opens
          rw [take_snoc er, List.filter_append, List.map_append]
          congr 1
          by_cases e : (!decide (r.lo = r.hi)) = true
          · rw [if_pos e, List.filter_cons, if_pos e]
            rfl
          · rw [if_neg e, List.filter_cons, if_neg e]
            rfl
        refine ⟨rfl, ?_⟩
        refine ⟨_, rfl, x, dx, _, rfl, b _ _ (ne_of_none (S1 _ _ hx) hD) (S1 _ _ hx), by with_unfolding_all rfl, _, rfl, x, rs, r, rfl, hp3, R.asc.nodup, hm, R.nm r hm, fun y H4 S4 hy => ?_⟩
        obtain ⟨dy, hy⟩ := id hy
        refine ⟨y, dy, _, rfl, hy, y, _, _, _, _, rfl, ⟨dy, hy⟩, _, rfl, ?_⟩
        have h14 := S4 _ _ h1
        by_cases e : r.lo = r.hi
        · rw [decide_eq_true e] at tk ⊢
          refine iteF ⟨?_, fun c o hc ec => S4 _ _ (b _ _ hc ec)⟩
          rw [tk, if_neg (by decide), List.append_nil]
          exact h14
        · rw [decide_eq_false e] at tk ⊢
          refine iteT ⟨_, rfl, _, h14, ?_, ?_, fun c o hc ec => ?_⟩
          · rw [List.length_map]
            have l1 : (openN (rs.take i)).length ≤ i := by
              unfold openN opens
              rw [List.length_map]
              exact Nat.le_trans (List.length_filter_le _ _) (by rw [List.length_take]; omega)
            rw [List.length_map, List.length_map] at hlt
            exact Nat.lt_of_lt_of_le (show _ < 64 by omega) (by decide)
          · rw [upd_same, tk, if_pos (by decide), List.map_append]
            rfl
          · rw [upd_ne hc]
            exact S4 _ _ (b _ _ hc ec)
    · rintro H3 ⟨h1, b⟩
      have e1 : rs.take ((rs.map (·.nm)).map V.str).length = rs := by rw [List.length_map, List.length_map]; exact List.take_length
      rw [e1] at h1
      exact k D H3 hD0 (fun c o ec => b _ _ (ne_of_none (S1 _ _ ec) hD) (S1 _ _ ec)) h1
def spChoice (K : PySem.W.Frag) : Sp := fun vs H Q _ => ∃ (t n : Addr) (xs ns : List Str), vs = [.ref t, .ref n] ∧ H t = some (.lst (xs.map V.str)) ∧ H n = some (.lst (ns.map V.str)) ∧ xs.Nodup ∧ (∀ x ∈ xs, x ∈ ns) ∧ xs.length < 1000 ∧ ∀ H', Same H H' → Q (.bl true) H'
theorem ok_choice (T : Txt K mg a) : FnOk P w K mg base CX0 1 a.f_is_choice a.d_is_choice ["thing", "names"] (spChoice K) := by
  refine T.F_is_choice.ok sc_is_choice (fun vs H Q E h => ?_) (fun cdv A outer s H vs Q E hr h => ?_)
  · obtain ⟨t, n, xs, ns, rfl, _⟩ := h
    rfl
  · obtain ⟨t, n, xs, ns, rfl, ht, hn, nx, hin, hl, k⟩ := h
    have nd := sc_is_choice.nd
    refine ⟨_, (Evl.pss_cut (ps_if (PW.pt (pw_or (pt_not (pt_val (pe_callB call_isiT (by rfl) T.b_isinstance (by decide +kernel) (pa_cons (pv 0) (pa_cons (pe_tup (pa_cons (pe_bltn (v := .ty "list") (by rfl) T.b_list (by decide +kernel) rfl) (pa_cons (pe_bltn (v := .ty "tuple") (by rfl) T.b_tuple (by decide +kernel) rfl) pa_nil))) pa_nil))))) (pw_or1 (pt_not (pt_val (pe_callB (cr_all rfl) (by rfl) T.b_all (by decide +kernel) (pa_cons (pe_lc (own := [("name", 2)]) (g := gName 2) (tt := tYes) rfl nd (pi_list (pv 0)) (blkOk_by (N := ["thing", "names", "name"]) (sc := defScope s_is_choice) (by decide +kernel)) (fun _ _ _ _ _ => (pg_name (i := 2) nd rfl (by first | exact Or.inl rfl | exact Or.inr rfl))) (fun _ _ _ _ _ => pts_nil) (fun _ _ _ _ _ => (pe_cmpR ((op_in_seqK (K := K) rfl)) (pv 2) (pv 1) (by with_unfolding_all rfl)))) pa_nil)))))))
    (pss_one (ps_ret pe_bl))
    pss_nil)
  (pss_one (ps_ret (pe_cmpR op_eq (pe_lenSetS (by rfl) T.b_len (by rfl) T.b_set (pv 0)) (pe_callB call_len_seq (by rfl) T.b_len PySem.boot_len (pa_cons (pv 0) pa_nil)) (nomark _))))), ?_⟩
    refine ⟨fun σ' H' => σ' = [some (.ref t), some (.ref n), none] ∧ Same H H', ?_, ?_⟩
    · refine ⟨_, rfl, by show 2 ≤ sizeLine; decide, fun tp htp => ?_⟩
      have S1 := Same.new htp (o := .tup [.ty "list", .ty "tuple"])
      refine ⟨.ref t, tp, _, _, _, true, rfl, upd_same, .cons (.ty _) (.cons (.ty _) .nil), .base (.lst (S1 _ _ ht)), ?_, _, rfl, iteF ?_⟩
      · exact kitAny_cons (b := true) (kit_ty (by decide +kernel)) (fun z => by cases z) (fun _ => rfl)
      refine ⟨_, rfl, t, rfl, ⟨_, SqL.of (S1 _ _ ht)⟩, fun D hD => ?_⟩
      have ntD : t ≠ D := ne_of_none (S1 _ _ ht) hD
      have nnD : n ≠ D := ne_of_none (S1 _ _ hn) hD
      refine lc_it (walk_list (K := K) (a := t) (xs := xs.map V.str)) (fun i H' => H' D = some (.lst ((List.replicate i true).map V.bl)) ∧ But D (upd H tp (.tup [.ty "list", .ty "tuple"])) H') ⟨upd_same, But.upd⟩ (fun _ H' _ ⟨_, b⟩ => SqL.of (b _ _ ntD (S1 _ _ ht))) ?_ ?_
      · rintro i u H3' H3 hlt ⟨h1, b⟩ ⟨rfl, eu⟩
        rw [List.getElem?_map] at eu
        cases ex : xs[i]? with
        | none => rw [ex] at eu; cases eu
        | some y =>
          rw [ex] at eu
          obtain rfl : V.str y = u := Option.some.inj eu
          have iny := inV_mem (hin y (List.mem_of_getElem? ex))
          refine ⟨rfl, ?_⟩
          refine ⟨_, rfl, _, rfl, n, ns.map V.str, rfl, .inl (SqL.of (b _ _ nnD (S1 _ _ hn))), rfl, flat_strs ns, _, h1, ?_, ?_, b.trans But.upd⟩
          · rw [List.length_map, List.length_replicate]
            rw [List.length_map] at hlt
            exact Nat.lt_of_lt_of_le (show _ < 1000 by omega) (by decide)
          · rw [upd_same, List.replicate_succ', List.map_append, iny]
            rfl
      · rintro H3 ⟨h1, b⟩
        refine ⟨D, _, rfl, SqL.of h1, _, rfl, ?_⟩
        rw [show (List.replicate (xs.map V.str).length true).all id = true from List.all_eq_true.mpr fun z hz => List.eq_of_mem_replicate hz]
        exact iteF ⟨rfl, fun c o ec => b _ _ (ne_of_none (S1 _ _ ec) hD) (S1 _ _ ec)⟩
    · rintro σ1 H1 ⟨rfl, S1⟩
      refine ⟨_, rfl, t, xs, rfl, SqL.of (S1 _ _ ht), nx, by omega, _, rfl, t, _, rfl, .inl (SqL.of (S1 _ _ ht)), rfl, ?_⟩
      rw [List.length_map, decide_eq_true rfl]
      exact k H1 S1
/-- the truth of a pool: all open items told -/
def spTruth (C CI : Addr) : Sp := fun vs H Q _ => ∃ (x v : Addr) (rs : List Rw) (kn : List (Str × Int)), vs = [.ref x, .ref v] ∧ PoolAt C CI H x rs ∧ Rows rs ∧ H v = some (.dK (kents kn)) ∧ (kn.map (·.1)).Perm (openN rs) ∧ (∀ p ∈ kn, ∃ r ∈ rs, r.nm = p.1 ∧ r.lo ≤ p.2 ∧ p.2 ≤ r.hi) ∧
  ∀ y H', H y = none → Same H H' → PoolAt C CI H' y (rs.map (tellR kn)) → Q (.ref y) H'
theorem ok_truth (T : Txt K mg a) : FnOk P w K mg base CX0 8 a.f_truth_of a.d_truth_of ["pool", "values"] (spTruth a.c_Pool a.c_Item) := by
  have Gopen_names : FnOk P w K mg base CX0 3 a.f_open_names a.d_open_names ["pool"] (spOpenN a.c_Pool a.c_Item) := ok_open T
  have Gis_choice : FnOk P w K mg base CX0 1 a.f_is_choice a.d_is_choice ["thing", "names"] (spChoice K) := ok_choice T
  have G_ptold : FnOk P w K mg base CX0 7 a.f_Pool_told a.d_Pool_told ["self", "values"] (spPTold a.c_Pool a.c_Item) := ok_ptold T
  refine T.F_truth_of.ok sc_truth_of (fun vs H Q E h => ?_) (fun cdv A outer s H vs Q E hr h => ?_)
  · obtain ⟨x, v, rs, kn, rfl, _⟩ := h
    rfl
  · obtain ⟨x, v, rs, kn, rfl, hp, R, hv, pm, hk, k⟩ := h
    have nd := sc_truth_of.nd
    have n64 := R.len
    have nk : (kn.map (·.1)).Nodup := pm.symm.nodup (openN_nodup R.asc)
    have lk : kn.length = (openN rs).length := by rw [← pm.length_eq, List.length_map]
    have lo := openN_len (rs := rs)
    refine ⟨_, (Evl.pss_cut (ps_set (i := 2) nd rfl (by first | exact Or.inl rfl | exact Or.inr rfl) (pe_call Gopen_names (hr.mono (by first | decide | omega)) rfl T.g_open_names T.F_open_names.kp T.b_open_names .nil pass0 (pa_cons (pv 0) pa_nil)))
  (Evl.pss_cut (ps_if (PW.pt (pw_or (pt_not (pt_val (pe_callB call_isi (by rfl) T.b_isinstance (by decide +kernel) (pa_cons (pv 1) (pa_cons (pe_bltn (v := .ty "dict") (by rfl) T.b_dict (by decide +kernel) rfl) pa_nil))))) (pw_or (pt_not (pt_val (pe_call Gis_choice (hr.mono (by first | decide | omega)) rfl T.g_is_choice T.F_is_choice.kp T.b_is_choice .nil pass0 (pa_cons (pe_callTy (call_listD rfl) (by rfl) T.b_list (by decide +kernel) (pa_cons (pv 1) pa_nil)) (pa_cons (pv 2) pa_nil))))) (pw_or1 (pt_cmpR op_ne (pe_callB call_lenD (by rfl) T.b_len PySem.boot_len (pa_cons (pv 1) pa_nil)) (pe_callB call_len_seq (by rfl) T.b_len PySem.boot_len (pa_cons (pv 2) pa_nil)) (nomark _))))))
    (pss_one ps_never)
    pss_nil)
  (pss_one (ps_try_thru0 (pss_one (ps_ret (pe_meth (pv 0) T.cl_Pool T.m_Pool_told G_ptold (hr.mono (by decide)) T.b_Pool_told .nil pass0 (pa_cons (pv 1) pa_nil)))))))), ?_⟩
    refine ⟨fun σ' H' => ∃ n, σ' = [some (.ref x), some (.ref v), some (.ref n)] ∧ Same H H' ∧ H' n = some (.lst ((openN rs).map V.str)), ?_, ?_⟩
    · exact ⟨_, rfl, x, rs, rfl, hp, R, fun p H' hp0 S hn => ⟨p, rfl, S, hn⟩⟩
    · rintro σ1 H1 ⟨n, rfl, S1, hn⟩
      have hv1 := S1 _ _ hv
      refine ⟨fun σ' H' => σ' = [some (.ref x), some (.ref v), some (.ref n)] ∧ Same H1 H', ?_, ?_⟩
      · refine ⟨_, rfl, .ref v, .ty "dict", _, _, true, rfl, .ty _, .base (.dK hv1), kit_ty (by decide +kernel), true, rfl, iteF ?_⟩
        refine ⟨_, rfl, v, _, rfl, .inl hv1, fun l hl => ?_⟩
        have S2 := Same.new hl (o := .lst ((kents kn).map fun kv => kV kv.1))
        have ek : ((kents kn).map fun kv => kV kv.1) = (kn.map (·.1)).map V.str := by
          unfold kents
          rw [List.map_map, List.map_map]
          rfl
        rw [ek] at S2 ⊢
        refine ⟨_, rfl, l, n, kn.map (·.1), openN rs, rfl, upd_same, S2 _ _ hn, nk, fun z hz => pm.subset hz, by rw [List.length_map]; omega, fun H3 S3 => ⟨_, rfl, iteF ?_⟩⟩
        have S13 := S2.trans S3
        refine ⟨_, rfl, v, kents kn, rfl, S13 _ _ hv1, _, rfl, n, _, rfl, .inl (SqL.of (S13 _ _ hn)), rfl, _, rfl, ?_⟩
        have e : V.int ((kents kn).length : Nat) = V.int (((openN rs).map V.str).length : Nat) := by
          unfold kents
          rw [List.length_map, List.length_map, lk]
        rw [decide_eq_true e]
        exact iteF ⟨rfl, S13⟩
      · rintro σ2 H2 ⟨rfl, S2⟩
        have S12 := S1.trans S2
        have hp2 := hp.same S12
        obtain ⟨dx, d, as, hx, _⟩ := id hp2
        refine ⟨_, rfl, x, dx, _, rfl, hx, by with_unfolding_all rfl, _, rfl, x, v, rs, kn, rfl, hp2, R.asc, R.nm, R.len, S12 _ _ hv, nk, hk, by omega, fun y H' hy S' hp' => ?_⟩
        refine k y H' ?_ (S12.trans S') hp'
        cases z : H y with
        | none => rfl
        | some o =>
          have z2 := S12 _ _ z
          rw [hy] at z2
          cases z2
end
end Ask

set_option Elab.async false
set_option linter.all false
set_option maxRecDepth 100000
set_option maxHeartbeats 4000000
set_option pp.deepTerms false
set_option pp.deepTerms.threshold 14
namespace Ask
open PySem PySem.Spec PyProof.Rows L2 LamX
open PySem.W (AllAlike Sortable dataLe)
/-! Pool.walk -/
def keyR (r : Rw) : PyData := .tuple [.int r.lo, .int r.hi, .str r.nm]
open Classical in
noncomputable def keyV (C : Addr) (H : Hp) : V → PyData
  | .ref x => if h : ∃ r, ItemIs C H x r then keyR h.choose else keyR ⟨"", 0, 0, 0⟩
  | _ => keyR ⟨"", 0, 0, 0⟩
theorem item_one {C : Addr} {H : Hp} {x : Addr} {r q : Rw} (h : ItemIs C H x r) (g : ItemIs C H x q) : r = q := by
  obtain ⟨d1, h1⟩ := h
  obtain ⟨d2, h2⟩ := g
  rw [h1] at h2
  cases r; cases q
  injection h2 with e
  injection e with _ _ e
  injection e with e1 e
  injection e with e2 e
  injection e with e3 e
  injection e with e4 e
  injection e1 with _ e1
  injection e2 with _ e2
  injection e3 with _ e3
  injection e4 with _ e4
  cases e1; cases e2; cases e3; cases e4
  rfl
theorem keyV_of {C : Addr} {H : Hp} {x : Addr} {r : Rw} (h : ItemIs C H x r) : keyV C H (.ref x) = keyR r := by
  have q : ∃ r, ItemIs C H x r := ⟨r, h⟩
  show (open Classical in if h : ∃ r, ItemIs C H x r then keyR h.choose else _) = _
  rw [dif_pos q, item_one q.choose_spec h]
theorem keyV_any (C : Addr) (H : Hp) (v : V) : ∃ r, keyV C H v = keyR r := by
  cases v with
  | ref x =>
    by_cases q : ∃ r, ItemIs C H x r
    · exact ⟨_, keyV_of q.choose_spec⟩
    · exact ⟨_, dif_neg q⟩
  | _ => exact ⟨_, rfl⟩
theorem keyR_alike (r q : Rw) : PySem.W.alike (keyR r) (keyR q) = true := by simp [keyR, PySem.W.alike, PySem.W.alikeAll]
theorem items_sorted {C : Addr} {H : Hp} {as : List Addr} {rs : List Rw} (h : Items C H as rs) : ∃ bs, (as.map V.ref).mergeSort (dataLe false (keyV C H)) = bs.map V.ref ∧ Items C H bs (rs.mergeSort (dataLe false keyR)) := by
  have hz : ∃ ps : List (Addr × Rw), ps.map (·.1) = as ∧ ps.map (·.2) = rs ∧ ∀ p ∈ ps, ItemIs C H p.1 p.2 := by
    induction h with
    | nil => exact ⟨[], rfl, rfl, fun _ z => by cases z⟩
    | @cons x y xs ys a _ ih =>
      obtain ⟨ps, e1, e2, e3⟩ := ih
      refine ⟨(x, y) :: ps, by simp [e1], by simp [e2], fun p hp => ?_⟩
      rcases List.mem_cons.mp hp with rfl | hp
      · exact a
      · exact e3 p hp
  obtain ⟨ps, rfl, rfl, hps⟩ := hz
  refine ⟨(ps.mergeSort fun p q => dataLe false keyR p.2 q.2).map (·.1), ?_, ?_⟩
  · rw [List.map_map, List.map_map]
    symm
    refine List.map_mergeSort fun p hp q hq => ?_
    unfold dataLe PySem.W.sortLe
    simp only [Function.comp, keyV_of (hps p hp), keyV_of (hps q hq)]
  · rw [← List.map_mergeSort (f := fun p : Addr × Rw => p.2) (r := fun p q => dataLe false keyR p.2 q.2) (fun p _ q _ => rfl)]
    have hm : ∀ p ∈ ps.mergeSort (fun p q => dataLe false keyR p.2 q.2), ItemIs C H p.1 p.2 := fun p hp => hps p (List.mem_mergeSort.mp hp)
    generalize ps.mergeSort (fun p q => dataLe false keyR p.2 q.2) = ss at hm
    induction ss with
    | nil => exact .nil
    | cons p ss ih => exact .cons (hm p List.mem_cons_self) (ih fun q hq => hm q (List.mem_cons_of_mem _ hq))
section
variable {P : Program} {w : World} {K : PySem.W.Frag} {mg : Str → Option Value} {base : Heap} {a : Ad}
theorem ItemIs.ext {C : Addr} {H H' : Hp} {x : Addr} {r : Rw} (h : ItemIs C H x r) (s : ExtN H H') : ItemIs C H' x r := by
  obtain ⟨d, h⟩ := h
  exact ⟨d, s _ _ h fun _ z => by cases z⟩
theorem items_ext {C : Addr} {H H' : Hp} (s : ExtN H H') : ∀ {as : List Addr} {rs : List Rw}, Items C H as rs → Items C H' as rs
  | _, _, .nil => .nil
  | _, _, .cons h t => .cons (h.ext s) (items_ext s t)
theorem PoolAt.ext {C CI : Addr} {H H' : Hp} {x : Addr} {rs : List Rw} (h : PoolAt C CI H x rs) (s : ExtN H H') : PoolAt C CI H' x rs := by
  obtain ⟨dx, d, as, h1, h2, h3⟩ := h
  exact ⟨dx, d, as, s _ _ h1 (fun _ z => by cases z), s _ _ h2 (fun _ z => by cases z), items_ext s h3⟩
/-- the items, in their order -/
def spWalk (C CI : Addr) : List V → Hp → List V → Prop := fun vs H ws => ∃ (x dx d : Addr) (as : List Addr) (rs : List Rw), vs = [.ref x] ∧ H x = some (.ins C dx [("_by_name", .ref d)]) ∧ H d = some (.dK (ents as rs)) ∧ Items CI H as rs ∧ rs.length ≤ 64 ∧ ws = (as.map V.ref).mergeSort (dataLe false (keyV CI H))
theorem spWalk.of {C CI : Addr} {H : Hp} {x : Addr} {rs : List Rw} (h : PoolAt C CI H x rs) (n : rs.length ≤ 64) : ∃ bs, spWalk C CI [.ref x] H (bs.map V.ref) ∧ Items CI H bs (rs.mergeSort (dataLe false keyR)) := by
  obtain ⟨dx, d, as, h1, h2, h3⟩ := h
  obtain ⟨bs, e, i⟩ := items_sorted h3
  exact ⟨bs, ⟨x, dx, d, as, rs, rfl, h1, h2, h3, n, e.symm⟩, i⟩
abbrev TW (a : Ad) : List (Addr × Str) := [(a.t_Pool_walk, "Pool.walk.<locals>.<lambda>")]
theorem ok_walk (T : Txt K mg a) (TB : TabB base mg a.cd_Pool_walk a.t_Pool_walk) : WFn P w K mg base 6 a.f_Pool_walk a.d_Pool_walk ["self"] (TW a) (spWalk a.c_Pool a.c_Item) := by
  have G_least : FnOk P w K mg base CX0 1 a.f_Item_least a.d_Item_least ["self"] (spLeast a.c_Item) := ok_least T
  have G_greatest : FnOk P w K mg base CX0 1 a.f_Item_greatest a.d_Item_greatest ["self"] (spGreatest a.c_Item) := ok_greatest T
  have G_name : FnOk P w K mg base CX0 1 a.f_Item_name a.d_Item_name ["self"] (spName a.c_Item) := ok_name T
  refine Fun.wfn T.F_Pool_walk sc_Pool_walk rfl (by decide +kernel) (fun vs H ws h => ?_) (fun _ _ _ => rfl) (fun cdv A outer s s2 H vs ws pn hc hr h hT I => ?_)
  · obtain ⟨x, dx, d, as, rs, rfl, _⟩ := h
    rfl
  · obtain ⟨x, dx, d, as, rs, rfl, hx, hd, hi, n, rfl⟩ := h
    obtain rfl : Value.ref a.cd_Pool_walk = cdv := T.tab_Pool_walk.1.symm.trans hc
    refine sort_values (T := TW a) (p := "item") (k := 2) (xs := as.map V.ref) (kf := keyV a.c_Item H) rfl (by rfl) T.b_sorted (pe_fld (pv 0) rfl) TB rfl ?_ ?_ ⟨⟨rfl, rfl, rfl, by decide +kernel, rfl, by decide +kernel, by decide +kernel⟩, fun _ _ _ _ => rfl, fun f cd A2 outer2 s3 H3 hr3 => by
        exact pe_tup (pa_cons (pe_prop (pv 0) T.cl_Item T.m_Item_least G_least (hr3.mono (by decide)) T.b_Item_least .nil pass0 rfl) (pa_cons (pe_prop (pv 0) T.cl_Item T.m_Item_greatest G_greatest (hr3.mono (by decide)) T.b_Item_greatest .nil pass0 rfl) (pa_cons (pe_prop (pv 0) T.cl_Item T.m_Item_name G_name (hr3.mono (by decide)) T.b_Item_name .nil pass0 rfl) pa_nil)))⟩
      hr rfl rfl rfl rfl rfl I hT rfl ⟨_, rfl, x, _, dx, _, _, rfl, hx, T.cl_Pool, T.n_Pool__by_name, l_by, d, _, rfl, Same.refl _, hd, ?_, ?_⟩ ?_ ?_ ?_ ?_ ?_
    · exact List.mem_singleton.mpr rfl
    · intro p hp _
      rw [List.mem_singleton.mp hp]
      rfl
    · unfold ents
      rw [List.length_map, List.length_zip, paired_len hi]
      omega
    · exact (ents_vals (paired_len hi)).symm
    · exact PySem.W.AllAlike.of fun u v => by
        obtain ⟨r, e1⟩ := keyV_any a.c_Item H u
        obtain ⟨q, e2⟩ := keyV_any a.c_Item H v
        rw [e1, e2]
        exact keyR_alike r q
    · exact PySem.W.Sortable.tuples fun u => by
        obtain ⟨r, e1⟩ := keyV_any a.c_Item H u
        exact ⟨_, _, e1⟩
    · intro u _
      obtain ⟨r, e1⟩ := keyV_any a.c_Item H u
      rw [e1]
      simp [keyR, PyData.depth, PyData.depthAll]
    · intro u hu H' xt
      obtain ⟨y, hy, rfl⟩ := List.mem_map.mp hu
      obtain ⟨r, ir⟩ : ∃ r, ItemIs a.c_Item H y r := by
        clear hd hx hc hT hr I n hu
        induction hi with
        | nil => cases hy
        | cons h _ ih =>
          rcases List.mem_cons.mp hy with rfl | hy
          · exact ⟨_, h⟩
          · exact ih hy
      rw [keyV_of ir]
      obtain ⟨dy, hy'⟩ := ir.ext xt
      refine ⟨_, rfl, y, dy, _, rfl, hy', ⟨y, _, _, _, _, rfl, ⟨dy, hy'⟩, ?_⟩⟩
      refine ⟨_, rfl, y, dy, _, rfl, hy', ⟨y, _, _, _, _, rfl, ⟨dy, hy'⟩, ?_⟩⟩
      refine ⟨_, rfl, y, dy, _, rfl, hy', ⟨y, _, _, _, _, rfl, ⟨dy, hy'⟩, ?_⟩⟩
      refine ⟨by show 3 ≤ sizeLine; decide, fun t ht => ?_⟩
      exact ⟨Same.new ht, .inr ⟨t, _, _, rfl, rfl, upd_same, .cons rfl (.cons rfl (.cons rfl .nil))⟩⟩
    · intro l out n' s' H' I' xt T' hl fp rv
      exact ⟨l, out, n', H', rfl, I', xt, T', hl, fp, rv⟩
end
end Ask

set_option Elab.async false
set_option linter.all false
set_option maxRecDepth 100000
set_option maxHeartbeats 4000000
set_option pp.deepTerms false
set_option pp.deepTerms.threshold 14
namespace Ask
open PySem PySem.Spec PyProof.Rows L2 LamX
open PySem.W (AllAlike Sortable dataLe)
/-! a comprehension over pool.walk() -/
theorem extn_upd {H0 H : Hp} {D : Addr} {o : HO} (h : ExtN H0 H) (n : H0 D = none) : ExtN H0 (upd H D o) := fun b o' e hn => by
  have : b ≠ D := fun z => by rw [z, n] at e; cases e
  rw [upd_ne this]
  exact h b o' e hn
theorem tabs_upd {T : List (Addr × Str)} {H : Hp} {D : Addr} {xs ys : List V} (t : Tabs T H) (e : H D = some (.lst xs)) : Tabs T (upd H D (.lst ys)) := fun p hp => by
  obtain ⟨ps, h1, h2, h3⟩ := t p hp
  refine ⟨ps, ?_, h2, fun pos cv hc => ?_⟩
  · rw [upd_ne (fun z => by rw [z, e] at h1; cases h1)]
    exact h1
  · obtain ⟨c, e1, e2⟩ := h3 pos cv hc
    refine ⟨c, e1, ?_⟩
    rw [upd_ne (fun z => by rw [z, e] at e2; cases e2)]
    exact e2
theorem tabs_upd0 {T : List (Addr × Str)} {H : Hp} {D : Addr} {o : HO} (t : Tabs T H) (e : H D = none) : Tabs T (upd H D o) := t.ext fun b o' eb => by
  rw [upd_ne (fun z => by rw [z, e] at eb; cases eb)]
  exact eb
section
variable {a : Ad}
theorem walk_comp {C CI : Addr} {T : List (Addr × Str)} {ta : TE} {g : TG} {tt : TT} {te : TE} {vs : List Nat} {σ : L2.St} {H : Hp} {Q : VK} {x : Addr} {rs : List Rw} (f : Rw → Bool) (val : Rw → V) (hv : ∀ R : V → Hp → Prop, R (.ref x) H → ta σ H R) (hp : PoolAt C CI H x rs) (n64 : rs.length ≤ 64) (hT : Tabs T H)
    (turn : ∀ y q H' (R0 : Hp → Prop) (R1 : V → Hp → Prop), q ∈ rs → ExtN H H' → ItemIs CI H' y q → (f q = false → ∀ H'', Same H' H'' → R0 H'') → (f q = true → ∀ H'', Same H' H'' → R1 (val q) H'') →
      g (.ref y) (wipe σ vs) H' fun σ2 H2 => wipe σ2 vs = wipe σ vs ∧ tt σ2 H2 fun b H3 => if b = true then te σ2 H3 R1 else R0 H3)
    (h : ∀ D H', H D = none → ExtN H H' → Tabs T H' → H' D = some (.lst (((rs.mergeSort (dataLe false keyR)).filter f).map val)) → Q (.ref D) H') :
    tLcW T (tMethW T C "walk" (spWalk C CI) ta) g tt te vs σ H Q := by
  obtain ⟨bs, hs, hi⟩ := spWalk.of hp n64
  have hm : ∀ q ∈ rs.mergeSort (dataLe false keyR), q ∈ rs := fun q hq => List.mem_mergeSort.mp hq
  have ln : (rs.mergeSort (dataLe false keyR)).length ≤ 64 := by rw [List.length_mergeSort]; exact n64
  generalize rs.mergeSort (dataLe false keyR) = qs at hi hm ln h
  obtain ⟨dx, d, as, hx, hd, _⟩ := id hp
  refine hv _ ⟨x, dx, _, bs.map V.ref, rfl, hx, by with_unfolding_all rfl, hT, hs, fun D hD => ?_⟩
  have lb : bs.length = qs.length := paired_len hi
  refine ⟨fun k m H' => k ≤ qs.length ∧ m = qs.length - k ∧ ExtN H H' ∧ Tabs T H' ∧ H' D = some (.lst (((qs.take k).filter f).map val)), ⟨qs.length, Nat.zero_le _, rfl, extn_upd (ExtN.refl H) hD, tabs_upd0 hT hD, upd_same⟩, ?_⟩
  rintro k m H' ⟨hk, rfl, xt, hT', hDl⟩
  by_cases e : k = qs.length
  · subst e
    refine .inl ⟨by rw [List.length_map, lb], fun H'' st => ?_⟩
    rw [List.take_length] at hDl
    exact h D H'' hD (xt.trans st.1) (st.2 hT') (st.1 _ _ hDl fun _ z => by cases z)
  · have lt : k < qs.length := by omega
    have eq : qs[k]? = some qs[k] := List.getElem?_eq_getElem lt
    have eb : bs[k]? = some bs[k] := List.getElem?_eq_getElem (by rw [lb]; exact lt)
    obtain ⟨q, e1, iq⟩ := LiI.paired_get hi eb
    obtain rfl : qs[k] = q := Option.some.inj (eq.symm.trans e1)
    have tk : qs.take (k + 1) = qs.take k ++ [qs[k]] := by rw [List.take_succ, eq]; rfl
    have hmq : qs[k] ∈ rs := hm _ (List.getElem_mem lt)
    generalize qs[k] = q at eq iq tk hmq
    have la : (((qs.take k).filter f).map val).length < sizeLine := by
      rw [List.length_map]
      have z := List.length_filter_le f (qs.take k)
      rw [List.length_take] at z
      have s := sizeLine_eq
      omega
    refine .inr ⟨.ref bs[k], by rw [List.getElem?_map, eb]; rfl, fun H'' => ExtN H H'' ∧ Tabs T H'' ∧ H'' D = some (.lst (((qs.take (k + 1)).filter f).map val)), fun H'' ⟨h1, h2, h3⟩ => ⟨qs.length - (k + 1), by omega, lt, rfl, h1, h2, h3⟩, fun H'' st => ?_⟩
    have xt2 := xt.trans st.1
    have T2 := st.2 hT'
    have d2 := st.1 _ _ hDl fun _ z => by cases z
    refine turn bs[k] q H'' _ _ hmq xt2 ((iq.ext xt).ext st.1) (fun ff H3 S3 => ?_) (fun ff H3 S3 => ?_)
    · refine ⟨xt2.trans (ExtN.of S3), T2.ext S3, ?_⟩
      rw [tk, List.filter_append, List.filter_cons, ff]
      simpa using S3 _ _ d2
    · refine ⟨_, S3 _ _ d2, la, extn_upd (xt2.trans (ExtN.of S3)) hD, tabs_upd (T2.ext S3) (S3 _ _ d2), ?_⟩
      rw [upd_same, tk, List.filter_append, List.filter_cons, ff]
      simp
end
end Ask

set_option Elab.async false
set_option linter.all false
set_option maxRecDepth 100000
set_option maxHeartbeats 4000000
set_option pp.deepTerms false
set_option pp.deepTerms.threshold 14
namespace Ask
open PySem L2
open PyProof.Rows
section
variable {P : Program} {w : World} {K : PySem.W.Frag} {mg : Str → Option Value} {base : Heap} {a : Ad}
/-- the pen at p, its cells at l -/
structure PenL (l : Addr) (H : Hp) (p : Addr) (n : Nat) : Prop where
  pen : Pen H p n
  at_ : ∃ i v, H p = some (.lst [.ref l, .int i, .int v])
theorem PenL.of {H : Hp} {p : Addr} {n : Nat} (h : Pen H p n) : ∃ l, PenL l H p n := by
  obtain ⟨l, i, v, ns, h1, _⟩ := id h
  exact ⟨l, h, i, v, h1⟩
theorem PenL.cells {l : Addr} {H : Hp} {p : Addr} {n : Nat} (h : PenL l H p n) : ∃ ns : List Int, H l = some (.lst (ns.map V.int)) := by
  obtain ⟨⟨l', i, v, ns, h1, h2, _⟩, i', v', e⟩ := h
  rw [h1] at e
  cases e
  exact ⟨ns, h2⟩
theorem PenL.mono {l : Addr} {H : Hp} {p : Addr} {n m : Nat} (h : PenL l H p n) (e : n ≤ m) : PenL l H p m := ⟨h.pen.mono e, h.at_⟩
theorem PenL.ne {l : Addr} {H : Hp} {p q : Addr} {n : Nat} (h : PenL l H p n) (e : H q = none) : q ≠ p ∧ q ≠ l := by
  obtain ⟨i, v, z⟩ := h.at_
  obtain ⟨ns, y⟩ := h.cells
  exact ⟨fun c => (by rw [c, z] at e; cases e), fun c => (by rw [c, y] at e; cases e)⟩
theorem PenL.put {l : Addr} {H : Hp} {p q : Addr} {n : Nat} {o : HO} (h : PenL l H p n) (a : q ≠ p ∧ q ≠ l) : PenL l (upd H q o) p n := by
  obtain ⟨⟨l', i, v, ns, h1, h2, h3⟩, i', v', e⟩ := h
  have e2 := e
  rw [h1] at e
  cases e
  exact ⟨⟨l, _, _, ns, by rw [upd_ne a.1.symm]; exact h1, by rw [upd_ne a.2.symm]; exact h2, h3⟩, _, _, by rw [upd_ne a.1.symm]; exact e2⟩
theorem PenL.same {l : Addr} {H H' : Hp} {p : Addr} {n : Nat} (h : PenL l H p n) (s : Same H H') : PenL l H' p n := by
  obtain ⟨i, v, z⟩ := h.at_
  exact ⟨h.pen.same s, i, v, s _ _ z⟩
theorem PenL.next {l : Addr} {H H' : Hp} {p : Addr} {n m : Nat} (h : PenL l H p n) (h' : Pen H' p m) (s : SameL p H H') : PenL l H' p m := by
  obtain ⟨i, v, z⟩ := h.at_
  obtain ⟨i', v', z'⟩ := s _ _ _ z
  exact ⟨h', i', v', z'⟩
def spDrawP : Sp := fun vs H Q _ => ∃ (l p : Addr) (n : Nat) (b : Int), vs = [.ref p, .int b] ∧ PenL l H p n ∧ n ≤ 1000000 ∧ 0 < b ∧ b < 2 ^ 200 ∧ ∀ (z : Int) H', 0 ≤ z → z < b → But p H H' → PenL l H' p (n + 1) → Q (.int z) H'
theorem ok_drawP (T : Txt K mg a) : FnOk P w K mg base CX0 2 a.f__law_draw a.d__law_draw ["pen", "below"] spDrawP := by
  refine (ok_drawL T).imp ?_
  rintro vs H Q E ⟨l, p, n, b, rfl, hp, hn, b0, b1, k⟩
  exact ⟨p, n, b, rfl, hp.pen, hn, b0, b1, fun z H' z0 z1 bb hp' s => k z H' z0 z1 bb (hp.next hp' s)⟩
end
end Ask

set_option Elab.async false
set_option linter.all false
set_option maxRecDepth 100000
set_option maxHeartbeats 4000000
set_option pp.deepTerms false
set_option pp.deepTerms.threshold 14
namespace Ask
open PySem L2
open PyProof.Rows
section
variable {P : Program} {w : World} {K : PySem.W.Frag} {mg : Str → Option Value} {base : Heap} {a : Ad}
/-- a row that is drawn -/
structure RowOk (r : Rw) : Prop where
  nm : nameB r.nm = true
  sh : (PyData.str r.nm).shown.length ≤ 20
  le : r.lo ≤ r.hi
  ex : r.lo = r.hi → r.pr = 0
  op : r.lo < r.hi → 1 ≤ r.pr ∧ r.pr ≤ 999
  l1 : -1000000000000 < r.lo
  l2 : r.hi < 1000000000000
theorem pop_perm {α : Type} : ∀ (xs : List α) (j : Nat) (h : j < xs.length), (xs[j] :: xs.eraseIdx j).Perm xs
  | x :: xs, 0, _ => List.Perm.refl _
  | x :: xs, j + 1, h => (List.Perm.swap _ _ _).trans (List.Perm.cons _ (pop_perm xs j (by simpa using h)))
theorem pop_map {α β : Type} (f : α → β) : ∀ (xs : List α) (j : Nat), (xs.map f).eraseIdx j = (xs.eraseIdx j).map f
  | [], _ => rfl
  | _ :: _, 0 => rfl
  | x :: xs, j + 1 => congrArg (f x :: ·) (pop_map f xs j)
def names12 : List Str := ["a", "b", "c", "d", "e", "f", "g", "ab", "zz", "abcdefgh", "abcdefgi", "m"]
theorem names12_ok : ∀ d ∈ names12, nameB d = true ∧ (PyData.str d).shown.length ≤ 20 := by decide +kernel
/-- the rows drawn so far -/
structure RowsSt (H : Hp) (l p L S : Addr) (ys : List Str) (ts : List Addr) (rs : List Rw) (H' : Hp) (m : Nat) : Prop where
  eS : H' S = some (.lst (ys.map V.str))
  eL : H' L = some (.lst (ts.map V.ref))
  pr : Paired (fun t r => RowAt H' t r ∧ H t = none) ts rs
  but : But p H H'
  pen : PenL l H' p m
  sp : S ≠ p ∧ S ≠ l
  lp : L ≠ p ∧ L ≠ l
  ls : L ≠ S
theorem RowsSt.next {H : Hp} {l p L S : Addr} {ys : List Str} {ts : List Addr} {rs : List Rw} {H' H'' : Hp} {m m' : Nat} (h : RowsSt H l p L S ys ts rs H' m) (b : But p H' H'') (hp : PenL l H'' p m') : RowsSt H l p L S ys ts rs H'' m' :=
  ⟨b _ _ h.sp.1 h.eS, b _ _ h.lp.1 h.eL, paired_imp (fun t r z => ⟨b _ _ (h.pen.pen.ne z.1 fun _ _ _ e => by cases e) z.1, z.2⟩) h.pr, h.but.trans b, hp, h.sp, h.lp, h.ls⟩
theorem RowsSt.free {H : Hp} {l p L S : Addr} {ys : List Str} {ts : List Addr} {rs : List Rw} {H' : Hp} {m : Nat} (h : RowsSt H l p L S ys ts rs H' m) {t : Addr} (e : H' t = none) : H t = none := h.but.free h.pen.pen e
theorem RowsSt.add {H : Hp} {l p L S : Addr} {ys : List Str} {ts : List Addr} {rs : List Rw} {H' : Hp} {m : Nat} (h : RowsSt H l p L S ys ts rs H' m) (hL : H L = none) {t : Addr} {r : Rw} (ht : H' t = none) :
    RowsSt H l p L S ys (ts ++ [t]) (rs ++ [r]) (upd (upd H' t (.tup [.str r.nm, .int r.lo, .int r.hi, .int r.pr])) L (.lst ((ts ++ [t]).map V.ref))) m := by
  have nt := h.pen.ne ht
  have h2 := h.next (But.new (o := .tup [.str r.nm, .int r.lo, .int r.hi, .int r.pr]) ht) (h.pen.put nt)
  have tL : t ≠ L := fun e => by rw [e, h.eL] at ht; cases ht
  have keep : ∀ x y, RowAt (upd H' t (.tup [.str r.nm, .int r.lo, .int r.hi, .int r.pr])) x y → x ≠ L := fun x y z e => by
    unfold RowAt at z
    rw [e, h2.eL] at z
    cases z
  refine ⟨by rw [upd_ne h.ls.symm]; exact h2.eS, upd_same, ?_, h2.but.of hL, h2.pen.put h.lp, h.sp, h.lp, h.ls⟩
  refine Paired.snoc (paired_imp (fun x y z => ⟨?_, z.2⟩) h2.pr) ⟨?_, h.free ht⟩
  · unfold RowAt
    rw [upd_ne tL, upd_same]
  · unfold RowAt
    rw [upd_ne (keep x y z.1)]
    exact z.1
def spRows : Sp := fun vs H Q _ => ∃ (l p : Addr) (n : Nat) (most width : Int), vs = [.ref p, .int most, .int width] ∧ PenL l H p n ∧ n ≤ 900000 ∧ 0 ≤ most ∧ most ≤ 11 ∧ 1 ≤ width ∧ width ≤ 1000 ∧
  ∀ L ts rs H', H L = none → But p H H' → PenL l H' p (n + 70) → H' L = some (.lst (ts.map V.ref)) → Paired (fun t r => RowAt H' t r ∧ H t = none) ts rs → Asc rs → (∀ r ∈ rs, RowOk r) → (rs.length : Int) ≤ most → Q (.ref L) H'
def spRowsN : Sp := fun vs H Q _ => ∃ (l p : Addr) (n : Nat) (most width : Int), vs = [.ref p, .int most, .int width] ∧ PenL l H p n ∧ n ≤ 900000 ∧ 0 ≤ most ∧ most ≤ 11 ∧ 1 ≤ width ∧ width ≤ 1000 ∧
  ∀ L ts rs H', H L = none → But p H H' → PenL l H' p (n + 70) → H' L = some (.lst (ts.map V.ref)) → Paired (fun t r => RowAt H' t r ∧ H t = none) ts rs → Asc rs → (∀ r ∈ rs, RowOk r) → (rs.length : Int) ≤ most → (∀ r ∈ rs, r.nm ∈ names12) → Q (.ref L) H'
def spRowsW : Sp := fun vs H Q _ => ∃ (l p : Addr) (n : Nat) (most width : Int), vs = [.ref p, .int most, .int width] ∧ PenL l H p n ∧ n ≤ 900000 ∧ 0 ≤ most ∧ most ≤ 11 ∧ 1 ≤ width ∧ width ≤ 1000 ∧
  ∀ L ts rs H', H L = none → But p H H' → PenL l H' p (n + 70) → H' L = some (.lst (ts.map V.ref)) → Paired (fun t r => RowAt H' t r ∧ H t = none) ts rs → Asc rs → (∀ r ∈ rs, RowOk r) → (rs.length : Int) ≤ most → (∀ r ∈ rs, r.nm ∈ names12) → (∀ r ∈ rs, r.hi ≤ r.lo + 3 ∨ r.hi ≤ r.lo + width) → Q (.ref L) H'
theorem ok_rowsW (T : Txt K mg a) : FnOk P w K mg base CX0 3 a.f__law_rows a.d__law_rows ["pen", "most", "width"] spRowsW := by
  have G_law_draw : FnOk P w K mg base CX0 2 a.f__law_draw a.d__law_draw ["pen", "below"] spDrawP := ok_drawP T
  refine T.F__law_rows.ok sc__law_rows (fun vs H Q E h => ?_) (fun cdv A outer s H vs Q E hr h => ?_)
  · obtain ⟨l, p, n, most, width, rfl, _⟩ := h
    rfl
  · obtain ⟨l, p, n, most, width, rfl, hp, hn, m0, m1, w0, w1, k⟩ := h
    have nd := sc__law_rows.nd
    refine ⟨_, (Evl.pss_cut (ps_set (i := 3) nd rfl (by first | exact Or.inl rfl | exact Or.inr rfl) (pe_lst (pa_cons pe_str (pa_cons pe_str (pa_cons pe_str (pa_cons pe_str (pa_cons pe_str (pa_cons pe_str (pa_cons pe_str (pa_cons pe_str (pa_cons pe_str (pa_cons pe_str (pa_cons pe_str (pa_cons pe_str pa_nil))))))))))))))
  (Evl.pss_cut (ps_setLc (i := 4) (own := [("turn", 5)]) (g := gName 5) (tt := tYes) rfl nd rfl rfl (sw_true rfl rfl rfl (by decide +kernel)) (pi_range1 rfl T.b_range (pa_cons (pe_call G_law_draw (hr.mono (by first | decide | omega)) rfl T.g__law_draw T.F__law_draw.kp T.b__law_draw .nil pass0 (pa_cons (pv 0) (pa_cons (pe_op op_add (pv 1) pe_int) pa_nil))) pa_nil)) (blkOk_by (N := ["pen", "most", "width", "pool", "nyms", "turn", "shift", "high", "found", "nym", "spot", "size"]) (sc := defScope s__law_rows) (by decide +kernel)) (fun _ _ _ _ _ => (pg_name (i := 5) nd rfl (by first | exact Or.inl rfl | exact Or.inr rfl))) (fun _ _ _ _ _ => pts_nil) (fun _ _ _ _ _ => (pe_bmK (K := K) rfl (pe_bm PySem.F.plainAttrs_list PySem.F.slot_list_pop PySem.F.type_list_pop mt_popAt (pv 3) (pa_cons (pe_call G_law_draw (hr.mono (by decide)) rfl T.g__law_draw T.F__law_draw.kp T.b__law_draw .nil pass0 (pa_cons (pv 0) (pa_cons (pe_callB (call_len_seqK (K := K) rfl) (by rfl) T.b_len PySem.boot_len (pa_cons (pv 3) pa_nil)) pa_nil))) pa_nil)))))
  (Evl.pss_cut (ps_set (i := 6) nd rfl (by first | exact Or.inl rfl | exact Or.inr rfl) (pe_ix ix_list (pe_lst (pa_cons pe_int (pa_cons pe_int (pa_cons (pe_un un_neg pe_int) (pa_cons pe_int (pa_cons (pe_op op_pow pe_int pe_int) (pa_cons (pe_op op_sub pe_int (pe_op op_pow pe_int pe_int)) pa_nil))))))) (pe_call G_law_draw (hr.mono (by first | decide | omega)) rfl T.g__law_draw T.F__law_draw.kp T.b__law_draw .nil pass0 (pa_cons (pv 0) (pa_cons pe_int pa_nil))) (fun _ _ => rfl)))
  (Evl.pss_cut (ps_set (i := 7) nd rfl (by first | exact Or.inl rfl | exact Or.inr rfl) (pe_ix ix_list (pe_lst (pa_cons pe_int (pa_cons pe_int (pa_cons pe_int pa_nil)))) (pe_call G_law_draw (hr.mono (by first | decide | omega)) rfl T.g__law_draw T.F__law_draw.kp T.b__law_draw .nil pass0 (pa_cons (pv 0) (pa_cons pe_int pa_nil))) (fun _ _ => rfl)))
  (Evl.pss_cut (ps_set (i := 8) nd rfl (by first | exact Or.inl rfl | exact Or.inr rfl) (pe_lst pa_nil))
  (Evl.pss_cut (ps_for PassesOwn.never rfl (pi_list (pe_callB cr_sortedS (by rfl) T.b_sorted (by decide +kernel) (pa_cons (pv 4) pa_nil))) (pg_name (i := 9) nd rfl (by first | exact Or.inl rfl | exact Or.inr rfl))
    (Evl.pss_cut (ps_set (i := 10) nd rfl (by first | exact Or.inl rfl | exact Or.inr rfl) (pe_op op_add (pv 6) (pe_call G_law_draw (hr.mono (by first | decide | omega)) rfl T.g__law_draw T.F__law_draw.kp T.b__law_draw .nil pass0 (pa_cons (pv 0) (pa_cons (pv 2) pa_nil)))))
  (Evl.pss_cut (ps_set (i := 11) nd rfl (by first | exact Or.inl rfl | exact Or.inr rfl) (pe_ix ix_list (pe_lst (pa_cons pe_int (pa_cons pe_int (pa_cons pe_int (pa_cons pe_int (pa_cons (pe_op op_add pe_int (pe_call G_law_draw (hr.mono (by first | decide | omega)) rfl T.g__law_draw T.F__law_draw.kp T.b__law_draw .nil pass0 (pa_cons (pv 0) (pa_cons (pv 2) pa_nil)))) pa_nil)))))) (pe_call G_law_draw (hr.mono (by first | decide | omega)) rfl T.g__law_draw T.F__law_draw.kp T.b__law_draw .nil pass0 (pa_cons (pv 0) (pa_cons pe_int pa_nil))) (fun _ _ => rfl)))
  (pss_one (ps_expr (pe_bm PySem.F.plainAttrs_list PySem.F.slot_list_append PySem.F.type_list_append mt_append (pv 8) (pa_cons (pe_tup (pa_cons (pv 9) (pa_cons (pv 10) (pa_cons (pe_op op_add (pv 10) (pv 11)) (pa_cons (pe_ifExp (pt_cmpR op_eq (pv 11) pe_int (nomark _)) pe_int (pe_op op_add pe_int (pe_call G_law_draw (hr.mono (by first | decide | omega)) rfl T.g__law_draw T.F__law_draw.kp T.b__law_draw .nil pass0 (pa_cons (pv 0) (pa_cons (pv 7) pa_nil))))) pa_nil))))) pa_nil)))))))
  (pss_one (ps_ret (pv 8))))))))), ?_⟩
    refine ⟨fun σ' H' => ∃ q, σ' = [some (.ref p), some (.int most), some (.int width), some (.ref q), none, none, none, none, none, none, none, none] ∧ H q = none ∧ H' q = some (.lst (names12.map V.str)) ∧ (q ≠ p ∧ q ≠ l) ∧ But p H H' ∧ PenL l H' p n, ?_, ?_⟩
    · refine ⟨by show 12 ≤ sizeLine; decide, fun q hq => ?_⟩
      exact ⟨q, rfl, hq, upd_same, hp.ne hq, But.new hq, hp.put (hp.ne hq)⟩
    rintro σ1 H1 ⟨q, rfl, hq, eq1, nq, b1, hp1⟩
    refine ⟨fun σ' H' => ∃ D ds, σ' = [some (.ref p), some (.int most), some (.int width), some (.ref q), some (.ref D), none, none, none, none, none, none, none] ∧ H' D = some (.lst (List.map V.str ds)) ∧ (D ≠ p ∧ D ≠ l) ∧ ds.Nodup ∧ (∀ d ∈ ds, (nameB d = true ∧ (PyData.str d).shown.length ≤ 20) ∧ d ∈ names12) ∧ (ds.length : Int) ≤ most ∧ But p H H' ∧ PenL l H' p (n + 13), ?_, ?_⟩
    · refine ⟨_, rfl, _, rfl, _, _, rfl, rfl, l, p, n, most + 1, rfl, hp1, by omega, by omega, by omega, fun z H2 z0 z1 b2 hp2 => ?_⟩
      refine ⟨z, rfl, by omega, by omega, fun D hD => ?_⟩
      have hD0 : H D = none := (b1.trans b2).free hp2.pen hD
      have nD := hp2.ne hD
      have eq2 := b2 _ _ nq.1 eq1
      have qD : q ≠ D := fun e => by rw [← e, eq2] at hD; cases hD
      refine lc_range (lo := 0) (n := z.toNat) (fun i H' => ∃ bs ds : List Str, bs.length + i = 12 ∧ (bs ++ ds).Perm names12 ∧ H' q = some (.lst (bs.map V.str)) ∧ H' D = some (.lst (ds.map V.str)) ∧ But p H H' ∧ PenL l H' p (n + 1 + i)) ?_ ?_ ?_
      · refine ⟨names12, [], rfl, by rw [List.append_nil], by rw [upd_ne qD]; exact eq2, upd_same, (b1.trans b2).trans (But.new hD), hp2.put nD⟩
      · rintro i H3 hi ⟨bs, ds, hl, hperm, eb, ed, b3, hp3⟩
        have hb : bs.length ≠ 0 := by omega
        refine ⟨rfl, ?_⟩
        dsimp only [tYes]
        rw [if_pos rfl]
        refine ⟨_, rfl, .inl ⟨rfl, _, SqL.of eb⟩, _, rfl, _, rfl, q, _, rfl, .inl (SqL.of eb), l, p, _, _, rfl, hp3, by omega, by rw [List.length_map]; omega, by rw [List.length_map]; omega, fun u H4 u0 u1 b4 hp4 => ?_⟩
        obtain ⟨v, hv, _⟩ := at_drawn u0 u1 rfl
        obtain ⟨j, hj, gj, lj, _, _⟩ := atI_get hv
        rw [List.length_map] at lj u1
        have e5 := b4 _ _ nq.1 eb
        have d5 := b4 _ _ nD.1 ed
        refine ⟨q, _, u, j, v, rfl, rfl, e5, by omega, by omega, hj, gj, _, by rw [upd_ne qD.symm]; exact d5, by rw [List.length_map]; show ds.length < sizeLine; have z := hperm.length_eq; rw [List.length_append] at z; have z2 : names12.length = 12 := rfl; rw [sizeLine_eq]; omega, ?_⟩
        rw [List.getElem?_map, List.getElem?_eq_getElem lj] at gj
        have ev : V.str bs[j] = v := Option.some.inj gj
        subst ev
        refine ⟨bs.eraseIdx j, ds ++ [bs[j]], ?_, ?_, ?_, ?_, ?_, ?_⟩
        · rw [List.length_eraseIdx_of_lt lj]
          omega
        · have z := pop_perm bs j lj
          refine List.Perm.trans ?_ hperm
          refine List.Perm.trans ?_ (List.Perm.append_right ds z)
          rw [← List.append_assoc]
          exact List.perm_append_comm
        · rw [upd_ne qD, upd_same, pop_map]
        · rw [upd_same, List.map_append]
          rfl
        · exact ((b3.trans b4).of hq).of hD0
        · exact ((hp4.put nq).put nD).mono (by omega)
      · rintro H3 ⟨bs, ds, hl, hperm, eb, ed, b3, hp3⟩
        have nd0 : (bs ++ ds).Nodup := hperm.nodup_iff.mpr (by decide)
        refine ⟨D, ds, rfl, ed, nD, (List.nodup_append.mp nd0).2.1, fun d hd => ⟨names12_ok d (hperm.mem_iff.mp (List.mem_append_right _ hd)), hperm.mem_iff.mp (List.mem_append_right _ hd)⟩, ?_, b3, hp3.mono (by omega)⟩
        have z := hperm.length_eq
        rw [List.length_append] at z
        have z2 : names12.length = 12 := rfl
        omega
    rintro σ2 H2 ⟨D, ds, rfl, ed, nD, ndp, dok, dlen, b2, hp2⟩
    refine ⟨fun σ' H' => ∃ sh : Int, σ' = [some (.ref p), some (.int most), some (.int width), some (.ref q), some (.ref D), none, some (.int sh), none, none, none, none, none] ∧ -100000000000 ≤ sh ∧ sh ≤ 100000000000 ∧ H' D = some (.lst (List.map V.str ds)) ∧ But p H H' ∧ PenL l H' p (n + 14), ?_, ?_⟩
    · refine ⟨_, rfl, _, _, rfl, rfl, ⟨by decide, by decide, by decide⟩, _, _, rfl, rfl, ⟨by decide, by decide, by decide⟩, _, _, rfl, rfl, by show 6 ≤ sizeLine; decide, fun r hr => ?_⟩
      have nr := hp2.ne hr
      refine ⟨_, rfl, l, p, _, 6, rfl, hp2.put nr, by omega, by decide, by decide, fun u H4 u0 u1 b4 hp4 => ?_⟩
      obtain ⟨v, hv, hm, hs, B4⟩ := Pen.pick (K := K) (H0 := H2) hp2.pen hr b4 u0 u1 rfl (But.refl p H2)
      refine ⟨r, _, _, _, rfl, rfl, hs, hv, ?_⟩
      obtain ⟨sh, rfl, g0, g1⟩ : ∃ sh : Int, v = V.int sh ∧ -100000000000 ≤ sh ∧ sh ≤ 100000000000 := by
        simp only [List.mem_cons, List.not_mem_nil, or_false] at hm
        rcases hm with rfl | rfl | rfl | rfl | rfl | rfl
        all_goals exact ⟨_, rfl, by decide, by decide⟩
      exact ⟨sh, rfl, g0, g1, B4 _ _ nD.1 ed, b2.trans B4, hp4⟩
    rintro σ3 H3 ⟨sh, rfl, s0, s1, ed3, b3, hp3⟩
    refine ⟨fun σ' H' => ∃ hg : Int, σ' = [some (.ref p), some (.int most), some (.int width), some (.ref q), some (.ref D), none, some (.int sh), some (.int hg), none, none, none, none] ∧ 1 ≤ hg ∧ hg ≤ 999 ∧ H' D = some (.lst (List.map V.str ds)) ∧ But p H H' ∧ PenL l H' p (n + 15), ?_, ?_⟩
    · refine ⟨by show 3 ≤ sizeLine; decide, fun r hr => ?_⟩
      have nr := hp3.ne hr
      refine ⟨_, rfl, l, p, _, 3, rfl, hp3.put nr, by omega, by decide, by decide, fun u H4 u0 u1 b4 hp4 => ?_⟩
      obtain ⟨v, hv, hm, hs, B4⟩ := Pen.pick (K := K) (H0 := H3) hp3.pen hr b4 u0 u1 rfl (But.refl p H3)
      refine ⟨r, _, _, _, rfl, rfl, hs, hv, ?_⟩
      obtain ⟨hg, rfl, g0, g1⟩ : ∃ hg : Int, v = V.int hg ∧ 1 ≤ hg ∧ hg ≤ 999 := by
        simp only [List.mem_cons, List.not_mem_nil, or_false] at hm
        rcases hm with rfl | rfl | rfl
        all_goals exact ⟨_, rfl, by decide, by decide⟩
      exact ⟨hg, rfl, g0, g1, B4 _ _ nD.1 ed3, b3.trans B4, hp4⟩
    rintro σ4 H4 ⟨hg, rfl, g0, g1, ed4, b4, hp4⟩
    refine ⟨fun σ' H' => ∃ L, σ' = [some (.ref p), some (.int most), some (.int width), some (.ref q), some (.ref D), none, some (.int sh), some (.int hg), some (.ref L), none, none, none] ∧ H L = none ∧ (L ≠ p ∧ L ≠ l) ∧ L ≠ D ∧ H' L = some (.lst []) ∧ H' D = some (.lst (List.map V.str ds)) ∧ But p H H' ∧ PenL l H' p (n + 15), ?_, ?_⟩
    · refine ⟨by show 0 ≤ sizeLine; decide, fun L hL => ?_⟩
      have LD : L ≠ D := fun e => by rw [e, ed4] at hL; cases hL
      exact ⟨L, rfl, b4.free hp4.pen hL, hp4.ne hL, LD, upd_same, by rw [upd_ne LD.symm]; exact ed4, b4.trans (But.new hL), hp4.put (hp4.ne hL)⟩
    rintro σ5 H5 ⟨L, rfl, hL, nL, LD, el5, ed5, b5, hp5⟩
    refine ⟨fun σ' H' => ∃ ts rs v9 v10 v11, σ' = [some (.ref p), some (.int most), some (.int width), some (.ref q), some (.ref D), none, some (.int sh), some (.int hg), some (.ref L), v9, v10, v11] ∧ H' L = some (.lst (List.map V.ref ts)) ∧ Paired (fun t r => RowAt H' t r ∧ H t = none) ts rs ∧ Asc rs ∧ (∀ r ∈ rs, RowOk r ∧ (r.hi ≤ r.lo + 3 ∨ r.hi ≤ r.lo + width)) ∧ (rs.length : Int) ≤ most ∧ But p H H' ∧ PenL l H' p (n + 70) ∧ (∀ r ∈ rs, r.nm ∈ names12), ?_, ?_⟩
    · refine ⟨_, rfl, D, ds, rfl, SqL.of ed5, by omega, fun ys S perm srt hS => ?_⟩
      have nS := hp5.ne hS
      have LS : L ≠ S := fun e => by rw [← e, el5] at hS; cases hS
      have hS0 : H S = none := b5.free hp5.pen hS
      have ylen : (ys.length : Int) ≤ most := by rw [perm.length_eq]; exact dlen
      refine ⟨S, rfl, ⟨_, SqL.of upd_same⟩, for_list (xs := ys.map V.str) (fun i σ' H' => ∃ ts rs v9 v10 v11, σ' = [some (.ref p), some (.int most), some (.int width), some (.ref q), some (.ref D), none, some (.int sh), some (.int hg), some (.ref L), v9, v10, v11] ∧
        rs.map (·.nm) = ys.take i ∧ (∀ r ∈ rs, RowOk r ∧ (r.hi ≤ r.lo + 3 ∨ r.hi ≤ r.lo + width)) ∧ RowsSt H l p L S ys ts rs H' (n + 15 + 4 * i)) ?_ ?_ ?_ ?_⟩
      · exact ⟨[], [], none, none, none, rfl, rfl, fun _ z => (nomatch z), upd_same, by rw [upd_ne LS]; exact el5, .nil, b5.of hS0, hp5.put nS, nS, nL, LS⟩
      · rintro i σ' H' hi ⟨ts, rs, v9, v10, v11, rfl, enm, rok, st⟩
        exact SqL.of st.eS
      · rintro i x σ' H6 hx ⟨ts, rs, v9, v10, v11, rfl, enm, rok, st⟩
        have hi : i < ys.length := by
          rw [List.getElem?_map] at hx
          by_cases q : i < ys.length
          · exact q
          · rw [List.getElem?_eq_none (by omega)] at hx
            cases hx
        rw [List.getElem?_map, List.getElem?_eq_getElem hi] at hx
        have ex : V.str ys[i] = x := Option.some.inj hx
        subst ex
        have i11 : i ≤ 10 := by omega
        refine ⟨fun σ' H' => ∃ at_ : Int, σ' = [some (.ref p), some (.int most), some (.int width), some (.ref q), some (.ref D), none, some (.int sh), some (.int hg), some (.ref L), some (.str ys[i]), some (.int at_), v11] ∧ -100000000000 ≤ at_ ∧ at_ ≤ 100000001000 ∧ RowsSt H l p L S ys ts rs H' (n + 15 + 4 * i + 1), ?_, ?_⟩
        · refine ⟨_, rfl, _, rfl, _, rfl, l, p, _, width, rfl, st.pen, by omega, by omega, by omega, fun u H7 u0 u1 b7 hp7 => ?_⟩
          exact ⟨_, _, rfl, rfl, sh + u, rfl, by omega, by omega, st.next b7 hp7⟩
        rintro σ7 H7 ⟨at_, rfl, a0, a1, st7⟩
        refine ⟨fun σ' H' => ∃ sz : Int, σ' = [some (.ref p), some (.int most), some (.int width), some (.ref q), some (.ref D), none, some (.int sh), some (.int hg), some (.ref L), some (.str ys[i]), some (.int at_), some (.int sz)] ∧ 0 ≤ sz ∧ sz ≤ 1000 ∧ (sz ≤ 3 ∨ sz ≤ width) ∧ RowsSt H l p L S ys ts rs H' (n + 15 + 4 * i + 3), ?_, ?_⟩
        · refine ⟨_, rfl, _, rfl, l, p, _, width, rfl, st7.pen, by omega, by omega, by omega, fun u H8 u0 u1 b8 hp8 => ?_⟩
          refine ⟨_, _, rfl, rfl, by show 5 ≤ sizeLine; decide, fun r hr => ?_⟩
          have nr := hp8.ne hr
          refine ⟨_, rfl, l, p, _, 5, rfl, hp8.put nr, by omega, by decide, by decide, fun u2 H9 u3 u4 b9 hp9 => ?_⟩
          obtain ⟨v, hv, hm, hs, B9⟩ := Pen.pick (K := K) (H0 := H7) hp8.pen hr b9 u3 u4 rfl b8
          refine ⟨r, _, _, _, rfl, rfl, hs, hv, ?_⟩
          obtain ⟨sz, rfl, g0, g1, g2⟩ : ∃ sz : Int, v = V.int sz ∧ 0 ≤ sz ∧ sz ≤ 1000 ∧ (sz ≤ 3 ∨ sz ≤ width) := by
            simp only [List.mem_cons, List.not_mem_nil, or_false] at hm
            rcases hm with rfl | rfl | rfl | rfl | rfl
            · exact ⟨_, rfl, by decide, by decide, .inl (by decide)⟩
            · exact ⟨_, rfl, by decide, by decide, .inl (by decide)⟩
            · exact ⟨_, rfl, by decide, by decide, .inl (by decide)⟩
            · exact ⟨_, rfl, by decide, by decide, .inl (by decide)⟩
            · exact ⟨_, rfl, by omega, by omega, .inr (by omega)⟩
          exact ⟨sz, rfl, g0, g1, g2, st7.next B9 hp9⟩
        rintro σ8 H8 ⟨sz, rfl, z0, z1, z2, st8⟩
        obtain ⟨⟨nmo, nms⟩, _⟩ := dok _ (perm.mem_iff.mp (List.getElem_mem hi))
        have fewt : (ts.map V.ref).length < sizeLine := by
          have z := paired_len st8.pr
          have z2 : rs.length = min i ys.length := by rw [← List.length_take, ← enm, List.length_map]
          rw [List.length_map, sizeLine_eq]
          omega
        have tk : (rs ++ [Rw.mk ys[i] at_ (at_ + sz) 0]).map (·.nm) = ys.take (i + 1) := by
          rw [List.map_append, enm, List.take_add_one, List.getElem?_eq_getElem hi]
          rfl
        refine ⟨_, rfl, .inl ⟨rfl, _, SqL.of st8.eL⟩, _, rfl, _, rfl, _, rfl, _, rfl, _, _, rfl, rfl, _, rfl, rfl, _, rfl, ?_⟩
        dsimp only
        by_cases e0 : sz = 0
        · subst e0
          rw [if_pos (by decide)]
          refine ⟨by show 4 ≤ sizeLine; decide, fun t ht => ?_⟩
          have z := st8.add hL (r := ⟨ys[i], at_, at_ + 0, 0⟩) ht
          have tL : L ≠ t := fun e => by rw [← e, st8.eL] at ht; cases ht
          refine ⟨L, _, _, rfl, rfl, by rw [upd_ne tL]; exact st8.eL, fewt, ?_⟩
          refine ⟨ts ++ [t], rs ++ [⟨ys[i], at_, at_ + 0, 0⟩], _, _, _, rfl, tk, ?_, ?_⟩
          · intro r hr
            rcases List.mem_append.mp hr with hr | hr
            · exact rok r hr
            · rw [List.mem_singleton.mp hr]
              exact ⟨⟨nmo, nms, by show at_ ≤ at_ + 0; omega, fun _ => rfl, fun (c : at_ < at_ + 0) => by omega, by show _ < at_; omega, by show at_ + 0 < _; omega⟩, .inl (by show at_ + 0 ≤ at_ + 3; omega)⟩
          · rw [List.map_append] at z
            exact z.next (But.refl _ _) (z.pen.mono (by omega))
        · rw [if_neg (by simpa using e0)]
          refine ⟨_, rfl, _, rfl, l, p, _, hg, rfl, st8.pen, by omega, by omega, by omega, fun u H9 u0 u1 b9 hp9 => ?_⟩
          have st9 := st8.next b9 hp9
          refine ⟨_, _, rfl, rfl, by show 4 ≤ sizeLine; decide, fun t ht => ?_⟩
          have z := st9.add hL (r := ⟨ys[i], at_, at_ + sz, 1 + u⟩) ht
          have tL : L ≠ t := fun e => by rw [← e, st9.eL] at ht; cases ht
          refine ⟨L, _, _, rfl, rfl, by rw [upd_ne tL]; exact st9.eL, fewt, ?_⟩
          refine ⟨ts ++ [t], rs ++ [⟨ys[i], at_, at_ + sz, 1 + u⟩], _, _, _, rfl, by rw [List.map_append] at tk ⊢; exact tk, ?_, ?_⟩
          · intro r hr
            rcases List.mem_append.mp hr with hr | hr
            · exact rok r hr
            · rw [List.mem_singleton.mp hr]
              exact ⟨⟨nmo, nms, by show at_ ≤ at_ + sz; omega, fun (c : at_ = at_ + sz) => by omega, fun _ => ⟨by show 1 ≤ 1 + u; omega, by show 1 + u ≤ 999; omega⟩, by show _ < at_; omega, by show at_ + sz < _; omega⟩, by show at_ + sz ≤ at_ + 3 ∨ at_ + sz ≤ at_ + width; omega⟩
          · rw [List.map_append] at z
            exact z.next (But.refl _ _) (z.pen.mono (by omega))
      · rintro σ' H6 ⟨ts, rs, v9, v10, v11, rfl, enm, rok, st⟩
        rw [List.length_map, List.take_length] at enm
        have hl2 : rs.length = ys.length := by rw [← enm, List.length_map]
        have asc : Asc rs := by
          have z := sortedS_lt srt (perm.nodup_iff.mpr ndp)
          rw [← enm, List.pairwise_map] at z
          exact z
        refine ⟨ts, rs, v9, v10, v11, rfl, st.eL, st.pr, asc, rok, by omega, st.but, st.pen.mono (by rw [List.length_map]; omega), fun r hr => ?_⟩
        have z : r.nm ∈ rs.map (·.nm) := List.mem_map.mpr ⟨r, hr, rfl⟩
        rw [enm] at z
        exact (dok _ (perm.mem_iff.mp z)).2
    rintro σ6 H6 ⟨ts, rs, v9, v10, v11, rfl, el6, hrow, hasc, hok, hlen, b6, hp6, h12⟩
    exact ⟨_, rfl, k L ts rs H6 hL b6 hp6 el6 hrow hasc (fun r hr => (hok r hr).1) hlen h12 fun r hr => (hok r hr).2⟩
theorem ok_rowsN (T : Txt K mg a) : FnOk P w K mg base CX0 3 a.f__law_rows a.d__law_rows ["pen", "most", "width"] spRowsN :=
  (ok_rowsW T).imp fun vs H Q E ⟨l, p, n, most, width, e, hp, hn, m0, m1, w0, w1, k⟩ => ⟨l, p, n, most, width, e, hp, hn, m0, m1, w0, w1, fun L ts rs H' h1 h2 h3 h4 h5 h6 h7 h8 h9 _ => k L ts rs H' h1 h2 h3 h4 h5 h6 h7 h8 h9⟩
theorem ok_rows (T : Txt K mg a) : FnOk P w K mg base CX0 3 a.f__law_rows a.d__law_rows ["pen", "most", "width"] spRows :=
  (ok_rowsN T).imp fun vs H Q E ⟨l, p, n, most, width, e, hp, hn, m0, m1, w0, w1, k⟩ => ⟨l, p, n, most, width, e, hp, hn, m0, m1, w0, w1, fun L ts rs H' h1 h2 h3 h4 h5 h6 h7 h8 _ => k L ts rs H' h1 h2 h3 h4 h5 h6 h7 h8⟩
end
end Ask

set_option Elab.async false
set_option linter.all false
set_option maxRecDepth 100000
set_option maxHeartbeats 4000000
set_option pp.deepTerms false
set_option pp.deepTerms.threshold 14
namespace Ask
open PySem L2
open PyProof.Rows
section
variable {P : Program} {w : World} {K : PySem.W.Frag} {mg : Str → Option Value} {base : Heap} {a : Ad}
/-- two items of one row -/
def SameRow (C : Addr) (x y : Addr) (H : Hp) : Prop := ∃ r, ItemIs C H x r ∧ ItemIs C H y r
theorem ok_eqR (T : Txt K mg a) : FnOk P w K mg base CX0 1 a.f_Item___eq__ a.d_Item___eq__ ["self", "other"] (spEq (SameRow a.c_Item)) := by
  refine T.F_Item___eq__.ok sc_Item___eq__ (fun vs H Q E h => ?_) (fun cdv A outer s H vs Q E hr h => ?_)
  · obtain ⟨x, y, rfl, _⟩ := h
    rfl
  · obtain ⟨x, y, rfl, ⟨r, ⟨dx, hx⟩, ⟨dy, hy⟩⟩, q⟩ := h
    refine ⟨_, (pss_one (ps_ret (pe_and (pe_callB call_isi (by rfl) T.b_isinstance (by decide +kernel) (pa_cons (pv 1) (pa_cons (pe_glob (v := .ref a.c_Item) rfl T.g_Item rfl) pa_nil))) (pe_and (pe_cmpR op_eq (pe_fld (pv 0) rfl) (pe_fld (pv 1) rfl) (nomark _)) (pe_and (pe_cmpR op_eq (pe_fld (pv 0) rfl) (pe_fld (pv 1) rfl) (nomark _)) (pe_and (pe_cmpR op_eq (pe_fld (pv 0) rfl) (pe_fld (pv 1) rfl) (nomark _)) (pe_one (pe_cmpR op_eq (pe_fld (pv 0) rfl) (pe_fld (pv 1) rfl) (nomark _))))))))), _, rfl, ?_⟩
    refine ⟨.ref y, .ref a.c_Item, _, _, true, rfl, .own _, T.ty_Item.of T.cl_Item hy, kit_self, true, rfl, iteT ?_⟩
    refine ⟨_, rfl, x, _, dx, _, _, rfl, hx, T.cl_Item, T.n_Item__name, l_name, _, rfl, y, _, dy, _, _, rfl, hy, T.cl_Item, T.n_Item__name, l_name, rfl, _, rfl, ?_⟩
    rw [decide_eq_true rfl]
    refine iteT ⟨_, rfl, x, _, dx, _, _, rfl, hx, T.cl_Item, T.n_Item__least, l_least, _, rfl, y, _, dy, _, _, rfl, hy, T.cl_Item, T.n_Item__least, l_least, rfl, _, rfl, ?_⟩
    rw [decide_eq_true rfl]
    refine iteT ⟨_, rfl, x, _, dx, _, _, rfl, hx, T.cl_Item, T.n_Item__greatest, l_greatest, _, rfl, y, _, dy, _, _, rfl, hy, T.cl_Item, T.n_Item__greatest, l_greatest, rfl, _, rfl, ?_⟩
    rw [decide_eq_true rfl]
    refine iteT ⟨_, rfl, x, _, dx, _, _, rfl, hx, T.cl_Item, T.n_Item__price, l_price, _, rfl, y, _, dy, _, _, rfl, hy, T.cl_Item, T.n_Item__price, l_price, rfl, ?_⟩
    rw [decide_eq_true rfl]
    exact q H Ext.rfl'
theorem ents_alike {CI : Addr} {H : Hp} {as bs : List Addr} {rs : List Rw} (hA : Items CI H as rs) (hB : Items CI H bs rs) (hn : (rs.map (·.nm)).Nodup) {p : Key × V} (hp : p ∈ ents as rs) :
    ∃ u, valV (ents bs rs) p.1 = some u ∧ ∃ x y r, p.2 = V.ref x ∧ u = V.ref y ∧ ItemIs CI H x r ∧ ItemIs CI H y r := by
  obtain ⟨i, e⟩ := List.mem_iff_getElem?.mp hp
  have k1 := congrArg (fun l : List Key => l[i]?) (ents_keys (paired_len hA))
  have k2 := congrArg (fun l : List V => l[i]?) (ents_vals (paired_len hA))
  simp only [List.getElem?_map, e, Option.map_some] at k1 k2
  cases ea : as[i]? with
  | none => rw [ea] at k2; cases k2
  | some x =>
  cases er : rs[i]? with
  | none => rw [er] at k1; cases k1
  | some r =>
  rw [ea] at k2
  rw [er] at k1
  have e1 : p.1 = Sum.inr r.nm := Option.some.inj k1
  have e2 : p.2 = V.ref x := Option.some.inj k2
  have il : i < bs.length := by rw [paired_len hB]; exact (List.getElem?_eq_some_iff.mp er).1
  obtain ⟨r1, g1, h1⟩ := LiI.paired_get hA ea
  obtain ⟨r2, g2, h2⟩ := LiI.paired_get hB (List.getElem?_eq_getElem il)
  rw [er] at g1 g2
  cases g1
  cases g2
  exact ⟨.ref bs[i], by rw [e1]; exact ents_some hn (List.getElem?_eq_getElem il) er, x, bs[i], r, e2, rfl, h1, h2⟩
/-- two pools of the same rows -/
def SamePool (C CI : Addr) (x y : Addr) (H : Hp) : Prop := ∃ dx dy d e as bs rs, H x = some (.ins C dx [("_by_name", .ref d)]) ∧ H y = some (.ins C dy [("_by_name", .ref e)]) ∧ H d = some (.dK (ents as rs)) ∧ H e = some (.dK (ents bs rs)) ∧ Items CI H as rs ∧ Items CI H bs rs ∧ (rs.map (·.nm)).Nodup
theorem ok_peq (T : Txt K mg a) : FnOk P w K mg base CX0 3 a.f_Pool___eq__ a.d_Pool___eq__ ["self", "other"] (spEq (SamePool a.c_Pool a.c_Item)) := by
  have G_eq : FnOk P w K mg base CX0 1 a.f_Item___eq__ a.d_Item___eq__ ["self", "other"] (spEq (SameRow a.c_Item)) := ok_eqR T
  refine T.F_Pool___eq__.ok sc_Pool___eq__ (fun vs H Q E h => ?_) (fun cdv A outer s H vs Q E hr h => ?_)
  · obtain ⟨x, y, rfl, _⟩ := h
    rfl
  · obtain ⟨x, y, rfl, ⟨dx, dy, d, e, as, bs, rs, hx, hy, hd, he, hA, hB, hn⟩, q⟩ := h
    have mD : Mon (DIns a.c_Item (SameRow a.c_Item)) := mon_ins fun x y H H' z ⟨r, ⟨du, hu⟩, ⟨dv, hv⟩⟩ => ⟨r, ⟨du, z _ _ hu⟩, ⟨dv, z _ _ hv⟩⟩
    refine ⟨_, (pss_one (ps_ret (pe_and (pe_callB call_isi (by rfl) T.b_isinstance (by decide +kernel) (pa_cons (pv 1) (pa_cons (pe_glob (v := .ref a.c_Pool) rfl T.g_Pool rfl) pa_nil))) (pe_one (pe_lock (pe_cmpR (op_eqDG mD (eqG_ins (E := E0) G_eq T.eq_Item.at_ T.eq_Item.fn T.b_Item___eq__ pass0) (hr.mono (by decide))) (pe_fld (pv 0) rfl) (pe_fld (pv 1) rfl) (nomark _))))))), ?_⟩
    have nxd : x ≠ d := fun c => by rw [c, hd] at hx; cases hx
    have nyd : y ≠ d := fun c => by rw [c, hd] at hy; cases hy
    refine ⟨_, rfl, .ref y, .ref a.c_Pool, _, _, true, rfl, .own _, T.ty_Pool.of T.cl_Pool hy, kit_self, true, rfl, iteT ?_⟩
    refine ⟨d, .dK (ents as rs), hd, trivial, fun o1 => ?_⟩
    have keep : ∀ {c o}, c ≠ d → H c = some o → upd H d (.frz o1 (.dK (ents as rs))) c = some o := fun {c o} h1 hc => by rw [upd_ne h1]; exact hc
    have row : ∀ {c r}, ItemIs a.c_Item H c r → ItemIs a.c_Item (upd H d (.frz o1 (.dK (ents as rs)))) c r := fun {c r} ⟨dc, hc⟩ =>
      ⟨dc, keep (fun z => by rw [z, hd] at hc; cases hc) hc⟩
    have rde : Rd (upd H d (.frz o1 (.dK (ents as rs)))) e (.dK (ents bs rs)) := by
      by_cases c : e = d
      · rw [c] at he ⊢
        rw [hd] at he
        have z : HO.dK (ents as rs) = .dK (ents bs rs) := Option.some.inj he
        rw [← z]
        exact .inr ⟨o1, upd_same⟩
      · exact .inl (keep c he)
    refine ⟨_, rfl, x, _, dx, _, _, rfl, keep nxd hx, T.cl_Pool, T.n_Pool__by_name, l_by, _, rfl, y, _, dy, _, _, rfl, keep nyd hy, T.cl_Pool, T.n_Pool__by_name, l_by, ?_⟩
    refine ⟨d, e, o1, _, _, rfl, rfl, upd_same, rde, ?_, fun p hp => ?_, fun H' ex => ?_⟩
    · rw [ents_len (paired_len hA), ents_len (paired_len hB)]
    · obtain ⟨u, hu, x', y', r, e1, e2, h1, h2⟩ := ents_alike hA hB hn hp
      obtain ⟨d1, h1'⟩ := row h1
      obtain ⟨d2, h2'⟩ := row h2
      exact ⟨u, hu, x', y', d1, d2, _, _, e1, e2, h1', h2', r, row h1, row h2⟩
    · refine ⟨ex _ _ upd_same, q _ fun c o hc => ?_⟩
      by_cases c1 : c = d
      · rw [c1] at hc ⊢
        rw [hd] at hc
        rw [upd_same]
        exact hc
      · rw [upd_ne c1]
        exact ex _ _ (keep c1 hc)
theorem PoolAt.two {C CI : Addr} {H : Hp} {x y : Addr} {rs : List Rw} (h : PoolAt C CI H x rs) (g : PoolAt C CI H y rs) (n : (rs.map (·.nm)).Nodup) : SamePool C CI x y H := by
  obtain ⟨dx, d, as, h1, h2, h3⟩ := h
  obtain ⟨dy, e, bs, g1, g2, g3⟩ := g
  exact ⟨dx, dy, d, e, as, bs, rs, h1, g1, h2, g2, h3, g3, n⟩
end
end Ask

set_option Elab.async false
set_option linter.all false
set_option maxRecDepth 100000
set_option maxHeartbeats 4000000
set_option pp.deepTerms false
set_option pp.deepTerms.threshold 14
namespace Ask
open PySem L2
open PyProof.Rows
section
variable {P : Program} {w : World} {K : PySem.W.Frag} {mg : Str → Option Value} {base : Heap} {a : Ad}
/-- Pool.read('') -/
def spRead0 (C CI : Addr) : Sp := fun vs H Q _ => vs = [.ref C, .str ""] ∧ ∀ y H', H y = none → Same H H' → PoolAt C CI H' y [] → Q (.ref y) H'
theorem ok_read0 (T : Txt K mg a) : FnOk P w K mg base CX0 5 a.f_Pool_read a.d_Pool_read ["cls", "text"] (spRead0 a.c_Pool a.c_Item) := by
  refine T.F_Pool_read.ok sc_Pool_read (fun vs H Q E h => ?_) (fun cdv A outer s H vs Q E hr h => ?_)
  · obtain ⟨rfl, _⟩ := h
    rfl
  · obtain ⟨rfl, k⟩ := h
    have nd := sc_Pool_read.nd
    refine ⟨_, (pss_cons (ps_if (pt_not (pt_val (pe_callB call_isi (by rfl) T.b_isinstance (by decide +kernel) (pa_cons (pv 1) (pa_cons (pe_bltn (v := .ty "str") (by rfl) T.b_str (by decide +kernel) rfl) pa_nil)))))
    (pss_one ps_never)
    pss_nil)
  (pss_cons (ps_set (i := 2) nd rfl (by first | exact Or.inl rfl | exact Or.inr rfl) (pe_ifExp (pt_cmpR op_ne (pv 1) pe_str (nomark _)) (pe_nope) (pe_lst pa_nil)))
  (pss_cons (ps_set (i := 3) nd rfl (by first | exact Or.inl rfl | exact Or.inr rfl) (pe_lst pa_nil))
  (pss_cons (ps_for PassesOwn.never rfl (pi_enum (by rfl) T.b_enumerate (pa_cons (pv 2) pa_nil)) (pg_tup (by rfl) (pgs_cons (pg_name (i := 4) nd rfl (by first | exact Or.inl rfl | exact Or.inr rfl)) (pgs_cons (pg_name (i := 5) nd rfl (by first | exact Or.inl rfl | exact Or.inr rfl)) pgs_nil)))
    (pss_cons (ps_nope)
  (pss_cons (ps_nope)
  (pss_one (ps_nope)))))
  (pss_one (ps_ret (pe_makeLS (i := 0) T.mk_Pool (r_pinit T) (hr.mono (by decide)) rfl (Or.inl rfl) pass0 (pv 3)))))))), ?_⟩
    refine ⟨_, rfl, .str "", .ty "str", _, _, true, rfl, .ty _, .base (.str _), kit_ty (by decide +kernel), true, rfl, iteF ?_⟩
    refine ⟨_, rfl, rfl, _, rfl, ?_⟩
    dsimp only
    rw [if_neg (by decide)]
    refine ⟨Nat.zero_le _, fun q hq => ?_⟩
    refine ⟨Nat.zero_le _, fun M hM => ?_⟩
    have S1 := Same.new hq (o := .lst [])
    have S2 := Same.grow S1 hM (o := .lst [])
    refine ⟨_, rfl, q, [], rfl, SqL.of (Same.new hM _ _ upd_same), ?_⟩
    have eM : upd (upd H q (.lst [])) M (.lst []) M = some (.lst []) := upd_same
    have eq2 : upd (upd H q (.lst [])) M (.lst []) q = some (.lst []) := Same.new hM _ _ upd_same
    generalize upd (upd H q (.lst [])) M (.lst []) = H2 at S2 eM eq2 ⊢
    refine ⟨fun i m σ' H' => i = 0 ∧ σ' = [some (.ref a.c_Pool), some (.str ""), some (.ref q), some (.ref M), none, none, none] ∧ H' = H2, ⟨0, rfl, rfl, rfl⟩, ?_⟩
    rintro i m σ' H' ⟨rfl, rfl, rfl⟩
    refine .inl ⟨⟨[], SqL.of eq2, Nat.le_refl _⟩, rfl, _, rfl, M, [], rfl, .inr (SqL.of eM), fun x dx hx hdx ne => ?_⟩
    refine ⟨x, dx, [], [], rfl, upd_same, .nil, List.nodup_nil, by decide, fun H3 rs' hb hp hm asc => ⟨rfl, ?_⟩⟩
    have e : rs' = [] := List.eq_nil_iff_forall_not_mem.mpr fun r hr => by
      have z := (hm r).mp hr
      cases z
    have S3 := made hx hdx hb
    exact k x H3 (S2.free hx) (fun b o c => S3 _ _ (S2 _ _ c)) (e ▸ hp)
end
end Ask

set_option Elab.async false
set_option linter.all false
set_option maxRecDepth 100000
set_option maxHeartbeats 4000000
set_option pp.deepTerms false
set_option pp.deepTerms.threshold 14
namespace Ask
open PySem L2
open PyProof.Rows
section
variable {P : Program} {w : World} {K : PySem.W.Frag} {mg : Str → Option Value} {base : Heap} {a : Ad}
theorem init_kw (T : Txt K mg a) : ∃ mv : List Value, KBn K a.d_Item___init__ ["self", "name", "least", "greatest", "price"] 4 ["price"] (fun us ws => us ++ ws) (fun vs zs => vs ++ zs) := by
  refine T.F_Item___init__.kbinds0 (ps := ["self", "name", "least", "greatest", "price"]) 4 ["price"] [] (fun us _ ws => us ++ ws) (by simp) (by simp) (fun h1 _ h3 => h1.append h3) ?_
  intro D doc pm an cdv ct us mv ws l1 l2 l3
  match us, mv, ws, l1, l2, l3 with
  | [_, _, _, _], [], [_], _, _, _ => rfl
theorem paired_app {α β : Type} {F : α → β → Prop} : ∀ {xs : List α} {ys : List β} {xs' : List α} {ys' : List β}, Paired F xs ys → Paired F xs' ys' → Paired F (xs ++ xs') (ys ++ ys')
  | _, _, _, _, .nil, h => h
  | _, _, _, _, .cons a b, h => .cons a (paired_app b h)
theorem paired_rev {α β : Type} {F : α → β → Prop} : ∀ {xs : List α} {ys : List β}, Paired F xs ys → Paired F xs.reverse ys.reverse
  | _, _, .nil => .nil
  | x :: _, y :: _, .cons a b => by
    rw [List.reverse_cons, List.reverse_cons]
    exact paired_app (paired_rev b) (.cons a .nil)
theorem paired_tk {α β : Type} {F : α → β → Prop} : ∀ {xs : List α} {ys : List β} (n : Nat), Paired F xs ys → Paired F (xs.take n) (ys.take n)
  | _, _, 0, _ => by rw [List.take_zero, List.take_zero]; exact .nil
  | _, _, _ + 1, .nil => .nil
  | _, _, n + 1, .cons a b => .cons a (paired_tk n b)
theorem paired_dr {α β : Type} {F : α → β → Prop} : ∀ {xs : List α} {ys : List β} (n : Nat), Paired F xs ys → Paired F (xs.drop n) (ys.drop n)
  | _, _, 0, h => h
  | _, _, _ + 1, .nil => .nil
  | _, _, n + 1, .cons _ b => paired_dr n b
theorem nodup_le {α : Type} [DecidableEq α] : ∀ {l m : List α}, l.Nodup → (∀ x ∈ l, x ∈ m) → l.length ≤ m.length
  | [], _, _, _ => Nat.zero_le _
  | x :: l, m, n, h => by
    rw [List.nodup_cons] at n
    have hx := h x List.mem_cons_self
    have z := nodup_le (m := m.erase x) n.2 fun y hy => (List.mem_erase_of_ne (fun e => n.1 (by rw [← e]; exact hy))).mpr (h y (List.mem_cons_of_mem _ hy))
    rw [List.length_erase_of_mem hx] at z
    have z2 := List.length_pos_of_mem hx
    rw [List.length_cons]
    omega
def pickA {α : Type} (ts : List α) (ns : List Nat) : List α := ns.filterMap (ts[·]?)
theorem pick_map {α : Type} (f : α → V) (ts : List α) (lo hi st : Option Int) : pickV (ts.map f) lo hi st = (pickA ts (places ts.length lo hi st)).map f := by
  unfold pickV pickA
  rw [List.length_map, List.map_filterMap]
  exact fm_congr fun i _ => by rw [List.getElem?_map]
theorem paired_pick {α β : Type} {F : α → β → Prop} {ts : List α} {rs : List β} (h : Paired F ts rs) : ∀ ns : List Nat, Paired F (pickA ts ns) (pickA rs ns)
  | [] => .nil
  | n :: ns => by
    have t := paired_pick h ns
    have len := paired_len h
    unfold pickA at t ⊢
    by_cases c : n < ts.length
    · have c' : n < rs.length := by omega
      obtain ⟨r, hr, hf⟩ := LiI.paired_get h (List.getElem?_eq_getElem c)
      rw [List.filterMap_cons_some (List.getElem?_eq_getElem c), List.filterMap_cons_some hr]
      exact .cons hf t
    · rw [List.filterMap_cons_none (List.getElem?_eq_none (by omega)), List.filterMap_cons_none (List.getElem?_eq_none (by omega))]
      exact t
theorem halves : ∀ n : Fin 64, (places n (some 1) none (some 2) ++ (places n none none (some 2)).reverse).isPerm (List.range n) = true := by decide +kernel
theorem pick_halves {α : Type} (ts : List α) (h : ts.length < 64) : (pickA ts (places ts.length (some 1) none (some 2)) ++ (pickA ts (places ts.length none none (some 2))).reverse).Perm ts := by
  have p := List.isPerm_iff.mp (halves ⟨ts.length, h⟩)
  have q := p.filterMap (ts[·]?)
  rw [some_all, List.filterMap_append, List.filterMap_reverse] at q
  exact q
def spLMade (C CI : Addr) : Sp := fun vs H Q _ => ∃ L ts rs, vs = [.ref L] ∧ H L = some (.lst (List.map V.ref ts)) ∧ Paired (RowAt H) ts rs ∧ (rs.map (·.nm)).Nodup ∧ (∀ r ∈ rs, RowOk r) ∧ rs.length < 64 ∧
  ∀ y H' ps, H y = none → Same H H' → PoolAt C CI H' y ps → Asc ps → (∀ r, r ∈ ps ↔ r ∈ rs) → Q (.ref y) H'
theorem ok_lmade (T : Txt K mg a) : FnOk P w K mg base CX0 6 a.f__law_made a.d__law_made ["rows"] (spLMade a.c_Pool a.c_Item) := by
  have G_init : FnOk P w K mg base CX0 3 a.f_Item___init__ a.d_Item___init__ ["self", "name", "least", "greatest", "price"] (spInit a.c_Item) := ok_init T
  have G_read : FnOk P w K mg base CX0 5 a.f_Pool_read a.d_Pool_read ["cls", "text"] (spRead0 a.c_Pool a.c_Item) := ok_read0 T
  obtain ⟨mv, hkb⟩ := init_kw T
  refine T.F__law_made.ok sc__law_made (fun vs H Q E h => ?_) (fun cdv A outer s H vs Q E hr h => ?_)
  · obtain ⟨L, ts, rs, rfl, _⟩ := h
    rfl
  · obtain ⟨L, ts, rs, rfl, hL, pr, hn, rok, n64, k⟩ := h
    have nd := sc__law_made.nd
    refine ⟨_, (Evl.pss_cut (ps_set (i := 1) nd rfl (by first | exact Or.inl rfl | exact Or.inr rfl) (ClX.pe_cmeth (pe_glob (v := .ref a.c_Pool) rfl T.g_Pool rfl) T.rd_Pool T.m_Pool_read (G_read.raw T.b_Pool_read .nil) (hr.mono (by decide)) pass0 (pa_cons pe_str pa_nil)))
  (Evl.pss_cut (ps_for PassesOwn.never rfl (pi_list (pe_op op_cat (pe_slice3 (pv 0) (po_some pe_int) po_none (po_some pe_int)) (pe_revL (pe_slice3 (pv 0) po_none po_none (po_some pe_int))))) (pg_name (i := 2) nd rfl (by first | exact Or.inl rfl | exact Or.inr rfl))
    (pss_one (ps_set (i := 1) nd rfl (by first | exact Or.inl rfl | exact Or.inr rfl) (pe_methR (pv 1) T.cl_Pool T.m_Pool_with_items (r_pwith T) (hr.mono (by decide)) pass0 (pa_cons (pe_makeK T.mk_Item G_init (hr.mono (by decide)) rfl T.g_Item hkb pass0 (pa_cons (pe_ix ix_tup (pv 2) pe_int (fun _ _ => rfl)) (pa_cons (pe_ix ix_tup (pv 2) pe_int (fun _ _ => rfl)) (pa_cons (pe_ix ix_tup (pv 2) pe_int (fun _ _ => rfl)) pa_nil))) (pk_cons (pe_callB (call_max2 rfl) (by rfl) T.b_max (by decide +kernel) (pa_cons pe_int (pa_cons (pe_ix ix_tup (pv 2) pe_int (fun _ _ => rfl)) pa_nil))) pk_nil)) pa_nil)))))
  (pss_one (ps_ret (pv 1))))), ?_⟩
    have len2 := paired_len pr
    refine ⟨fun σ' H' => ∃ y, σ' = [some (.ref L), some (.ref y), none] ∧ H y = none ∧ Same H H' ∧ PoolAt a.c_Pool a.c_Item H' y [], ?_, ?_⟩
    · exact ⟨rfl, rfl, fun y H' hy S hp => ⟨y, rfl, hy, S, hp⟩⟩
    rintro σ2 H2 ⟨y, rfl, hy, S2, hp2⟩
    have eL := S2 _ _ hL
    have t64 : ts.length < 64 := by rw [len2]; exact n64
    have half := (pick_halves ts t64).length_eq
    rw [List.length_append, List.length_reverse] at half
    refine ⟨fun σ' H' => ∃ y v2, σ' = [some (.ref L), some (.ref y), v2] ∧ H y = none ∧ Same H H' ∧ ∃ ps, PoolAt a.c_Pool a.c_Item H' y ps ∧ Asc ps ∧ ∀ r, r ∈ ps ↔ r ∈ rs, ?_, ?_⟩
    · refine ⟨_, rfl, 1, rfl, 2, rfl, by decide, L, _, rfl, SqL.of eL, ?_, fun p1 hp1 => ?_⟩
      · rw [pick_map, List.length_map, sizeLine_eq]
        omega
      rw [pick_map]
      have T1 := Same.new hp1 (o := .lst ((pickA ts (places ts.length (some 1) none (some 2))).map V.ref))
      refine ⟨_, rfl, 2, rfl, by decide, L, _, rfl, SqL.of (T1 _ _ eL), ?_, fun p2 hp2' => ?_⟩
      · rw [pick_map, List.length_map, sizeLine_eq]
        omega
      rw [pick_map]
      have T2 := Same.grow T1 hp2' (o := .lst ((pickA ts (places ts.length none none (some 2))).map V.ref))
      refine ⟨p2, _, rfl, SqL.of upd_same, fun p3 hp3 => ?_⟩
      have T3 := Same.grow T2 hp3 (o := .lst ((pickA ts (places ts.length none none (some 2))).map V.ref).reverse)
      refine ⟨p1, p3, _, _, rfl, rfl, Same.new hp3 _ _ (Same.new hp2' _ _ upd_same), upd_same, ?_, fun p4 hp4 => ?_⟩
      · rw [List.length_reverse, List.length_map, List.length_map, sizeLine_eq]
        omega
      have T4 := Same.grow T3 hp4 (o := .lst ((pickA ts (places ts.length (some 1) none (some 2))).map V.ref ++ ((pickA ts (places ts.length none none (some 2))).map V.ref).reverse))
      have at4 : upd (upd (upd (upd H2 p1 (.lst ((pickA ts (places ts.length (some 1) none (some 2))).map V.ref))) p2 (.lst ((pickA ts (places ts.length none none (some 2))).map V.ref))) p3 (.lst ((pickA ts (places ts.length none none (some 2))).map V.ref).reverse)) p4 (.lst ((pickA ts (places ts.length (some 1) none (some 2))).map V.ref ++ ((pickA ts (places ts.length none none (some 2))).map V.ref).reverse)) p4 = some (.lst ((pickA ts (places ts.length (some 1) none (some 2))).map V.ref ++ ((pickA ts (places ts.length none none (some 2))).map V.ref).reverse)) := upd_same
      generalize upd (upd (upd (upd H2 p1 (.lst ((pickA ts (places ts.length (some 1) none (some 2))).map V.ref))) p2 (.lst ((pickA ts (places ts.length none none (some 2))).map V.ref))) p3 (.lst ((pickA ts (places ts.length none none (some 2))).map V.ref).reverse)) p4 (.lst ((pickA ts (places ts.length (some 1) none (some 2))).map V.ref ++ ((pickA ts (places ts.length none none (some 2))).map V.ref).reverse)) = H4 at T4 at4 ⊢
      rw [← List.map_reverse, ← List.map_append] at at4
      have pr' : Paired (RowAt H) (pickA ts (places ts.length (some 1) none (some 2)) ++ (pickA ts (places ts.length none none (some 2))).reverse) (pickA rs (places ts.length (some 1) none (some 2)) ++ (pickA rs (places ts.length none none (some 2))).reverse) := paired_app (paired_pick pr _) (paired_rev (paired_pick pr _))
      have perm : (pickA rs (places ts.length (some 1) none (some 2)) ++ (pickA rs (places ts.length none none (some 2))).reverse).Perm rs := by rw [len2]; exact pick_halves rs n64
      have nq := (perm.map (·.nm)).nodup_iff.mpr hn
      have S4 : Same H H4 := fun b o e => T4 _ _ (S2 _ _ e)
      have hp4' := hp2.same T4
      clear T1 T2 T3 T4 hp2 hp4 hp3 hp2' hp1 half
      generalize pickA ts (places ts.length (some 1) none (some 2)) ++ (pickA ts (places ts.length none none (some 2))).reverse = us at at4 pr'
      generalize pickA rs (places ts.length (some 1) none (some 2)) ++ (pickA rs (places ts.length none none (some 2))).reverse = qs at pr' perm nq
      refine ⟨p4, rfl, ⟨_, SqL.of at4⟩, for_list (xs := us.map V.ref) (fun i σ' H' => ∃ y v2 ps, σ' = [some (.ref L), some (.ref y), v2] ∧ H y = none ∧ Same H4 H' ∧ PoolAt a.c_Pool a.c_Item H' y ps ∧ Asc ps ∧ ∀ r, r ∈ ps ↔ r ∈ qs.take i) ?_ ?_ ?_ ?_⟩
      · exact ⟨y, none, [], rfl, hy, fun _ _ e => e, hp4', .nil, fun r => by rw [List.take_zero]⟩
      · rintro i σ' H' hi ⟨y, v2, ps, rfl, hy, S5, hp5, ap, mp⟩
        exact SqL.of (S5 _ _ at4)
      · rintro i x σ' H5 hx ⟨y, v2, ps, rfl, hy, S5, hp5, ap, mp⟩
        rw [List.getElem?_map] at hx
        cases eu : us[i]? with
        | none => rw [eu] at hx; cases hx
        | some u =>
          rw [eu] at hx
          have ex : V.ref u = x := Option.some.inj hx
          subst ex
          obtain ⟨r, er, hr0⟩ := paired_get pr' eu
          have rm : r ∈ rs := perm.mem_iff.mp (List.mem_of_getElem? er)
          have R := rok r rm
          have atr := SqT.of (K := K) (S5 _ _ (S4 _ _ hr0))
          obtain ⟨dy, d, as, h1, h2, h3⟩ := id hp5
          refine ⟨_, rfl, y, dy, _, rfl, h1, rfl, _, rfl, u, _, _, _, rfl, rfl, atr, rfl, _, rfl, u, _, _, _, rfl, rfl, atr, rfl, _, rfl, u, _, _, _, rfl, rfl, atr, rfl, _, rfl, u, _, _, _, rfl, rfl, atr, rfl, _, _, rfl, rfl, rfl, fun z dz hz hdz ne => ?_⟩
          have hpI : prI r.lo r.hi (if r.pr > 1 then r.pr else 1) = r.pr := by
            unfold prI
            by_cases e : r.lo = r.hi
            · rw [if_pos e, R.ex e]
            · have z := R.op (by have z := R.le; omega)
              rw [if_neg e]
              by_cases q : r.pr > 1
              · rw [if_pos q]
              · rw [if_neg q]
                omega
          have hb1 : 1 ≤ (if r.pr > 1 then r.pr else 1) ∧ (if r.pr > 1 then r.pr else 1) ≤ 999 := by
            by_cases q : r.pr > 1
            · rw [if_pos q]
              by_cases e : r.lo = r.hi
              · have z := R.ex e
                omega
              · have z := R.op (by have z := R.le; omega)
                omega
            · rw [if_neg q]
              omega
          have psl : ps.length ≤ 63 := by
            have z := nodup_le (l := ps) (m := rs) (by have z := ap.nodup; exact List.Pairwise.of_map _ (fun _ _ h e => h (by rw [e])) z) fun x hx => perm.mem_iff.mp (List.mem_of_mem_take ((mp x).mp hx))
            omega
          refine ⟨z, dz, r.nm, r.lo, r.hi, _, rfl, upd_same, R.nm, R.le, hb1.1, hb1.2, fun H6 hb hz' => ⟨rfl, ?_⟩⟩
          rw [hpI] at hz'
          have S6 := made hz hdz hb
          refine ⟨y, [z], ps, [r], rfl, hp5.same S6, ap.nodup, .cons ⟨dz, hz'⟩ .nil, by show ps.length + 1 < 1000; omega, ?_, fun y' H' rs' hy' S' hp' hm' asc' => ?_⟩
          · have e1 : putAll ps [r] = putR ps r := rfl
            rw [e1]
            have n1 := putR_nodup (r := r) ap.nodup
            have z := nodup_le (l := putR ps r) (m := rs) (List.Pairwise.of_map _ (fun _ _ h e => h (by rw [e])) n1) fun x hx => by
              rcases putR_mem.mp hx with rfl | ⟨h, _⟩
              · exact rm
              · exact perm.mem_iff.mp (List.mem_of_mem_take ((mp x).mp h))
            omega
          · have Sx : Same H H6 := fun b o e => S6 _ _ (S5 _ _ (S4 _ _ e))
            refine ⟨y', _, rs', rfl, Sx.free hy', fun b o e => S' _ _ (S6 _ _ (S5 _ _ e)), hp', asc', fun x => ?_⟩
            rw [hm' x]
            show x ∈ putR ps r ↔ _
            rw [putR_mem, List.take_add_one, er, List.mem_append, mp x]
            show _ ↔ _ ∨ x ∈ [r]
            rw [List.mem_singleton]
            constructor
            · rintro (rfl | ⟨h, _⟩)
              · exact .inr rfl
              · exact .inl h
            · rintro (h | rfl)
              · refine .inr ⟨h, fun e => ?_⟩
                have zz := nq
                rw [← List.take_append_drop i qs, List.map_append, List.nodup_append] at zz
                have rd : r ∈ qs.drop i := List.mem_of_getElem? (i := 0) (by rw [List.getElem?_drop]; exact er)
                exact zz.2.2 x.nm (List.mem_map.mpr ⟨x, h, rfl⟩) r.nm (List.mem_map.mpr ⟨r, rd, rfl⟩) e
              · exact .inl rfl
      · rintro σ' H5 ⟨y, v2, ps, rfl, hy, S5, hp5, ap, mp⟩
        rw [List.length_map, paired_len pr', List.take_length] at mp
        exact ⟨y, v2, rfl, hy, fun b o e => S5 _ _ (S4 _ _ e), ps, hp5, ap, fun r => (mp r).trans perm.mem_iff⟩
    rintro σ3 H3 ⟨y3, v2, rfl, hy3, S3, ps, hp3, ap, mp⟩
    exact ⟨_, rfl, k y3 H3 ps hy3 S3 hp3 ap mp⟩
end
end Ask

set_option Elab.async false
set_option linter.all false
set_option maxRecDepth 100000
set_option maxHeartbeats 4000000
namespace Ask
open PySem L2
open PyProof.Rows
section
variable {P : Program} {w : World} {K : PySem.W.Frag} {mg : Str → Option Value} {base : Heap} {a : Ad}
def spBefore (C : Addr) : Sp := fun vs H Q _ => ∃ x nm lo hi pr y nm' lo' hi' pr', vs = [.ref x, .ref y] ∧ ItemAt C H x nm lo hi pr ∧ ItemAt C H y nm' lo' hi' pr' ∧ Q (.bl (decide (hi < lo'))) H
theorem ok_before (T : Txt K mg a) : FnOk P w K mg base CX0 3 a.f_Item_is_surely_before a.d_Item_is_surely_before ["self", "other"] (spBefore a.c_Item) := by
  have G_least : FnOk P w K mg base CX0 1 a.f_Item_least a.d_Item_least ["self"] (spLeast a.c_Item) := ok_least T
  refine T.F_Item_is_surely_before.ok sc_Item_is_surely_before (fun vs H Q E h => ?_) (fun cdv A outer s H vs Q E hr h => ?_)
  · obtain ⟨x, nm, lo, hi, pr, y, nm', lo', hi', pr', rfl, _⟩ := h
    rfl
  · obtain ⟨x, nm, lo, hi, pr, y, nm', lo', hi', pr', rfl, ⟨dx, hx⟩, ⟨dy, hy⟩, q⟩ := h
    refine ⟨_, (pss_one (ps_ret (pe_cmpR op_lt (pe_fld (pv 0) rfl) (pe_prop (pv 1) T.cl_Item T.m_Item_least G_least (hr.mono (by decide)) T.b_Item_least .nil pass0 rfl) (nomark _)))), _, rfl, x, _, dx, _, _, rfl, hx, T.cl_Item, T.n_Item__greatest, l_greatest, ?_⟩
    exact ⟨_, rfl, y, dy, _, rfl, hy, y, _, _, _, _, rfl, ⟨dy, hy⟩, _, _, rfl, rfl, q⟩
end
end Ask

set_option Elab.async false
set_option linter.all false
set_option maxRecDepth 100000
set_option maxHeartbeats 4000000
set_option pp.deepTerms false
set_option pp.deepTerms.threshold 14
namespace Ask
open PySem L2
open PyProof.Rows
section
variable {P : Program} {w : World} {K : PySem.W.Frag} {mg : Str → Option Value} {base : Heap} {a : Ad}
theorem op_notIn_seqK {X : Cx} {K : PySem.W.Frag} (h : X.K = K) : OpR X (compareOp .NotIn) (rIn K true) := h ▸ op_notIn_seq
/-- rows of a pool -/
structure RowsP (rs : List Rw) : Prop where
  asc : Asc rs
  nm : ∀ r ∈ rs, nameB r.nm = true
  len : rs.length < 64
abbrev spValue (C : Addr) : Sp := spPart C fun _ lo hi _ => if lo = hi then .int lo else .non
theorem ok_value (T : Txt K mg a) : FnOk P w K mg base CX0 3 a.f_Item_value a.d_Item_value ["self"] (spValue a.c_Item) := by
  have G_is_exact : FnOk P w K mg base CX0 1 a.f_Item_is_exact a.d_Item_is_exact ["self"] (spIsExact a.c_Item) := ok_is_exact T
  refine T.F_Item_value.ok sc_Item_value (fun vs H Q E h => ?_) (fun cdv A outer s H vs Q E hr h => ?_)
  · obtain ⟨x, nm, lo, hi, pr, rfl, _⟩ := h
    rfl
  · obtain ⟨x, nm, lo, hi, pr, rfl, ⟨dx, hx⟩, q⟩ := h
    refine ⟨_, (pss_one (ps_ret (pe_ifExp (pt_val (pe_prop (pv 0) T.cl_Item T.m_Item_is_exact G_is_exact (hr.mono (by decide)) T.b_Item_is_exact .nil pass0 rfl)) (pe_fld (pv 0) rfl) pe_non))), ?_⟩
    refine ⟨_, rfl, x, dx, _, rfl, hx, x, _, _, _, _, rfl, ⟨dx, hx⟩, _, rfl, ?_⟩
    dsimp only
    by_cases e : lo = hi
    · rw [decide_eq_true e, if_pos rfl]
      dsimp only at q
      rw [if_pos e] at q
      exact ⟨_, rfl, x, _, dx, _, _, rfl, hx, T.cl_Item, T.n_Item__least, l_least, q⟩
    · rw [decide_eq_false e, if_neg (by decide)]
      dsimp only at q
      rw [if_neg e] at q
      exact q
def belowB (lo hi lo' hi' : Int) : Bool := if lo = hi ∧ lo' = hi' then decide (lo ≤ lo') else decide (hi < lo')
def spBelow (C : Addr) : Sp := fun vs H Q _ => ∃ x r y q, vs = [.ref x, .ref y] ∧ ItemIs C H x r ∧ ItemIs C H y q ∧ Q (.bl (belowB r.lo r.hi q.lo q.hi)) H
theorem ok_below (T : Txt K mg a) : FnOk P w K mg base CX0 5 a.f_is_settled_below a.d_is_settled_below ["item", "other"] (spBelow a.c_Item) := by
  have G_is_exact : FnOk P w K mg base CX0 1 a.f_Item_is_exact a.d_Item_is_exact ["self"] (spIsExact a.c_Item) := ok_is_exact T
  have G_value : FnOk P w K mg base CX0 3 a.f_Item_value a.d_Item_value ["self"] (spValue a.c_Item) := ok_value T
  have G_before : FnOk P w K mg base CX0 3 a.f_Item_is_surely_before a.d_Item_is_surely_before ["self", "other"] (spBefore a.c_Item) := ok_before T
  refine T.F_is_settled_below.ok sc_is_settled_below (fun vs H Q E h => ?_) (fun cdv A outer s H vs Q E hr h => ?_)
  · obtain ⟨x, r, y, q, rfl, _⟩ := h
    rfl
  · obtain ⟨x, r, y, q, rfl, ix, iy, k⟩ := h
    obtain ⟨dx, hx⟩ := id ix
    obtain ⟨dy, hy⟩ := id iy
    refine ⟨_, (pss_cons (ps_if (PW.pt (pw_and (pt_val (pe_prop (pv 0) T.cl_Item T.m_Item_is_exact G_is_exact (hr.mono (by decide)) T.b_Item_is_exact .nil pass0 rfl)) (pw_and1 (pt_val (pe_prop (pv 1) T.cl_Item T.m_Item_is_exact G_is_exact (hr.mono (by decide)) T.b_Item_is_exact .nil pass0 rfl)))))
    (pss_one (ps_ret (pe_cmpR op_le (pe_prop (pv 0) T.cl_Item T.m_Item_value G_value (hr.mono (by decide)) T.b_Item_value .nil pass0 rfl) (pe_prop (pv 1) T.cl_Item T.m_Item_value G_value (hr.mono (by decide)) T.b_Item_value .nil pass0 rfl) (nomark _))))
    pss_nil)
  (pss_one (ps_ret (pe_meth (pv 0) T.cl_Item T.m_Item_is_surely_before G_before (hr.mono (by decide)) T.b_Item_is_surely_before .nil pass0 (pa_cons (pv 1) pa_nil))))), ?_⟩
    unfold belowB at k
    have lb : ∀ {nm : Str} {lo hi pr : Int}, (itF nm lo hi pr).lookup (Str.ofString "is_surely_before") = none := fun {_ _ _ _} => by with_unfolding_all rfl
    refine ⟨_, rfl, x, dx, _, rfl, hx, x, _, _, _, _, rfl, ix, _, rfl, ?_⟩
    by_cases e1 : r.lo = r.hi
    · rw [decide_eq_true e1]
      refine iteT ⟨_, rfl, y, dy, _, rfl, hy, y, _, _, _, _, rfl, iy, _, rfl, ?_⟩
      by_cases e2 : q.lo = q.hi
      · rw [decide_eq_true e2]
        rw [if_pos ⟨e1, e2⟩] at k
        refine iteT ⟨_, rfl, x, dx, _, rfl, hx, x, _, _, _, _, rfl, ix, _, rfl, y, dy, _, rfl, hy, y, _, _, _, _, rfl, iy, ?_⟩
        dsimp only
        rw [if_pos e1, if_pos e2]
        exact ⟨_, _, rfl, rfl, k⟩
      · rw [decide_eq_false e2]
        rw [if_neg (fun z => e2 z.2)] at k
        exact iteF ⟨_, rfl, x, dx, _, rfl, hx, lb, _, rfl, x, _, _, _, _, y, _, _, _, _, rfl, ix, iy, k⟩
    · rw [decide_eq_false e1]
      rw [if_neg (fun z => e1 z.1)] at k
      exact iteF (iteF ⟨_, rfl, x, dx, _, rfl, hx, lb, _, rfl, x, _, _, _, _, y, _, _, _, _, rfl, ix, iy, k⟩)
end
end Ask


set_option Elab.async false
set_option linter.all false
set_option maxRecDepth 100000
set_option maxHeartbeats 4000000
set_option pp.deepTerms false
set_option pp.deepTerms.threshold 14
namespace Ask
open PySem L2 LamX
open PyProof.Rows
open PySem.W (dataLe)
/-! candidates: the parts -/
/-- the object at M is new: none that stood, tables apart -/
def NewN (H : Hp) (M : Addr) : Prop := ∀ b o, H b = some o → (∀ ps, o ≠ .tbl ps) → b ≠ M
theorem NewN.of {H H' : Hp} {M : Addr} (x : ExtN H H') (h : H' M = none) : NewN H M := fun b o e hn z => by
  have := x b o e hn
  rw [z, h] at this
  cases this
theorem extn_updN {H0 H : Hp} {M : Addr} {o : HO} (x : ExtN H0 H) (n : NewN H0 M) : ExtN H0 (upd H M o) := fun b o' e hn => by
  rw [upd_ne (n b o' e hn)]
  exact x b o' e hn
section
variable {P : Program} {w : World} {K : PySem.W.Frag} {mg : Str → Option Value} {base : Heap} {a : Ad}
def pSum (rs : List Rw) : Int := (rs.map (·.pr)).sum
/-- the open rows but r that reach down to v -/
def downP (r : Rw) (v : Int) (q : Rw) : Bool := !decide (q.nm = r.nm) && !decide (q.lo = q.hi) && decide (q.lo ≤ v)
def reachR (rs : List Rw) (r : Rw) (v : Int) : List Rw := (rs.mergeSort (dataLe false keyR)).filter (downP r v)
def spReach (C CI : Addr) (T : List (Addr × Str)) : Sp := fun vs H Q _ => ∃ (x y : Addr) (rs : List Rw) (r : Rw) (v : Int), vs = [.ref x, .ref y, .int v] ∧ PoolAt C CI H x rs ∧ ItemIs CI H y r ∧ rs.length ≤ 64 ∧ Tabs T H ∧
  ∀ D H', H D = none → ExtN H H' → Tabs T H' → H' D = some (.lst (((reachR rs r v).map (·.nm)).map V.str)) → Q (.ref D) H'
theorem ok_reach (T : Txt K mg a) (TB : TabB base mg a.cd_Pool_walk a.t_Pool_walk) : FnOk P w K mg base CX0 8 a.f__reaching_down a.d__reaching_down ["pool", "item", "value"] (spReach a.c_Pool a.c_Item (TW a)) := by
  have G_name : FnOk P w K mg base CX0 1 a.f_Item_name a.d_Item_name ["self"] (spName a.c_Item) := ok_name T
  have G_least : FnOk P w K mg base CX0 1 a.f_Item_least a.d_Item_least ["self"] (spLeast a.c_Item) := ok_least T
  have G_exact : FnOk P w K mg base CX0 1 a.f_Item_is_exact a.d_Item_is_exact ["self"] (spIsExact a.c_Item) := ok_is_exact T
  have G_walk : WFn P w K mg base 6 a.f_Pool_walk a.d_Pool_walk ["self"] (TW a) (spWalk a.c_Pool a.c_Item) := ok_walk T TB
  refine T.F__reaching_down.ok sc__reaching_down (fun vs H Q E h => ?_) (fun cdv A outer s H vs Q E hr h => ?_)
  · obtain ⟨x, y, rs, r, v, rfl, _⟩ := h
    rfl
  · obtain ⟨x, y, rs, r, v, rfl, hp, iy, n64, hT, k⟩ := h
    have nd := sc__reaching_down.nd
    refine ⟨_, (pss_one (ps_ret (pe_lcW (own := [("other", 3)]) (g := gName 3) rfl nd (pw_meth0 (pv 0) T.cl_Pool T.m_Pool_walk G_walk (hr.mono (by decide)) T.b_Pool_walk) (hr.mono (by decide)) (blkOk_by (N := ["pool", "item", "value", "other"]) (sc := defScope s__reaching_down) (by decide +kernel)) (by decide +kernel) (fun _ _ _ _ _ => (pg_name (i := 3) nd rfl (by first | exact Or.inl rfl | exact Or.inr rfl))) (fun _ _ _ _ _ => (pts_one (PW.pt (pw_and (pt_cmpR op_ne (pe_prop (pv 3) T.cl_Item T.m_Item_name G_name (hr.mono (by decide)) T.b_Item_name .nil pass0 rfl) (pe_prop (pv 1) T.cl_Item T.m_Item_name G_name (hr.mono (by decide)) T.b_Item_name .nil pass0 rfl) (nomark _)) (pw_and (pt_not (pt_val (pe_prop (pv 3) T.cl_Item T.m_Item_is_exact G_exact (hr.mono (by decide)) T.b_Item_is_exact .nil pass0 rfl))) (pw_and1 (pt_cmpR op_le (pe_prop (pv 3) T.cl_Item T.m_Item_least G_least (hr.mono (by decide)) T.b_Item_least .nil pass0 rfl) (pv 2) (nomark _)))))))) (fun _ _ _ _ _ => (pe_prop (pv 3) T.cl_Item T.m_Item_name G_name (hr.mono (by decide)) T.b_Item_name .nil pass0 rfl))))), ?_⟩
    dsimp only [tRet]
    refine walk_comp (downP r v) (fun q => .str q.nm) (fun R h => ⟨_, rfl, h⟩) hp n64 hT (fun z q H' R0 R1 hq xt iq k0 k1 => ?_) (fun D H2 hD xt2 T2 hDl => ?_)
    · obtain ⟨dz, hz⟩ := id iq
      obtain ⟨dy, hy⟩ := iy.ext xt
      refine ⟨rfl, _, rfl, z, dz, _, rfl, hz, z, _, _, _, _, rfl, ⟨dz, hz⟩, _, rfl, y, dy, _, rfl, hy, y, _, _, _, _, rfl, ⟨dy, hy⟩, rfl, _, rfl, ?_⟩
      by_cases c : q.nm = r.nm
      · rw [decide_eq_true (congrArg V.str c)]
        exact iteF (iteF (k0 (by unfold downP; rw [decide_eq_true c]; rfl) _ (Same.refl _)))
      · rw [decide_eq_false (fun e => c (V.str.inj e))]
        refine iteT ⟨_, rfl, z, dz, _, rfl, hz, z, _, _, _, _, rfl, ⟨dz, hz⟩, _, rfl, ?_⟩
        cases c2 : decide (q.lo = q.hi) with
        | true => exact iteF (iteF (k0 (by unfold downP; rw [c2, decide_eq_false c]; rfl) _ (Same.refl _)))
        | false =>
          refine iteT ⟨_, rfl, z, dz, _, rfl, hz, z, _, _, _, _, rfl, ⟨dz, hz⟩, _, rfl, _, _, rfl, rfl, _, rfl, ?_⟩
          cases c3 : decide (q.lo ≤ v) with
          | true => exact iteT ⟨_, rfl, z, dz, _, rfl, hz, z, _, _, _, _, rfl, ⟨dz, hz⟩, k1 (by unfold downP; rw [c2, c3, decide_eq_false c]; rfl) _ (Same.refl _)⟩
          | false => exact iteF (k0 (by unfold downP; rw [c2, c3, decide_eq_false c]; rfl) _ (Same.refl _))
    · exact k D H2 hD xt2 T2 (by rw [hDl, List.map_map]; rfl)
abbrev spPrice (C : Addr) : Sp := spPart C fun _ _ _ pr => .int pr
theorem ok_price (T : Txt K mg a) : FnOk P w K mg base CX0 1 a.f_Item_price a.d_Item_price ["self"] (spPrice a.c_Item) := by
  refine T.F_Item_price.ok sc_Item_price (fun vs H Q E h => ?_) (fun cdv A outer s H vs Q E hr h => ?_)
  · obtain ⟨x, nm, lo, hi, pr, rfl, _⟩ := h
    rfl
  · obtain ⟨x, nm, lo, hi, pr, rfl, ⟨dx, hx⟩, q⟩ := h
    exact ⟨_, (pss_one (ps_ret (pe_fld (pv 0) rfl))), ⟨_, rfl, x, _, dx, _, _, rfl, hx, T.cl_Item, T.n_Item__price, l_price, q⟩⟩
def spCand (C CI : Addr) : Sp := fun vs H Q _ => ∃ (x y l : Addr) (rs g : List Rw) (r : Rw), vs = [.ref x, .ref y, .ref l] ∧ PoolAt C CI H x rs ∧ (rs.map (·.nm)).Nodup ∧ (∀ r ∈ rs, nameB r.nm = true) ∧ ItemIs CI H y r ∧ H l = some (.lst ((g.map (·.nm)).map V.str)) ∧ (∀ q ∈ g, q ∈ rs) ∧ g.length < 64 ∧
  ∀ t n (c : Ca) H', Same H H' → H n = none → c.1 = pSum g → c.2.1 = r.nm → c.2.2.Perm (g.map (·.nm)) → sortedS c.2.2 = true → CaL H' t n c → Q (.ref t) H'
theorem ok_cand (T : Txt K mg a) : FnOk P w K mg base CX0 3 a.f__candidate a.d__candidate ["pool", "item", "asked"] (spCand a.c_Pool a.c_Item) := by
  have G_name : FnOk P w K mg base CX0 1 a.f_Item_name a.d_Item_name ["self"] (spName a.c_Item) := ok_name T
  have G_price : FnOk P w K mg base CX0 1 a.f_Item_price a.d_Item_price ["self"] (spPrice a.c_Item) := ok_price T
  have G_pitem : FnOk P w K mg base CX0 2 a.f_Pool_item a.d_Pool_item ["self", "name"] (spPItem a.c_Pool a.c_Item) := ok_pitem T
  refine T.F__candidate.ok sc__candidate (fun vs H Q E h => ?_) (fun cdv A outer s H vs Q E hr h => ?_)
  · obtain ⟨x, y, l, rs, g, r, rfl, _⟩ := h
    rfl
  · obtain ⟨x, y, l, rs, g, r, rfl, hp, hn, nms, iy, hl, sub, g64, k⟩ := h
    have nd := sc__candidate.nd
    refine ⟨_, (pss_one (ps_ret (pe_tup (pa_cons (pe_callB (cr_sum rfl) (by rfl) T.b_sum (by decide +kernel) (pa_cons (pe_lc (own := [("name", 3)]) (g := gName 3) (tt := tYes) rfl nd (pi_list (pv 2)) (blkOk_by (N := ["pool", "item", "asked", "name"]) (sc := defScope s__candidate) (by decide +kernel)) (fun _ _ _ _ _ => (pg_name (i := 3) nd rfl (by first | exact Or.inl rfl | exact Or.inr rfl))) (fun _ _ _ _ _ => pts_nil) (fun _ _ _ _ _ => (pe_prop (pe_meth (pv 0) T.cl_Pool T.m_Pool_item G_pitem (hr.mono (by decide)) T.b_Pool_item .nil pass0 (pa_cons (pv 3) pa_nil)) T.cl_Item T.m_Item_price G_price (hr.mono (by decide)) T.b_Item_price .nil pass0 rfl))) pa_nil)) (pa_cons (pe_prop (pv 1) T.cl_Item T.m_Item_name G_name (hr.mono (by decide)) T.b_Item_name .nil pass0 rfl) (pa_cons (pe_callB cr_sortedS (by rfl) T.b_sorted (by decide +kernel) (pa_cons (pv 2) pa_nil)) pa_nil)))))), ?_⟩
    obtain ⟨dx, d, as, hx, _, _⟩ := id hp
    obtain ⟨dy, hy⟩ := id iy
    refine ⟨_, rfl, l, rfl, ⟨_, SqL.of hl⟩, fun D hD => ?_⟩
    refine lc_pure (walk_list (K := K) (a := l) (xs := (g.map (·.nm)).map V.str)) g (fun _ => true) (fun d v _ => v = .int d.pr) (by rw [List.length_map, List.length_map]) hD (fun H' s => SqL.of (s _ _ hl)) (fun i H x H' e => ⟨by rw [e.1]; exact Same.refl _, fun o h => by rw [e.1]; exact h⟩) (by rw [List.length_map, List.length_map, sizeLine_eq]; omega) (fun _ _ _ _ h _ _ => h) ?_ ?_
    · rintro N i v q H8 H8' ed s8 - ⟨rfl, ex⟩ eD8 s8' fin skip
      rw [List.getElem?_map, List.getElem?_map, ed] at ex
      obtain rfl : V.str q.nm = v := Option.some.inj ex
      have mq := sub q (List.mem_of_getElem? ed)
      refine ⟨rfl, ?_⟩
      dsimp only [tYes]
      rw [if_pos rfl]
      refine ⟨_, rfl, x, dx, _, rfl, s8 _ _ hx, by with_unfolding_all rfl, _, rfl, x, rs, q, rfl, hp.same s8, hn, mq, nms q mq, fun u HC SC hu => ?_⟩
      obtain ⟨du, hu⟩ := hu
      exact ⟨u, du, _, rfl, hu, u, _, _, _, _, rfl, ⟨du, hu⟩, fin rfl _ _ SC rfl⟩
    · intro us H8 s8 eD8 pz2
      rw [all_keep] at pz2
      have ez := paired_vals (fun d : Rw => V.int d.pr) (H := H8) pz2
      subst ez
      have hl8 := s8 _ _ hl
      have hy8 := s8 _ _ hy
      refine ⟨D, g.map (·.pr), rfl, SqL.of (by rw [List.map_map]; exact eD8), _, rfl, y, dy, _, rfl, hy8, y, _, _, _, _, rfl, ⟨dy, hy8⟩, _, rfl, l, g.map (·.nm), rfl, SqL.of hl8, by rw [List.length_map]; exact g64, fun ns p pm so hp0 => ?_⟩
      have S9 := Same.new hp0 (o := .lst (ns.map V.str))
      refine ⟨by show 3 ≤ sizeLine; decide, fun t ht => ?_⟩
      have S10 := Same.new ht (o := .tup [.int (pSum g), .str r.nm, .ref p])
      exact k t p (pSum g, r.nm, ns) _ ((s8.trans S9).trans S10) ((s8).free hp0) rfl rfl pm so ⟨upd_same, S10 _ _ upd_same⟩
def valOf (kn : List (Str × Int)) (r : Rw) : Int := (kn.lookup r.nm).getD r.lo
theorem val_tell {rs : List Rw} {kn : List (Str × Int)} (V4 : Vals4 rs kn) {r : Rw} (mr : r ∈ rs) : (tellR kn r).lo = valOf kn r ∧ (tellR kn r).hi = valOf kn r ∧ (tellR kn r).nm = r.nm := by
  unfold tellR valOf
  cases e : kn.lookup r.nm with
  | some v => exact ⟨rfl, rfl, rfl⟩
  | none =>
    have z : r.lo = r.hi := Classical.byContradiction fun c => by
      have m : r.nm ∈ openN rs := List.mem_map.mpr ⟨r, List.mem_filter.mpr ⟨mr, by simpa using c⟩, rfl⟩
      obtain ⟨p, hp, e2⟩ := List.mem_map.mp (V4.pm.mem_iff.mpr m)
      have := List.lookup_eq_none_iff.mp e p hp
      simp [e2] at this
    exact ⟨rfl, z.symm, rfl⟩
/-- the two candidates for r: v is its value, vals those of the others -/
def minP (rs : List Rw) (kn : List (Str × Int)) (r : Rw) (v : Int) : Bool := (rs.filter fun q => !decide (q.nm = r.nm)).all fun q => decide (v ≤ valOf kn q)
def lessP (rs : List Rw) (kn : List (Str × Int)) (r : Rw) : Bool := (rs.filter fun q => !decide (q.nm = r.nm)).all fun q => decide (r.hi < valOf kn q)
def askA (rs : List Rw) (r : Rw) (v : Int) : List Rw := (if r.lo = r.hi then [] else [r]) ++ reachR rs r v
/-- c asks these rows for the sake of r -/
def CaOf (r : Rw) (g : List Rw) (c : Ca) : Prop := c.1 = pSum g ∧ c.2.1 = r.nm ∧ c.2.2.Perm (g.map (·.nm)) ∧ sortedS c.2.2 = true
def dueG (rs : List Rw) (kn : List (Str × Int)) (r : Rw) : List (List Rw) := (if minP rs kn r (valOf kn r) = true then [askA rs r (valOf kn r)] else []) ++ (if (!decide (r.lo = r.hi) && lessP rs kn r) = true then [reachR rs r r.hi] else [])
/-- the list at M of candidates that ask these rows, M and the lists in it new since H -/
def CaLst (H : Hp) (M : Addr) (r : Rw) (gs : List (List Rw)) (ts : List Addr) (H' : Hp) : Prop := H' M = some (.lst (List.map V.ref ts)) ∧ ∃ cs, Paired (CaOf r) gs cs ∧ Paired (fun t c => ∃ l, CaL H' t l c ∧ NewN H l ∧ l ≠ M) ts cs
theorem CaLst.ext {H H' H'' : Hp} {M : Addr} {r : Rw} {gs : List (List Rw)} {ts : List Addr} (h : CaLst H M r gs ts H') (x : ExtN H' H'') : CaLst H M r gs ts H'' := by
  obtain ⟨h1, cs, h2, h3⟩ := h
  exact ⟨x _ _ h1 (fun _ e => by cases e), cs, h2, paired_imp (fun t c ⟨l, z1, z2⟩ => ⟨l, z1.ext x, z2⟩) h3⟩
theorem CaLst.add {H H' : Hp} {M t n : Addr} {r : Rw} {gs : List (List Rw)} {g : List Rw} {ts : List Addr} {c : Ca} (h : CaLst H M r gs ts H') (hc : CaL H' t n c) (hn : NewN H n) (nM : n ≠ M) (cg : CaOf r g c) :
    CaLst H M r (gs ++ [g]) (ts ++ [t]) (upd H' M (.lst (List.map V.ref ts ++ [.ref t]))) := by
  obtain ⟨h1, cs, h2, h3⟩ := h
  have keep : ∀ t l c, CaL H' t l c → l ≠ M → CaL (upd H' M (.lst (List.map V.ref ts ++ [.ref t]))) t l c := fun t l c z lM => by
    refine ⟨?_, by rw [upd_ne lM]; exact z.2⟩
    rw [upd_ne (fun e => by have := z.1; rw [e, h1] at this; cases this)]
    exact z.1
  refine ⟨by rw [upd_same, List.map_append]; rfl, cs ++ [c], ?_, ?_⟩
  · exact paired_snoc h2 cg
  · have keep2 : ∀ (u : Addr) t l c, CaL H' t l c → l ≠ M → CaL (upd H' M (.lst (List.map V.ref ts ++ [.ref u]))) t l c := fun u t l c z lM => by
      refine ⟨?_, by rw [upd_ne lM]; exact z.2⟩
      rw [upd_ne (fun e => by have := z.1; rw [e, h1] at this; cases this)]
      exact z.1
    exact paired_snoc (paired_imp (fun t' c' ⟨l, z1, z2, z3⟩ => ⟨l, keep2 t t' l c' z1 z3, z2, z3⟩) h3) ⟨n, keep2 t t n c hc nM, hn, nM⟩
theorem CaLst.nil {H H' : Hp} {M : Addr} {r : Rw} (h : H' M = some (.lst [])) : CaLst H M r [] [] H' := ⟨h, [], .nil, .nil⟩
theorem CaLst.len {H H' : Hp} {M : Addr} {r : Rw} {gs : List (List Rw)} {ts : List Addr} (h : CaLst H M r gs ts H') : ts.length = gs.length := by
  obtain ⟨_, cs, h2, h3⟩ := h
  rw [paired_len h3, ← paired_len h2]
theorem reach_len (rs : List Rw) (r : Rw) (v : Int) : (reachR rs r v).length ≤ rs.length := by
  unfold reachR
  refine Nat.le_trans (List.length_filter_le _ _) ?_
  rw [List.length_mergeSort]
  exact Nat.le_refl _
theorem reach_in {rs : List Rw} {r q : Rw} {v : Int} (h : q ∈ reachR rs r v) : q ∈ rs := List.mem_mergeSort.mp (List.mem_filter.mp h).1
theorem reach_lt {rs : List Rw} (hn : (rs.map (·.nm)).Nodup) {r : Rw} (mr : r ∈ rs) (v : Int) : (reachR rs r v).length < rs.length := by
  have z : (reachR rs r v).length = ((rs.mergeSort (dataLe false keyR)).filter (downP r v)).length := rfl
  rw [z, ← List.length_mergeSort (le := dataLe false keyR) rs, List.length_filter_lt_length_iff_exists]
  exact ⟨r, List.mem_mergeSort.mpr mr, by unfold downP; simp⟩
def spCandsOf (C CI : Addr) (T : List (Addr × Str)) : Sp := fun vs H Q _ => ∃ (x z y : Addr) (rs : List Rw) (kn : List (Str × Int)) (r : Rw), vs = [.ref x, .ref z, .ref y] ∧ PoolAt C CI H x rs ∧ PoolAt C CI H z (rs.map (tellR kn)) ∧ Rows rs ∧ Vals4 rs kn ∧ ItemIs CI H y r ∧ r ∈ rs ∧ Tabs T H ∧
  ∀ D ts H', NewN H D → ExtN H H' → Tabs T H' → CaLst H D r (dueG rs kn r) ts H' → Q (.ref D) H'
theorem ok_candsof (T : Txt K mg a) (TB : TabB base mg a.cd_Pool_walk a.t_Pool_walk) : FnOk P w K mg base CX0 9 a.f__candidates_of a.d__candidates_of ["pool", "truth", "item"] (spCandsOf a.c_Pool a.c_Item (TW a)) := by
  have G_name : FnOk P w K mg base CX0 1 a.f_Item_name a.d_Item_name ["self"] (spName a.c_Item) := ok_name T
  have G_greatest : FnOk P w K mg base CX0 1 a.f_Item_greatest a.d_Item_greatest ["self"] (spGreatest a.c_Item) := ok_greatest T
  have G_value : FnOk P w K mg base CX0 3 a.f_Item_value a.d_Item_value ["self"] (spValue a.c_Item) := ok_value T
  have G_exact : FnOk P w K mg base CX0 1 a.f_Item_is_exact a.d_Item_is_exact ["self"] (spIsExact a.c_Item) := ok_is_exact T
  have G_pitem : FnOk P w K mg base CX0 2 a.f_Pool_item a.d_Pool_item ["self", "name"] (spPItem a.c_Pool a.c_Item) := ok_pitem T
  have G_walk : WFn P w K mg base 6 a.f_Pool_walk a.d_Pool_walk ["self"] (TW a) (spWalk a.c_Pool a.c_Item) := ok_walk T TB
  have G_reaching_down : FnOk P w K mg base CX0 8 a.f__reaching_down a.d__reaching_down ["pool", "item", "value"] (spReach a.c_Pool a.c_Item (TW a)) := ok_reach T TB
  have G_candidate : FnOk P w K mg base CX0 3 a.f__candidate a.d__candidate ["pool", "item", "asked"] (spCand a.c_Pool a.c_Item) := ok_cand T
  refine T.F__candidates_of.ok sc__candidates_of (fun vs H Q E h => ?_) (fun cdv A outer s H vs Q E hr h => ?_)
  · obtain ⟨x, z, y, rs, kn, r, rfl, _⟩ := h
    rfl
  · obtain ⟨x, z, y, rs, kn, r, rfl, hp, hz, R, V4, iy, mr, hT, k⟩ := h
    have nd := sc__candidates_of.nd
    refine ⟨_, (Evl.pss_cut (ps_set (i := 3) nd rfl (by first | exact Or.inl rfl | exact Or.inr rfl) (pe_prop (pe_meth (pv 1) T.cl_Pool T.m_Pool_item G_pitem (hr.mono (by decide)) T.b_Pool_item .nil pass0 (pa_cons (pe_prop (pv 2) T.cl_Item T.m_Item_name G_name (hr.mono (by decide)) T.b_Item_name .nil pass0 rfl) pa_nil)) T.cl_Item T.m_Item_value G_value (hr.mono (by decide)) T.b_Item_value .nil pass0 rfl))
  (Evl.pss_cut (ps_setLcW (i := 4) (own := [("other", 5)]) (g := gName 5) rfl nd rfl rfl (sw_true rfl rfl rfl (by decide +kernel)) (pw_meth0 (pv 1) T.cl_Pool T.m_Pool_walk G_walk (hr.mono (by decide)) T.b_Pool_walk) (hr.mono (by decide)) (blkOk_by (N := ["pool", "truth", "item", "value", "others", "other", "found", "own"]) (sc := defScope s__candidates_of) (by decide +kernel)) (by decide +kernel) (fun _ _ _ _ _ => (pg_name (i := 5) nd rfl (by first | exact Or.inl rfl | exact Or.inr rfl))) (fun _ _ _ _ _ => (pts_one (pt_cmpR op_ne (pe_prop (pv 5) T.cl_Item T.m_Item_name G_name (hr.mono (by decide)) T.b_Item_name .nil pass0 rfl) (pe_prop (pv 2) T.cl_Item T.m_Item_name G_name (hr.mono (by decide)) T.b_Item_name .nil pass0 rfl) (nomark _)))) (fun _ _ _ _ _ => (pe_prop (pv 5) T.cl_Item T.m_Item_value G_value (hr.mono (by decide)) T.b_Item_value .nil pass0 rfl)))
  (Evl.pss_cut (ps_set (i := 6) nd rfl (by first | exact Or.inl rfl | exact Or.inr rfl) (pe_lst pa_nil))
  (Evl.pss_cut (ps_if (pt_val (pe_callB (cr_all rfl) (by rfl) T.b_all (by decide +kernel) (pa_cons (pe_lc (own := [("other", 5)]) (g := gName 5) (tt := tYes) rfl nd (pi_list (pv 4)) (blkOk_by (N := ["pool", "truth", "item", "value", "others", "other", "found", "own"]) (sc := defScope s__candidates_of) (by decide +kernel)) (fun _ _ _ _ _ => (pg_name (i := 5) nd rfl (by first | exact Or.inl rfl | exact Or.inr rfl))) (fun _ _ _ _ _ => pts_nil) (fun _ _ _ _ _ => (pe_cmpR op_ge (pv 5) (pv 3) (nomark _)))) pa_nil)))
    (Evl.pss_cut (ps_set (i := 7) nd rfl (by first | exact Or.inl rfl | exact Or.inr rfl) (pe_ifExp (pt_val (pe_prop (pv 2) T.cl_Item T.m_Item_is_exact G_exact (hr.mono (by decide)) T.b_Item_is_exact .nil pass0 rfl)) (pe_lst pa_nil) (pe_lst (pa_cons (pe_prop (pv 2) T.cl_Item T.m_Item_name G_name (hr.mono (by decide)) T.b_Item_name .nil pass0 rfl) pa_nil))))
  (pss_one (ps_expr (pe_bm PySem.F.plainAttrs_list PySem.F.slot_list_append PySem.F.type_list_append mt_append (pv 6) (pa_cons (pe_call G_candidate (hr.mono (by first | decide | omega)) rfl T.g__candidate T.F__candidate.kp T.b__candidate .nil pass0 (pa_cons (pv 0) (pa_cons (pv 2) (pa_cons (pe_op op_cat (pv 7) (pe_call G_reaching_down (hr.mono (by first | decide | omega)) rfl T.g__reaching_down T.F__reaching_down.kp T.b__reaching_down .nil pass0 (pa_cons (pv 0) (pa_cons (pv 2) (pa_cons (pv 3) pa_nil))))) pa_nil)))) pa_nil)))))
    pss_nil)
  (Evl.pss_cut (ps_if (PW.pt (pw_and (pt_not (pt_val (pe_prop (pv 2) T.cl_Item T.m_Item_is_exact G_exact (hr.mono (by decide)) T.b_Item_is_exact .nil pass0 rfl))) (pw_and1 (pt_val (pe_callB (cr_all rfl) (by rfl) T.b_all (by decide +kernel) (pa_cons (pe_lc (own := [("other", 5)]) (g := gName 5) (tt := tYes) rfl nd (pi_list (pv 4)) (blkOk_by (N := ["pool", "truth", "item", "value", "others", "other", "found", "own"]) (sc := defScope s__candidates_of) (by decide +kernel)) (fun _ _ _ _ _ => (pg_name (i := 5) nd rfl (by first | exact Or.inl rfl | exact Or.inr rfl))) (fun _ _ _ _ _ => pts_nil) (fun _ _ _ _ _ => (pe_cmpR op_gt (pv 5) (pe_prop (pv 2) T.cl_Item T.m_Item_greatest G_greatest (hr.mono (by decide)) T.b_Item_greatest .nil pass0 rfl) (nomark _)))) pa_nil))))))
    (pss_one (ps_expr (pe_bm PySem.F.plainAttrs_list PySem.F.slot_list_append PySem.F.type_list_append mt_append (pv 6) (pa_cons (pe_call G_candidate (hr.mono (by first | decide | omega)) rfl T.g__candidate T.F__candidate.kp T.b__candidate .nil pass0 (pa_cons (pv 0) (pa_cons (pv 2) (pa_cons (pe_call G_reaching_down (hr.mono (by first | decide | omega)) rfl T.g__reaching_down T.F__reaching_down.kp T.b__reaching_down .nil pass0 (pa_cons (pv 0) (pa_cons (pv 2) (pa_cons (pe_prop (pv 2) T.cl_Item T.m_Item_greatest G_greatest (hr.mono (by decide)) T.b_Item_greatest .nil pass0 rfl) pa_nil)))) pa_nil)))) pa_nil))))
    pss_nil)
  (pss_one (ps_ret (pv 6)))))))), ?_⟩
    have hn := R.asc.nodup
    have len2 : (rs.map (tellR kn)).length ≤ 64 := by rw [List.length_map]; exact Nat.le_of_lt R.len
    obtain ⟨tl, th, tn⟩ := val_tell V4 mr
    generalize hv : valOf kn r = v at tl th
    -- value
    refine ⟨fun σ' H' => σ' = [some (.ref x), some (.ref z), some (.ref y), some (.int v), none, none, none, none] ∧ Same H H', ?_, ?_⟩
    · obtain ⟨dz, d0, as0, hz0, _⟩ := id hz
      obtain ⟨dy, hy⟩ := id iy
      refine ⟨_, rfl, z, dz, _, rfl, hz0, by with_unfolding_all rfl, _, rfl, y, dy, _, rfl, hy, y, _, _, _, _, rfl, ⟨dy, hy⟩, z, rs.map (tellR kn), tellR kn r, ?_⟩
      refine ⟨by rw [tn]; rfl, hz, by rw [tellR_names]; exact hn, List.mem_map.mpr ⟨r, mr, rfl⟩, by rw [tn]; exact R.nm r mr, fun u H1 S1 iu => ?_⟩
      obtain ⟨du, hu⟩ := iu
      refine ⟨u, du, _, rfl, hu, u, _, _, _, _, rfl, ⟨du, hu⟩, ?_⟩
      dsimp only
      rw [if_pos (tl.trans th.symm), tl]
      exact ⟨rfl, S1⟩
    rintro σ1 H1 ⟨rfl, S1⟩
    have hz1 := hz.same S1
    -- others
    refine ⟨fun σ' H' => ∃ O, σ' = [some (.ref x), some (.ref z), some (.ref y), some (.int v), some (.ref O), none, none, none] ∧ ExtN H H' ∧ Tabs (TW a) H' ∧ H' O = some (.lst ((((rs.map (tellR kn)).mergeSort (dataLe false keyR)).filter fun q => !decide (q.nm = r.nm)).map fun q => V.int q.lo)), ?_, ?_⟩
    · dsimp only [tAsg, gName]
      refine walk_comp (fun q => !decide (q.nm = r.nm)) (fun q => .int q.lo) (fun R h => ⟨_, rfl, h⟩) hz1 len2 (hT.ext S1) (fun u q H' R0 R1 hq xt iq k0 k1 => ?_) (fun D H2 hD xt2 T2 hDl => ?_)
      · obtain ⟨du, hu⟩ := id iq
        obtain ⟨dy, hy⟩ := (iy.same S1).ext xt
        obtain ⟨q0, mq0, rfl⟩ := List.mem_map.mp hq
        obtain ⟨ql, qh, _⟩ := val_tell V4 mq0
        have qe : (tellR kn q0).lo = (tellR kn q0).hi := ql.trans qh.symm
        generalize tellR kn q0 = q at iq hu k0 k1 qe
        refine ⟨rfl, _, rfl, u, du, _, rfl, hu, u, _, _, _, _, rfl, ⟨du, hu⟩, _, rfl, y, dy, _, rfl, hy, y, _, _, _, _, rfl, ⟨dy, hy⟩, rfl, _, rfl, ?_⟩
        by_cases c : q.nm = r.nm
        · rw [decide_eq_true (congrArg V.str c)]
          exact iteF (k0 (by rw [decide_eq_true c]; rfl) _ (Same.refl _))
        · rw [decide_eq_false (fun e => c (V.str.inj e))]
          refine iteT ⟨_, rfl, u, du, _, rfl, hu, u, _, _, _, _, rfl, ⟨du, hu⟩, ?_⟩
          dsimp only
          rw [if_pos qe]
          exact k1 (by rw [decide_eq_false c]; rfl) _ (Same.refl _)
      · exact ⟨D, rfl, (ExtN.of S1).trans xt2, T2, hDl⟩
    rintro σ2 H2 ⟨O, rfl, xt2, T2, eO⟩
    have oth : ∀ (f : Int → Bool), (((((rs.map (tellR kn)).mergeSort (dataLe false keyR)).filter fun q => !decide (q.nm = r.nm)).map fun q => f q.lo).all id) = (rs.filter fun q => !decide (q.nm = r.nm)).all fun q => f (valOf kn q) := fun f => by
      rw [Bool.eq_iff_iff, List.all_eq_true, List.all_eq_true]
      constructor
      · intro h q hq
        obtain ⟨mq, nq⟩ := List.mem_filter.mp hq
        obtain ⟨e1, _, e3⟩ := val_tell V4 mq
        refine (congrArg f e1.symm).trans (h _ (List.mem_map.mpr ⟨tellR kn q, List.mem_filter.mpr ⟨List.mem_mergeSort.mpr (List.mem_map.mpr ⟨q, mq, rfl⟩), ?_⟩, rfl⟩))
        rw [e3]
        exact nq
      · intro h b hb
        obtain ⟨q, hq, rfl⟩ := List.mem_map.mp hb
        obtain ⟨mq, nq⟩ := List.mem_filter.mp hq
        obtain ⟨q0, m0, rfl⟩ := List.mem_map.mp (List.mem_mergeSort.mp mq)
        obtain ⟨e1, _, e3⟩ := val_tell V4 m0
        rw [e3] at nq
        exact (congrArg f e1).trans (h q0 (List.mem_filter.mpr ⟨m0, nq⟩))
    have lO : (((rs.map (tellR kn)).mergeSort (dataLe false keyR)).filter fun q => !decide (q.nm = r.nm)).length ≤ 64 := by
      refine Nat.le_trans (List.length_filter_le _ _) ?_
      rw [List.length_mergeSort]
      exact len2
    generalize hqs : (((rs.map (tellR kn)).mergeSort (dataLe false keyR)).filter fun q => !decide (q.nm = r.nm)) = qs at eO oth lO
    -- found
    refine ⟨fun σ' H' => ∃ M, σ' = [some (.ref x), some (.ref z), some (.ref y), some (.int v), some (.ref O), none, some (.ref M), none] ∧ O ≠ M ∧ NewN H M ∧ ExtN H H' ∧ Tabs (TW a) H' ∧ H' M = some (.lst []) ∧ H' O = some (.lst (qs.map fun q => V.int q.lo)), ?_, ?_⟩
    · exact ⟨Nat.zero_le _, fun M hM => ⟨M, rfl, (fun c => by rw [← c, eO] at hM; cases hM), NewN.of xt2 hM, xt2.trans (extn_upd (ExtN.refl _) hM), tabs_upd0 T2 hM, upd_same, by rw [upd_ne (fun c => by rw [← c, eO] at hM; cases hM)]; exact eO⟩⟩
    rintro σ3 H3 ⟨M, rfl, OM, nM, xt3, T3, eM, eO3⟩
    have LM : CaLst H M r [] [] H3 := .nil eM
    have hn64 := R.len
    -- the one that knows its value
    unfold dueG at k
    rw [hv] at k
    refine ⟨fun σ' H' => ∃ w7 ts, σ' = [some (.ref x), some (.ref z), some (.ref y), some (.int v), some (.ref O), none, some (.ref M), w7] ∧ ExtN H H' ∧ Tabs (TW a) H' ∧ CaLst H M r (if minP rs kn r v = true then [askA rs r v] else []) ts H' ∧ H' O = some (.lst (qs.map fun q => V.int q.lo)), ?_, ?_⟩
    · refine ⟨_, rfl, O, rfl, ⟨_, SqL.of eO3⟩, fun D hD => ?_⟩
      refine lc_pure (walk_list (K := K) (a := O) (xs := qs.map fun q => V.int q.lo)) qs (fun _ => true) (fun q b _ => b = .bl (decide (v ≤ q.lo))) (by rw [List.length_map]) hD (fun H' s => SqL.of (s _ _ eO3)) (fun i H x H' e => ⟨by rw [e.1]; exact Same.refl _, fun o h => by rw [e.1]; exact h⟩) (by rw [List.length_map, sizeLine_eq]; omega) (fun _ _ _ _ h _ _ => h) ?_ ?_
      · rintro N i b q H8 H8' ed s8 - ⟨rfl, ex⟩ eD8 s8' fin skip
        rw [List.getElem?_map, ed] at ex
        obtain rfl : V.int q.lo = b := Option.some.inj ex
        refine ⟨rfl, ?_⟩
        dsimp only [tYes]
        rw [if_pos rfl]
        exact ⟨_, rfl, _, rfl, _, _, rfl, rfl, fin rfl _ _ (Same.refl _) rfl⟩
      · intro us H8 s8 eD8 pz2
        rw [all_keep] at pz2
        have ez := paired_vals (fun q : Rw => V.bl (decide (v ≤ q.lo))) (H := H8) pz2
        subst ez
        refine ⟨D, qs.map fun q => decide (v ≤ q.lo), rfl, SqL.of (by rw [List.map_map]; exact eD8), _, rfl, ?_⟩
        rw [oth fun o => decide (v ≤ o)]
        change ite (minP rs kn r v = true) _ _
        have x8 := xt3.trans (ExtN.of s8)
        have T8 := T3.ext s8
        have L8 := LM.ext (ExtN.of s8)
        have iy8 := iy.ext x8
        have hp8 := hp.ext x8
        have eO8 := s8 _ _ eO3
        cases c : minP rs kn r v with
        | false => exact iteF ⟨none, [], rfl, x8, T8, by rw [if_neg (by decide)]; exact L8, eO8⟩
        | true =>
          rw [if_pos rfl, if_pos rfl]
          -- own
          refine ⟨fun σ' H' => ∃ N, σ' = [some (.ref x), some (.ref z), some (.ref y), some (.int v), some (.ref O), none, some (.ref M), some (.ref N)] ∧ Same H8 H' ∧ H' N = some (.lst (((if r.lo = r.hi then [] else [r]).map (·.nm)).map V.str)), ?_, ?_⟩
          · obtain ⟨dy, hy⟩ := id iy8
            refine ⟨_, rfl, y, dy, _, rfl, hy, y, _, _, _, _, rfl, ⟨dy, hy⟩, _, rfl, ?_⟩
            by_cases e : r.lo = r.hi
            · rw [decide_eq_true e, if_pos e]
              exact iteT ⟨Nat.zero_le _, fun N hN => ⟨N, rfl, Same.new hN, upd_same⟩⟩
            · rw [decide_eq_false e, if_neg e]
              exact iteF ⟨_, rfl, y, dy, _, rfl, hy, y, _, _, _, _, rfl, ⟨dy, hy⟩, by show 1 ≤ sizeLine; decide, fun N hN => ⟨N, rfl, Same.new hN, upd_same⟩⟩
          rintro σ9 H9 ⟨N, rfl, S9, eN⟩
          have x9 := x8.trans (ExtN.of S9)
          have L9 := L8.ext (ExtN.of S9)
          have l1 : (if r.lo = r.hi then [] else [r]).length ≤ 1 := by split <;> simp
          have lr := reach_lt hn mr v
          refine ⟨_, rfl, .inl ⟨rfl, _, SqL.of L9.1⟩, _, rfl, _, rfl, _, rfl, _, rfl, _, rfl, _, rfl, x, y, rs, r, v, rfl, hp8.same S9, iy.ext x9, Nat.le_of_lt hn64, T8.ext S9, fun D2 H10 hD2 xt10 T10 eD2 => ?_⟩
          have eN10 := xt10 _ _ eN fun _ e => by cases e
          refine ⟨N, D2, _, _, rfl, rfl, eN10, eD2, by simp only [List.length_map, sizeLine_eq]; omega, fun n2 hn2 => ?_⟩
          have ea : ((if r.lo = r.hi then [] else [r]).map (·.nm)).map V.str ++ ((reachR rs r v).map (·.nm)).map V.str = ((askA rs r v).map (·.nm)).map V.str := by
            unfold askA
            rw [List.map_append, List.map_append]
          rw [ea]
          have S11 := Same.new hn2 (o := .lst (((askA rs r v).map (·.nm)).map V.str))
          have x11 := (x9.trans xt10).trans (ExtN.of S11)
          have T11 := T10.ext S11
          have al : (askA rs r v).length < 64 := by
            unfold askA
            rw [List.length_append]
            omega
          refine ⟨x, y, n2, rs, askA rs r v, r, rfl, hp.ext x11, hn, R.nm, iy.ext x11, upd_same, fun q hq => ?_, al, fun t n c H12 S12 hnn c1 c2 c3 c4 cl => ?_⟩
          · unfold askA at hq
            rcases List.mem_append.mp hq with hq | hq
            · split at hq
              · cases hq
              · rw [List.mem_singleton.mp hq]
                exact mr
            · exact reach_in hq
          have L12 := (L9.ext ((xt10.trans (ExtN.of S11)).trans (ExtN.of S12)))
          have nnM : n ≠ M := fun e => by
            have z := (L9.ext (xt10.trans (ExtN.of S11))).1
            rw [← e, hnn] at z
            cases z
          refine ⟨M, _, .ref t, rfl, rfl, L12.1, by show 0 < sizeLine; decide, ?_⟩
          have x12 := x11.trans (ExtN.of S12)
          have T12 := T11.ext S12
          refine ⟨some (.ref N), [t], rfl, extn_updN x12 nM, tabs_upd T12 L12.1, L12.add cl (NewN.of x11 hnn) nnM ⟨c1, c2, c3, c4⟩, ?_⟩
          rw [upd_ne OM]
          exact S12 _ _ (S11 _ _ (xt10 _ _ (S9 _ _ eO8) fun _ e => by cases e))
    rintro σ4 H4 ⟨w7, ts, rfl, xt4, T4, L4, eO4⟩
    -- the one that does not ask it
    have iy4 := iy.ext xt4
    generalize hgs : (if minP rs kn r v = true then [askA rs r v] else []) = gs at L4 k
    have lgs : gs.length ≤ 1 := by rw [← hgs]; split <;> simp
    have gl := L4.len
    refine ⟨fun σ' H' => ∃ w7 ts, σ' = [some (.ref x), some (.ref z), some (.ref y), some (.int v), some (.ref O), none, some (.ref M), w7] ∧ ExtN H H' ∧ Tabs (TW a) H' ∧ CaLst H M r (gs ++ (if (!decide (r.lo = r.hi) && lessP rs kn r) = true then [reachR rs r r.hi] else [])) ts H', ?_, ?_⟩
    · obtain ⟨dy, hy⟩ := id iy4
      refine ⟨_, rfl, y, dy, _, rfl, hy, y, _, _, _, _, rfl, ⟨dy, hy⟩, _, rfl, ?_⟩
      cases c0 : decide (r.lo = r.hi) with
      | true => exact iteF (iteF ⟨w7, ts, rfl, xt4, T4, by rw [Bool.not_true, Bool.false_and, if_neg (by decide), List.append_nil]; exact L4⟩)
      | false =>
        rw [Bool.not_false, Bool.true_and]
        refine iteT ?_
        refine ⟨_, rfl, O, rfl, ⟨_, SqL.of eO4⟩, fun D hD => ?_⟩
        refine lc_pure (walk_list (K := K) (a := O) (xs := qs.map fun q => V.int q.lo)) qs (fun _ => true) (fun q b _ => b = .bl (decide (r.hi < q.lo))) (by rw [List.length_map]) hD (fun H' s => SqL.of (s _ _ eO4)) (fun i H x H' e => ⟨by rw [e.1]; exact Same.refl _, fun o h => by rw [e.1]; exact h⟩) (by rw [List.length_map, sizeLine_eq]; omega) (fun _ _ _ _ h _ _ => h) ?_ ?_
        · rintro N i b q H8 H8' ed s8 - ⟨rfl, ex⟩ eD8 s8' fin skip
          rw [List.getElem?_map, ed] at ex
          obtain rfl : V.int q.lo = b := Option.some.inj ex
          have hy8 := s8 _ _ hy
          refine ⟨rfl, ?_⟩
          dsimp only [tYes]
          rw [if_pos rfl]
          exact ⟨_, rfl, _, rfl, y, dy, _, rfl, hy8, y, _, _, _, _, rfl, ⟨dy, hy8⟩, _, _, rfl, rfl, fin rfl _ _ (Same.refl _) rfl⟩
        · intro us H8 s8 eD8 pz2
          rw [all_keep] at pz2
          have ez := paired_vals (fun q : Rw => V.bl (decide (r.hi < q.lo))) (H := H8) pz2
          subst ez
          refine ⟨D, qs.map fun q => decide (r.hi < q.lo), rfl, SqL.of (by rw [List.map_map]; exact eD8), _, rfl, ?_⟩
          rw [oth fun o => decide (r.hi < o)]
          change ite (lessP rs kn r = true) _ _
          have x8 := xt4.trans (ExtN.of s8)
          have T8 := T4.ext s8
          have L8 := L4.ext (ExtN.of s8)
          have hy8 := s8 _ _ hy
          cases c : lessP rs kn r with
          | false => exact iteF ⟨w7, ts, rfl, x8, T8, by rw [if_neg (by decide), List.append_nil]; exact L8⟩
          | true =>
            rw [if_pos rfl, if_pos rfl]
            have lr := reach_lt hn mr r.hi
            refine ⟨_, rfl, .inl ⟨rfl, _, SqL.of L8.1⟩, _, rfl, _, rfl, _, rfl, _, rfl, _, rfl, y, dy, _, rfl, hy8, y, _, _, _, _, rfl, ⟨dy, hy8⟩, x, y, rs, r, r.hi, rfl, hp.ext x8, iy.ext x8, Nat.le_of_lt hn64, T8, fun D2 H10 hD2 xt10 T10 eD2 => ?_⟩
            have x11 := x8.trans xt10
            refine ⟨x, y, D2, rs, reachR rs r r.hi, r, rfl, hp.ext x11, hn, R.nm, iy.ext x11, eD2, fun q hq => reach_in hq, by omega, fun t n c H12 S12 hnn c1 c2 c3 c4 cl => ?_⟩
            have L12 := (L8.ext (xt10.trans (ExtN.of S12)))
            have nnM : n ≠ M := fun e => by
              have z := (L8.ext xt10).1
              rw [← e, hnn] at z
              cases z
            refine ⟨M, _, .ref t, rfl, rfl, L12.1, by rw [List.length_map, sizeLine_eq]; omega, ?_⟩
            have x12 := x11.trans (ExtN.of S12)
            have T12 := T10.ext S12
            exact ⟨w7, ts ++ [t], rfl, extn_updN x12 nM, tabs_upd T12 L12.1, L12.add cl (NewN.of x11 hnn) nnM ⟨c1, c2, c3, c4⟩⟩
    rintro σ5 H5 ⟨w7, ts, rfl, xt5, T5, L5⟩
    exact ⟨_, rfl, k M ts H5 nM xt5 T5 L5⟩
end
end Ask

set_option Elab.async false
set_option linter.all false
set_option maxRecDepth 100000
set_option maxHeartbeats 4000000
set_option pp.deepTerms false
set_option pp.deepTerms.threshold 14
namespace Ask
open PySem L2 LamX
open PyProof.Rows
open PySem.W (dataLe)
/-! candidates, up to the first one; cheapest_least -/
section
variable {P : Program} {w : World} {K : PySem.W.Frag} {mg : Str → Option Value} {base : Heap} {a : Ad}
theorem tabs_butN {T : List (Addr × Str)} {H H' : Hp} {D : Addr} {xs : List V} (t : Tabs T H) (e : H D = some (.lst xs)) (b : But D H H') : Tabs T H' := fun p hp => by
  obtain ⟨ps, h1, h2, h3⟩ := t p hp
  refine ⟨ps, b _ _ (fun z => by rw [z, e] at h1; cases h1) h1, h2, fun pos cv hc => ?_⟩
  obtain ⟨c, e1, e2⟩ := h3 pos cv hc
  exact ⟨c, e1, b _ _ (fun z => by rw [z, e] at e2; cases e2) e2⟩
abbrev dueL (rs : List Rw) (kn : List (Str × Int)) (qs : List Rw) : List (Rw × List Rw) := qs.flatMap fun r => (dueG rs kn r).map fun g => (r, g)
abbrev CaOf2 (p : Rw × List Rw) (c : Ca) : Prop := CaOf p.1 p.2 c
theorem due_len (rs : List Rw) (kn : List (Str × Int)) : ∀ qs : List Rw, (dueL rs kn qs).length ≤ 2 * qs.length
  | [] => Nat.le_refl _
  | q :: qs => by
    have z := due_len rs kn qs
    unfold dueL at z ⊢
    rw [List.flatMap_cons, List.length_append, List.length_map, List.length_cons]
    have z2 : (dueG rs kn q).length ≤ 2 := by
      unfold dueG
      rw [List.length_append]
      split <;> split <;> simp
    omega
theorem paired_appR {α β : Type} {F : α → β → Prop} : ∀ {xs xs' : List α} {ys ys' : List β}, Paired F xs ys → Paired F xs' ys' → Paired F (xs ++ xs') (ys ++ ys')
  | _, _, _, _, .nil, h => h
  | _, _, _, _, .cons h t, k => .cons h (paired_appR t k)
theorem paired_pairL {q : Rw} : ∀ {gs : List (List Rw)} {cs : List Ca}, Paired (CaOf q) gs cs → Paired CaOf2 (gs.map fun g => (q, g)) cs
  | _, _, .nil => .nil
  | _, _, .cons h t => .cons h (paired_pairL t)
theorem cands_out {H1 H : Hp} {D p : Addr} {o : HO} {ts us : List Addr} {cs ds : List Ca} (pt : Paired (fun t c => ∃ l, CaL H t l c ∧ NewN H1 l ∧ l ≠ D) ts cs) (pu : Paired (fun t b => (t, b) ∈ ts.zip cs) us ds) (hp : H p = none) :
    Paired (fun t c => ∃ l, CaL (upd H p o) t l c ∧ NewN H1 l ∧ l ≠ p) us ds := paired_imp (fun t c h => by
  obtain ⟨j, hj⟩ := List.mem_iff_getElem?.mp h
  obtain ⟨e1, e2⟩ := List.getElem?_zip_eq_some.mp hj
  obtain ⟨c', ec, l, z1, z2, _⟩ := LiI.paired_get pt e1
  rw [e2] at ec
  cases ec
  exact ⟨l, z1.same (Same.new hp), z2, fun e => by have := z1.2; rw [e, hp] at this; cases this⟩) pu
theorem srtC_len (cs : List Ca) : (srtC cs).length = cs.length := by
  unfold srtC
  exact List.length_mergeSort _
abbrev CandOut (H H' : Hp) (M : Addr) (us : List Addr) (cs : List Ca) : Prop := Paired (fun t c => ∃ l, CaL H' t l c ∧ NewN H l ∧ l ≠ M) us (srtC cs)
def spCandsG (C CI : Addr) (T : List (Addr × Str)) : SpG := fun vs H Q _ => ∃ (x v : Addr) (rs : List Rw) (kn : List (Str × Int)), vs = [.ref x, .ref v] ∧ PoolAt C CI H x rs ∧ Rows rs ∧ H v = some (.dK (kents kn)) ∧ Vals4 rs kn ∧ Tabs T H ∧
  ∀ cs, Paired CaOf2 (dueL rs kn (rs.mergeSort (dataLe false keyR))) cs → ∀ M us H', ExtN H H' → Tabs T H' → CandOut H H' M us cs → Q (us.map V.ref) H'
def spCandsT (C CI : Addr) (T : List (Addr × Str)) : SpT := fun vs H Y => ∃ (x v : Addr) (rs : List Rw) (kn : List (Str × Int)), vs = [.ref x, .ref v] ∧ PoolAt C CI H x rs ∧ Rows rs ∧ H v = some (.dK (kents kn)) ∧ Vals4 rs kn ∧ Tabs T H ∧
  ∀ cs, Paired CaOf2 (dueL rs kn (rs.mergeSort (dataLe false keyR))) cs → ∀ M us H', ExtN H H' → Tabs T H' → H' M = some (.lst (us.map V.ref)) → CandOut H H' M us cs → Y M us H'
theorem ok_candsG (T : Txt K mg a) (TB : TabB base mg a.cd_Pool_walk a.t_Pool_walk) : GFn P w K mg base 10 a.f_candidates a.d_candidates ["pool", "values"] (spCandsG a.c_Pool a.c_Item (TW a)) := by
  have Gtruth_of : FnOk P w K mg base CX0 8 a.f_truth_of a.d_truth_of ["pool", "values"] (spTruth a.c_Pool a.c_Item) := ok_truth T
  have G_walk : WFn P w K mg base 6 a.f_Pool_walk a.d_Pool_walk ["self"] (TW a) (spWalk a.c_Pool a.c_Item) := ok_walk T TB
  have G_candidates_of : FnOk P w K mg base CX0 9 a.f__candidates_of a.d__candidates_of ["pool", "truth", "item"] (spCandsOf a.c_Pool a.c_Item (TW a)) := ok_candsof T TB
  refine Fun.gfn T.F_candidates sc_candidates (fun vs H Q E h => ?_) (fun cdv A outer s H vs Q E pn hr h => ?_)
  · obtain ⟨x, v, rs, kn, rfl, _⟩ := h
    rfl
  · obtain ⟨x, v, rs, kn, rfl, hp, R, hv, V4, hT, k⟩ := h
    have nd := sc_candidates.nd
    refine ⟨_, gss_cons (gs_ps (ps_set (i := 2) nd rfl (by first | exact Or.inl rfl | exact Or.inr rfl) (pe_call Gtruth_of (hr.mono (by first | decide | omega)) rfl T.g_truth_of T.F_truth_of.kp T.b_truth_of .nil pass0 (pa_cons (pv 0) (pa_cons (pv 1) pa_nil))))) (gss_cons (gs_yieldFrom (yf_list (pe_callB (cr_sortedData caD hr.units) (by rfl) T.b_sorted (by decide +kernel) (pa_cons (pe_lc2W (own := [("item", 3), ("found", 4)]) (vs1 := [4]) (g := gName 3) (g1 := gName 4) (tt := tYes) (tt1 := tYes) rfl nd (pw_meth0 (pv 0) T.cl_Pool T.m_Pool_walk G_walk (hr.mono (by decide)) T.b_Pool_walk) (hr.mono (by decide)) (blkOk_by (N := ["pool", "values", "truth", "item", "found"]) (sc := defScope s_candidates) (by decide +kernel)) (by decide) (by decide +kernel) (fun _ _ _ _ _ => (pg_name (i := 3) nd rfl (by first | exact Or.inl rfl | exact Or.inr rfl))) (fun _ _ _ _ _ => pts_nil) (fun _ _ _ _ _ => (pi_listK (K := K) rfl (pe_call G_candidates_of (hr.mono (by first | decide | omega)) rfl T.g__candidates_of T.F__candidates_of.kp T.b__candidates_of .nil pass0 (pa_cons (pv 0) (pa_cons (pv 2) (pa_cons (pv 3) pa_nil)))))) (fun _ _ _ _ _ => (pg_name (i := 4) nd rfl (by first | exact Or.inl rfl | exact Or.inr rfl))) (fun _ _ _ _ _ => pts_nil) (fun _ _ _ _ _ => (pv 4))) pa_nil))) hr.hd) gss_nil), ?_⟩
    refine ⟨_, rfl, _, rfl, x, v, rs, kn, rfl, hp, R, hv, V4.pm, V4.ok, fun z H1 hz S1 pz => ?_⟩
    have hp1 := hp.same S1
    have T1 := hT.ext S1
    obtain ⟨bs, hs, hi⟩ := spWalk.of hp1 (Nat.le_of_lt R.len)
    have hm : ∀ q ∈ rs.mergeSort (dataLe false keyR), q ∈ rs := fun q hq => List.mem_mergeSort.mp hq
    have ln : (rs.mergeSort (dataLe false keyR)).length ≤ 64 := by rw [List.length_mergeSort]; exact Nat.le_of_lt R.len
    generalize rs.mergeSort (dataLe false keyR) = qs at hi hm ln k
    obtain ⟨dx, d, as, hx, hd, _⟩ := id hp1
    have lb : bs.length = qs.length := paired_len hi
    refine ⟨_, rfl, x, dx, _, bs.map V.ref, rfl, hx, by with_unfolding_all rfl, T1, hs, fun D hD => ?_⟩
    refine ⟨fun i m H' => i ≤ qs.length ∧ m = qs.length - i ∧ ExtN H1 H' ∧ Tabs (TW a) H' ∧ ∃ ts cs, H' D = some (.lst (List.map V.ref ts)) ∧ Paired CaOf2 (dueL rs kn (qs.take i)) cs ∧ Paired (fun t c => ∃ l, CaL H' t l c ∧ NewN H1 l ∧ l ≠ D) ts cs, ⟨qs.length, Nat.zero_le _, rfl, extn_upd (ExtN.refl H1) hD, tabs_upd0 T1 hD, [], [], upd_same, .nil, .nil⟩, ?_⟩
    rintro i m H' ⟨hk, rfl, xt, hT', ts, cs, hDl, pc, pt⟩
    by_cases e : i = qs.length
    · subst e
      refine .inl ⟨by rw [List.length_map, lb], fun H'' st => ?_⟩
      rw [List.take_length] at pc
      have x2 := (ExtN.of S1).trans (xt.trans st.1)
      have T2 := st.2 hT'
      have hD2 := st.1 _ _ hDl fun _ z => by cases z
      have pt2 : Paired (fun t c => ∃ l, CaL H'' t l c ∧ NewN H1 l ∧ l ≠ D) ts cs := paired_imp (fun t c ⟨l, z1, z2⟩ => ⟨l, z1.ext st.1, z2⟩) pt
      refine ⟨D, ts, cs, rfl, SqL.of hD2, paired_imp (fun t c ⟨l, z1, _⟩ => CaAt.dp ⟨l, z1⟩) pt2, ca_alikeAll cs, ca_sortable cs, fun b _ => ca_depth b, fun us p pu hp0 => ?_⟩
      have pu : Paired (fun t b => (t, b) ∈ ts.zip cs) us (srtC cs) := pu
      have S3 := Same.new hp0 (o := .lst (us.map V.ref))
      have x3 := x2.trans (ExtN.of S3)
      have T3 := T2.ext S3
      have po := cands_out (o := .lst (us.map V.ref)) pt2 pu hp0
      have po2 : Paired (fun t c => ∃ l, CaL (upd H'' p (.lst (us.map V.ref))) t l c ∧ NewN H l ∧ l ≠ p) us (srtC cs) := paired_imp (fun t c ⟨l, z1, z2, z3⟩ => ⟨l, z1, fun b o eb hn => z2 b o (S1 _ _ eb) hn, z3⟩) po
      refine ⟨p, us.map V.ref, rfl, upd_same, ?_, ?_⟩
      · have z := paired_len pu
        have z2 := paired_len pc
        have z3 := due_len rs kn qs
        rw [srtC_len] at z
        rw [List.length_map, sizeLine_eq]
        show 0 + _ ≤ _
        omega
      · exact k cs pc p us _ x3 T3 po2
    · have lt : i < qs.length := by omega
      have eq : qs[i]? = some qs[i] := List.getElem?_eq_getElem lt
      have eb : bs[i]? = some bs[i] := List.getElem?_eq_getElem (by rw [lb]; exact lt)
      obtain ⟨q, e1, iq⟩ := LiI.paired_get hi eb
      obtain rfl : qs[i] = q := Option.some.inj (eq.symm.trans e1)
      have tk : dueL rs kn (qs.take (i + 1)) = dueL rs kn (qs.take i) ++ (dueG rs kn qs[i]).map fun g => (qs[i], g) := by
        rw [List.take_succ, eq]
        unfold dueL
        rw [List.flatMap_append]
        simp
      have ll := due_len rs kn (qs.take i)
      rw [List.length_take] at ll
      have lts : ts.length ≤ 128 := by
        rw [paired_len pt, ← paired_len pc]
        omega
      have hmq : qs[i] ∈ rs := hm _ (List.getElem_mem lt)
      generalize qs[i] = q at eq iq tk hmq
      refine .inr ⟨.ref bs[i], by rw [List.getElem?_map, eb]; rfl, fun H'' => ExtN H1 H'' ∧ Tabs (TW a) H'' ∧ ∃ ts cs, H'' D = some (.lst (List.map V.ref ts)) ∧ Paired CaOf2 (dueL rs kn (qs.take (i + 1))) cs ∧ Paired (fun t c => ∃ l, CaL H'' t l c ∧ NewN H1 l ∧ l ≠ D) ts cs, fun H'' h => ⟨qs.length - (i + 1), by omega, lt, rfl, h⟩, fun H'' st => ?_⟩
      generalize bs[i] = b at iq
      have x2 := xt.trans st.1
      have T2 := st.2 hT'
      have hD2 := st.1 _ _ hDl fun _ z => by cases z
      have pt2 : Paired (fun t c => ∃ l, CaL H'' t l c ∧ NewN H1 l ∧ l ≠ D) ts cs := paired_imp (fun t c ⟨l, z1, z2⟩ => ⟨l, z1.ext st.1, z2⟩) pt
      refine ⟨rfl, yesT ?_⟩
      refine ⟨_, rfl, _, rfl, _, rfl, x, z, b, rs, kn, q, rfl, hp1.ext x2, pz.ext x2, R, V4, (iq.ext x2), hmq, T2, fun D2 ts2 H4 nD2 x4 T4 L4 => ?_⟩
      obtain ⟨eD2, cs2, pg, pt4⟩ := L4
      have hD4 := x4 _ _ hD2 fun _ z => by cases z
      have DD : D2 ≠ D := fun e => nD2 _ _ hD2 (fun _ z => by cases z) e.symm
      have l2 : ts2.length ≤ 2 := by
        rw [paired_len pt4, ← paired_len pg]
        have z := due_len rs kn [q]
        unfold dueL at z
        rw [List.flatMap_cons, List.flatMap_nil, List.append_nil, List.length_map] at z
        exact z
      refine ⟨D2, rfl, ⟨_, SqL.of eD2⟩, ?_⟩
      refine lc2_in (walk_list (K := K) (a := D2) (xs := ts2.map V.ref)) (fun j H' => H' D = some (.lst (List.map V.ref (ts ++ ts2.take j))) ∧ But D H4 H') ⟨by rw [List.take_zero, List.append_nil]; exact hD4, fun _ _ _ e => e⟩ (fun j H' _ ⟨_, b'⟩ => SqL.of (b' _ _ DD eD2)) ?_ ?_
      · rintro j w H5 H5' hj ⟨e5, b5⟩ ⟨rfl, ex⟩
        rw [List.getElem?_map] at ex
        cases et : ts2[j]? with
        | none => rw [et] at ex; cases ex
        | some u =>
        rw [et] at ex
        obtain rfl : V.ref u = w := Option.some.inj ex
        refine ⟨rfl, yesT ?_⟩
        refine ⟨_, rfl, _, e5, ?_, ?_, fun b o hb eb => by rw [upd_ne hb]; exact b5 b o hb eb⟩
        · rw [List.length_map, List.length_append, sizeLine_eq]
          have z : (ts2.take j).length ≤ ts2.length := by rw [List.length_take]; exact Nat.min_le_right _ _
          omega
        · rw [upd_same, take_snoc et, ← List.append_assoc, List.map_append (l₁ := ts ++ ts2.take j)]
          rfl
      · rintro H5 ⟨e5, b5⟩
        rw [List.length_map, List.take_length] at e5
        have x5 : ExtN H1 H5 := fun b o eb hn => b5 _ _ (NewN.of (ExtN.refl H1) hD b o eb hn) ((x2.trans x4) _ _ eb hn)
        refine ⟨x5, tabs_butN T4 hD4 b5, ts ++ ts2, cs ++ cs2, e5, ?_, ?_⟩
        · rw [tk]
          exact paired_appR pc (paired_pairL pg)
        · have kp : ∀ t l c, CaL H4 t l c → l ≠ D → CaL H5 t l c := fun t l c z lD => ⟨b5 _ _ (fun e => by have := z.1; rw [e, hD4] at this; cases this) z.1, b5 _ _ lD z.2⟩
          refine paired_appR (paired_imp (fun t c ⟨l, z1, z2, z3⟩ => ⟨l, kp t l c (z1.ext x4) z3, z2, z3⟩) pt2) (paired_imp (fun t c ⟨l, z1, z2, z3⟩ => ?_) pt4)
          have lD : l ≠ D := fun e => z2 _ _ hD2 (fun _ z => by cases z) e.symm
          exact ⟨l, kp t l c z1 lD, fun b o eb hn => z2 b o (x2 _ _ eb hn) hn, lD⟩
theorem ok_candsT (T : Txt K mg a) (TB : TabB base mg a.cd_Pool_walk a.t_Pool_walk) : TFn P w K mg base 10 a.f_candidates a.d_candidates ["pool", "values"] (spCandsT a.c_Pool a.c_Item (TW a)) := by
  have Gtruth_of : FnOk P w K mg base CX0 8 a.f_truth_of a.d_truth_of ["pool", "values"] (spTruth a.c_Pool a.c_Item) := ok_truth T
  have G_walk : WFn P w K mg base 6 a.f_Pool_walk a.d_Pool_walk ["self"] (TW a) (spWalk a.c_Pool a.c_Item) := ok_walk T TB
  have G_candidates_of : FnOk P w K mg base CX0 9 a.f__candidates_of a.d__candidates_of ["pool", "truth", "item"] (spCandsOf a.c_Pool a.c_Item (TW a)) := ok_candsof T TB
  refine Fun.tfn T.F_candidates rfl sc_candidates (fun vs H Y h => ?_) (fun cdv A s => rfl) (fun cdv A outer s H vs Y pn hr h => ?_)
  · obtain ⟨x, v, rs, kn, rfl, _⟩ := h
    rfl
  · obtain ⟨x, v, rs, kn, rfl, hp, R, hv, V4, hT, k⟩ := h
    have nd := sc_candidates.nd
    refine ⟨_, _, (ps_set (i := 2) nd rfl (by first | exact Or.inl rfl | exact Or.inr rfl) (pe_call Gtruth_of (hr.mono (by first | decide | omega)) rfl T.g_truth_of T.F_truth_of.kp T.b_truth_of .nil pass0 (pa_cons (pv 0) (pa_cons (pv 1) pa_nil)))), (pe_callB (cr_sortedData caD hr.units) (by rfl) T.b_sorted (by decide +kernel) (pa_cons (pe_lc2W (own := [("item", 3), ("found", 4)]) (vs1 := [4]) (g := gName 3) (g1 := gName 4) (tt := tYes) (tt1 := tYes) rfl nd (pw_meth0 (pv 0) T.cl_Pool T.m_Pool_walk G_walk (hr.mono (by decide)) T.b_Pool_walk) (hr.mono (by decide)) (blkOk_by (N := ["pool", "values", "truth", "item", "found"]) (sc := defScope s_candidates) (by decide +kernel)) (by decide) (by decide +kernel) (fun _ _ _ _ _ => (pg_name (i := 3) nd rfl (by first | exact Or.inl rfl | exact Or.inr rfl))) (fun _ _ _ _ _ => pts_nil) (fun _ _ _ _ _ => (pi_listK (K := K) rfl (pe_call G_candidates_of (hr.mono (by first | decide | omega)) rfl T.g__candidates_of T.F__candidates_of.kp T.b__candidates_of .nil pass0 (pa_cons (pv 0) (pa_cons (pv 2) (pa_cons (pv 3) pa_nil)))))) (fun _ _ _ _ _ => (pg_name (i := 4) nd rfl (by first | exact Or.inl rfl | exact Or.inr rfl))) (fun _ _ _ _ _ => pts_nil) (fun _ _ _ _ _ => (pv 4))) pa_nil)), ?_⟩
    refine ⟨_, rfl, _, rfl, x, v, rs, kn, rfl, hp, R, hv, V4.pm, V4.ok, fun z H1 hz S1 pz => ?_⟩
    have hp1 := hp.same S1
    have T1 := hT.ext S1
    obtain ⟨bs, hs, hi⟩ := spWalk.of hp1 (Nat.le_of_lt R.len)
    have hm : ∀ q ∈ rs.mergeSort (dataLe false keyR), q ∈ rs := fun q hq => List.mem_mergeSort.mp hq
    have ln : (rs.mergeSort (dataLe false keyR)).length ≤ 64 := by rw [List.length_mergeSort]; exact Nat.le_of_lt R.len
    generalize rs.mergeSort (dataLe false keyR) = qs at hi hm ln k
    obtain ⟨dx, d, as, hx, hd, _⟩ := id hp1
    have lb : bs.length = qs.length := paired_len hi
    refine ⟨_, rfl, x, dx, _, bs.map V.ref, rfl, hx, by with_unfolding_all rfl, T1, hs, fun D hD => ?_⟩
    refine ⟨fun i m H' => i ≤ qs.length ∧ m = qs.length - i ∧ ExtN H1 H' ∧ Tabs (TW a) H' ∧ ∃ ts cs, H' D = some (.lst (List.map V.ref ts)) ∧ Paired CaOf2 (dueL rs kn (qs.take i)) cs ∧ Paired (fun t c => ∃ l, CaL H' t l c ∧ NewN H1 l ∧ l ≠ D) ts cs, ⟨qs.length, Nat.zero_le _, rfl, extn_upd (ExtN.refl H1) hD, tabs_upd0 T1 hD, [], [], upd_same, .nil, .nil⟩, ?_⟩
    rintro i m H' ⟨hk, rfl, xt, hT', ts, cs, hDl, pc, pt⟩
    by_cases e : i = qs.length
    · subst e
      refine .inl ⟨by rw [List.length_map, lb], fun H'' st => ?_⟩
      rw [List.take_length] at pc
      have x2 := (ExtN.of S1).trans (xt.trans st.1)
      have T2 := st.2 hT'
      have hD2 := st.1 _ _ hDl fun _ z => by cases z
      have pt2 : Paired (fun t c => ∃ l, CaL H'' t l c ∧ NewN H1 l ∧ l ≠ D) ts cs := paired_imp (fun t c ⟨l, z1, z2⟩ => ⟨l, z1.ext st.1, z2⟩) pt
      refine ⟨D, ts, cs, rfl, SqL.of hD2, paired_imp (fun t c ⟨l, z1, _⟩ => CaAt.dp ⟨l, z1⟩) pt2, ca_alikeAll cs, ca_sortable cs, fun b _ => ca_depth b, fun us p pu hp0 => ?_⟩
      have pu : Paired (fun t b => (t, b) ∈ ts.zip cs) us (srtC cs) := pu
      have S3 := Same.new hp0 (o := .lst (us.map V.ref))
      have x3 := x2.trans (ExtN.of S3)
      have T3 := T2.ext S3
      have po := cands_out (o := .lst (us.map V.ref)) pt2 pu hp0
      have po2 : Paired (fun t c => ∃ l, CaL (upd H'' p (.lst (us.map V.ref))) t l c ∧ NewN H l ∧ l ≠ p) us (srtC cs) := paired_imp (fun t c ⟨l, z1, z2, z3⟩ => ⟨l, z1, fun b o eb hn => z2 b o (S1 _ _ eb) hn, z3⟩) po
      exact ⟨p, us, rfl, upd_same, k cs pc p us _ x3 T3 upd_same po2⟩
    · have lt : i < qs.length := by omega
      have eq : qs[i]? = some qs[i] := List.getElem?_eq_getElem lt
      have eb : bs[i]? = some bs[i] := List.getElem?_eq_getElem (by rw [lb]; exact lt)
      obtain ⟨q, e1, iq⟩ := LiI.paired_get hi eb
      obtain rfl : qs[i] = q := Option.some.inj (eq.symm.trans e1)
      have tk : dueL rs kn (qs.take (i + 1)) = dueL rs kn (qs.take i) ++ (dueG rs kn qs[i]).map fun g => (qs[i], g) := by
        rw [List.take_succ, eq]
        unfold dueL
        rw [List.flatMap_append]
        simp
      have ll := due_len rs kn (qs.take i)
      rw [List.length_take] at ll
      have lts : ts.length ≤ 128 := by
        rw [paired_len pt, ← paired_len pc]
        omega
      have hmq : qs[i] ∈ rs := hm _ (List.getElem_mem lt)
      generalize qs[i] = q at eq iq tk hmq
      refine .inr ⟨.ref bs[i], by rw [List.getElem?_map, eb]; rfl, fun H'' => ExtN H1 H'' ∧ Tabs (TW a) H'' ∧ ∃ ts cs, H'' D = some (.lst (List.map V.ref ts)) ∧ Paired CaOf2 (dueL rs kn (qs.take (i + 1))) cs ∧ Paired (fun t c => ∃ l, CaL H'' t l c ∧ NewN H1 l ∧ l ≠ D) ts cs, fun H'' h => ⟨qs.length - (i + 1), by omega, lt, rfl, h⟩, fun H'' st => ?_⟩
      generalize bs[i] = b at iq
      have x2 := xt.trans st.1
      have T2 := st.2 hT'
      have hD2 := st.1 _ _ hDl fun _ z => by cases z
      have pt2 : Paired (fun t c => ∃ l, CaL H'' t l c ∧ NewN H1 l ∧ l ≠ D) ts cs := paired_imp (fun t c ⟨l, z1, z2⟩ => ⟨l, z1.ext st.1, z2⟩) pt
      refine ⟨rfl, yesT ?_⟩
      refine ⟨_, rfl, _, rfl, _, rfl, x, z, b, rs, kn, q, rfl, hp1.ext x2, pz.ext x2, R, V4, (iq.ext x2), hmq, T2, fun D2 ts2 H4 nD2 x4 T4 L4 => ?_⟩
      obtain ⟨eD2, cs2, pg, pt4⟩ := L4
      have hD4 := x4 _ _ hD2 fun _ z => by cases z
      have DD : D2 ≠ D := fun e => nD2 _ _ hD2 (fun _ z => by cases z) e.symm
      have l2 : ts2.length ≤ 2 := by
        rw [paired_len pt4, ← paired_len pg]
        have z := due_len rs kn [q]
        unfold dueL at z
        rw [List.flatMap_cons, List.flatMap_nil, List.append_nil, List.length_map] at z
        exact z
      refine ⟨D2, rfl, ⟨_, SqL.of eD2⟩, ?_⟩
      refine lc2_in (walk_list (K := K) (a := D2) (xs := ts2.map V.ref)) (fun j H' => H' D = some (.lst (List.map V.ref (ts ++ ts2.take j))) ∧ But D H4 H') ⟨by rw [List.take_zero, List.append_nil]; exact hD4, fun _ _ _ e => e⟩ (fun j H' _ ⟨_, b'⟩ => SqL.of (b' _ _ DD eD2)) ?_ ?_
      · rintro j w H5 H5' hj ⟨e5, b5⟩ ⟨rfl, ex⟩
        rw [List.getElem?_map] at ex
        cases et : ts2[j]? with
        | none => rw [et] at ex; cases ex
        | some u =>
        rw [et] at ex
        obtain rfl : V.ref u = w := Option.some.inj ex
        refine ⟨rfl, yesT ?_⟩
        refine ⟨_, rfl, _, e5, ?_, ?_, fun b o hb eb => by rw [upd_ne hb]; exact b5 b o hb eb⟩
        · rw [List.length_map, List.length_append, sizeLine_eq]
          have z : (ts2.take j).length ≤ ts2.length := by rw [List.length_take]; exact Nat.min_le_right _ _
          omega
        · rw [upd_same, take_snoc et, ← List.append_assoc, List.map_append (l₁ := ts ++ ts2.take j)]
          rfl
      · rintro H5 ⟨e5, b5⟩
        rw [List.length_map, List.take_length] at e5
        have x5 : ExtN H1 H5 := fun b o eb hn => b5 _ _ (NewN.of (ExtN.refl H1) hD b o eb hn) ((x2.trans x4) _ _ eb hn)
        refine ⟨x5, tabs_butN T4 hD4 b5, ts ++ ts2, cs ++ cs2, e5, ?_, ?_⟩
        · rw [tk]
          exact paired_appR pc (paired_pairL pg)
        · have kp : ∀ t l c, CaL H4 t l c → l ≠ D → CaL H5 t l c := fun t l c z lD => ⟨b5 _ _ (fun e => by have := z.1; rw [e, hD4] at this; cases this) z.1, b5 _ _ lD z.2⟩
          refine paired_appR (paired_imp (fun t c ⟨l, z1, z2, z3⟩ => ⟨l, kp t l c (z1.ext x4) z3, z2, z3⟩) pt2) (paired_imp (fun t c ⟨l, z1, z2, z3⟩ => ?_) pt4)
          have lD : l ≠ D := fun e => z2 _ _ hD2 (fun _ z => by cases z) e.symm
          exact ⟨l, kp t l c z1 lD, fun b o eb hn => z2 b o (x2 _ _ eb hn) hn, lD⟩
end
end Ask

set_option Elab.async false
set_option linter.all false
set_option maxRecDepth 100000
set_option maxHeartbeats 4000000
namespace Ask
open PySem L2 LamX
open PyProof.Rows
open PySem.W (dataLe)
/-! what is known of candidates -/
theorem paired_fun {α β : Type} {R : α → β → Prop} (F : α → β) : ∀ {ps : List α} {cs : List β}, Paired R ps cs → (∀ p ∈ ps, ∀ c, R p c → c = F p) → cs = ps.map F
  | _, _, .nil, _ => rfl
  | _, _, .cons h t, k => by
    rw [List.map_cons, k _ List.mem_cons_self _ h, paired_fun F t fun p hp => k p (List.mem_cons_of_mem _ hp)]
theorem paired_memR {α β : Type} {R : α → β → Prop} : ∀ {ps : List α} {cs : List β}, Paired R ps cs → ∀ c ∈ cs, ∃ p ∈ ps, R p c
  | _, _, .nil, _, h => nomatch h
  | _, _, .cons h t, c, hc => by
    rcases List.mem_cons.mp hc with rfl | hc
    · exact ⟨_, List.mem_cons_self, h⟩
    · obtain ⟨p, hp, z⟩ := paired_memR t c hc
      exact ⟨p, List.mem_cons_of_mem _ hp, z⟩
theorem srt_one {xs ys zs : List Str} (nd : zs.Nodup) (p : xs.Perm zs) (q : ys.Perm zs) (sx : sortedS xs = true) (sy : sortedS ys = true) : ys = xs :=
  asc_unique ltS_irrefl ltS_trans (sortedS_lt sy (q.nodup_iff.mpr nd)) (sortedS_lt sx (p.nodup_iff.mpr nd)) fun _ => (q.trans p.symm).mem_iff
theorem caOf_one {r : Rw} {g : List Rw} {c d : Ca} (nd : (g.map (·.nm)).Nodup) (h : CaOf r g c) (k : CaOf r g d) : d = c := by
  obtain ⟨c1, c2, c3⟩ := c
  obtain ⟨d1, d2, d3⟩ := d
  obtain ⟨h1, h2, h3, h4⟩ := h
  obtain ⟨k1, k2, k3, k4⟩ := k
  dsimp only at *
  rw [k1, k2, h1, h2, srt_one nd h3 k3 h4 k4]
theorem reach_nodup {rs : List Rw} (hn : (rs.map (·.nm)).Nodup) (r : Rw) (v : Int) : ((reachR rs r v).map (·.nm)).Nodup := by
  unfold reachR
  have z : ((rs.mergeSort (dataLe false keyR)).map (·.nm)).Nodup := ((List.mergeSort_perm rs (dataLe false keyR)).map _).nodup_iff.mpr hn
  exact List.Sublist.nodup (List.Sublist.map _ List.filter_sublist) z
theorem due_mem {rs : List Rw} {kn : List (Str × Int)} {r : Rw} {g : List Rw} (h : g ∈ dueG rs kn r) : g = askA rs r (valOf kn r) ∨ g = reachR rs r r.hi := by
  unfold dueG at h
  rcases List.mem_append.mp h with h | h
  · split at h
    · exact .inl (List.mem_singleton.mp h)
    · cases h
  · split at h
    · exact .inr (List.mem_singleton.mp h)
    · cases h
theorem due_nodup {rs : List Rw} (hn : (rs.map (·.nm)).Nodup) {kn : List (Str × Int)} {r : Rw} {g : List Rw} (h : g ∈ dueG rs kn r) : (g.map (·.nm)).Nodup := by
  rcases due_mem h with rfl | rfl
  · unfold askA
    split
    · exact reach_nodup hn _ _
    · rw [List.map_append, List.nodup_append]
      refine ⟨by simp, reach_nodup hn _ _, fun x hx y hy e => ?_⟩
      obtain ⟨q, hq, rfl⟩ := List.mem_map.mp hy
      have z := (List.mem_filter.mp hq).2
      have e2 : x = r.nm := by simpa using hx
      unfold downP at z
      rw [← e, e2] at z
      simp at z
  · exact reach_nodup hn _ _
theorem due_in {rs : List Rw} (hn : (rs.map (·.nm)).Nodup) {kn : List (Str × Int)} {r : Rw} (mr : r ∈ rs) {g : List Rw} (h : g ∈ dueG rs kn r) : (∀ q ∈ g, q ∈ rs) ∧ g.length ≤ rs.length := by
  rcases due_mem h with rfl | rfl
  · unfold askA
    refine ⟨fun q hq => ?_, ?_⟩
    · rcases List.mem_append.mp hq with hq | hq
      · split at hq
        · cases hq
        · rw [List.mem_singleton.mp hq]
          exact mr
      · exact reach_in hq
    · rw [List.length_append]
      have z := reach_lt hn mr (valOf kn r)
      have z2 : (if r.lo = r.hi then [] else [r]).length ≤ 1 := by split <;> simp
      omega
  · exact ⟨fun q hq => reach_in hq, reach_len _ _ _⟩
theorem dueL_mem {rs : List Rw} {kn : List (Str × Int)} {qs : List Rw} {p : Rw × List Rw} (h : p ∈ dueL rs kn qs) : p.1 ∈ qs ∧ p.2 ∈ dueG rs kn p.1 := by
  obtain ⟨r, hr, z⟩ := List.mem_flatMap.mp h
  obtain ⟨g, hg, rfl⟩ := List.mem_map.mp z
  exact ⟨hr, hg⟩
/-- whatever the order of the rows: the same candidates -/
theorem due_perm {rs : List Rw} (hn : (rs.map (·.nm)).Nodup) {kn : List (Str × Int)} {qs qs' : List Rw} {cs cs' : List Ca} (h : Paired CaOf2 (dueL rs kn qs) cs) (h' : Paired CaOf2 (dueL rs kn qs') cs') (pm : qs.Perm qs') : srtC cs = srtC cs' := by
  classical
  let F : Rw × List Rw → Ca := fun p => if h : ∃ c, CaOf2 p c then h.choose else (0, p.1.nm, [])
  have one : ∀ {qs : List Rw}, ∀ p ∈ dueL rs kn qs, ∀ c, CaOf2 p c → c = F p := fun {qs} p hp c hc => by
    have ex : ∃ c, CaOf2 p c := ⟨c, hc⟩
    show c = if h : ∃ c, CaOf2 p c then h.choose else (0, p.1.nm, [])
    rw [dif_pos ex]
    exact caOf_one (due_nodup hn (dueL_mem hp).2) ex.choose_spec hc
  refine srtC_perm ?_
  rw [paired_fun F h one, paired_fun F h' one]
  exact (List.Perm.flatMap_right _ pm).map F
theorem ca_small : ∀ {xs : List Int} {n : Nat}, (∀ x ∈ xs, 0 ≤ x ∧ x ≤ 999) → xs.length ≤ n → 0 ≤ xs.sum ∧ xs.sum ≤ 999 * (n : Int)
  | [], n, _, _ => by simp; omega
  | x :: xs, n, h, l => by
    obtain ⟨n, rfl⟩ : ∃ m, n = m + 1 := ⟨n - 1, by rw [List.length_cons] at l; omega⟩
    have z := ca_small (xs := xs) (n := n) (fun y hy => h y (List.mem_cons_of_mem _ hy)) (by rw [List.length_cons] at l; omega)
    have z2 := h x List.mem_cons_self
    rw [List.sum_cons]
    omega
theorem ca_price {r : Rw} (h : RowOk r) : 0 ≤ r.pr ∧ r.pr ≤ 999 := by
  rcases Int.lt_or_le r.lo r.hi with c | c
  · have z := h.op c
    omega
  · have z := h.ex (by have := h.le; omega)
    omega
/-- such a tuple can be shown -/
theorem ca_sh {rs : List Rw} (hn : (rs.map (·.nm)).Nodup) (rok : ∀ r ∈ rs, RowOk r) (len : rs.length ≤ 40) {kn : List (Str × Int)} {qs : List Rw} (hq : ∀ q ∈ qs, q ∈ rs) {cs : List Ca} (h : Paired CaOf2 (dueL rs kn qs) cs) {c : Ca} (hc : c ∈ cs) : Sh 60 sizeLine (caD c) := by
  obtain ⟨p, hp, h1, h2, h3, _⟩ := paired_memR h c hc
  obtain ⟨m1, m2⟩ := dueL_mem hp
  obtain ⟨g1, g2⟩ := due_in hn (hq _ m1) m2
  have z := ca_small (n := 40) (xs := p.2.map (·.pr)) (fun x hx => by
    obtain ⟨r, hr, rfl⟩ := List.mem_map.mp hx
    exact ca_price (rok r (g1 r hr))) (by rw [List.length_map]; omega)
  have e1 : c.1 = (p.2.map (·.pr)).sum := h1
  have shn : ∀ x ∈ c.2.2, (PyData.str x).shown.length ≤ 20 := fun x hx => by
    obtain ⟨r, hr, rfl⟩ := List.mem_map.mp (h3.mem_iff.mp hx)
    exact (rok r (g1 r hr)).sh
  have l3 : c.2.2.length ≤ 40 := by
    have z := h3.length_eq
    rw [List.length_map] at z
    omega
  refine (sh_tup (n := 1) (k := 3) (L := 2000) (fun d hd => ?_) (by show 3 ≤ 3; decide)).up (by decide) (by decide)
  simp only [List.mem_cons, List.not_mem_nil, or_false] at hd
  rcases hd with rfl | rfl | rfl
  · exact (sh_int (by omega)).up (by decide) (by decide)
  · refine (sh_str (L := 20) ?_).up (by decide) (by decide)
    rw [h2]
    exact (rok _ (hq _ m1)).sh
  · exact strs_sh1 shn l3
theorem exists_min {α : Type} (f : α → Int) : ∀ {rs : List α}, rs ≠ [] → ∃ r ∈ rs, ∀ q ∈ rs, f r ≤ f q
  | [], h => absurd rfl h
  | [a], _ => ⟨a, List.mem_cons_self, fun q hq => by rw [List.mem_singleton.mp hq]; exact Int.le_refl _⟩
  | a :: b :: rs, _ => by
    obtain ⟨r, hr, z⟩ := exists_min f (rs := b :: rs) (by simp)
    by_cases c : f a ≤ f r
    · exact ⟨a, List.mem_cons_self, fun q hq => by
        rcases List.mem_cons.mp hq with rfl | hq
        · exact Int.le_refl _
        · exact Int.le_trans c (z q hq)⟩
    · exact ⟨r, List.mem_cons_of_mem _ hr, fun q hq => by
        rcases List.mem_cons.mp hq with rfl | hq
        · omega
        · exact z q hq⟩
/-- some item has the least value -/
theorem due_some {rs : List Rw} (kn : List (Str × Int)) (h : rs ≠ []) : dueL rs kn rs ≠ [] := by
  obtain ⟨r, hr, z⟩ := exists_min (valOf kn) h
  have m : (r, askA rs r (valOf kn r)) ∈ dueL rs kn rs := by
    refine List.mem_flatMap.mpr ⟨r, hr, List.mem_map.mpr ⟨_, ?_, rfl⟩⟩
    unfold dueG
    refine List.mem_append_left _ ?_
    rw [if_pos]
    · exact List.mem_singleton.mpr rfl
    · exact List.all_eq_true.mpr fun q hq => decide_eq_true (z q (List.mem_filter.mp hq).1)
  exact fun e => by rw [e] at m; cases m
end Ask

set_option Elab.async false
set_option linter.all false
set_option maxRecDepth 100000
set_option maxHeartbeats 4000000
set_option pp.deepTerms false
set_option pp.deepTerms.threshold 14
namespace Ask
open PySem L2
open PyProof.Rows
section
variable {P : Program} {w : World} {K : PySem.W.Frag} {mg : Str → Option Value} {base : Heap} {a : Ad}
theorem find_step {α : Type} {p : α → Bool} {l : List α} {j : Nat} {e : α} (h : (l.take j).find? p = none) (he : l[j]? = some e) : (p e = true → l.find? p = some e) ∧ (p e = false → (l.take (j + 1)).find? p = none) := by
  refine ⟨fun c => ?_, fun c => ?_⟩
  · obtain ⟨jl, ej⟩ := List.getElem?_eq_some_iff.mp he
    rw [← List.take_append_drop j l, List.find?_append, h, List.drop_eq_getElem_cons jl, ej, List.find?_cons_of_pos c]
    rfl
  · rw [take_snoc he, List.find?_append, h, List.find?_cons_of_neg (by rw [c]; decide)]
    rfl
/-- r is surely the least of ps -/
def sureP (ps : List Rw) (r : Rw) : Bool := (ps.filter fun q => !decide (q.nm = r.nm)).all fun q => belowB r.lo r.hi q.lo q.hi
def sureR (ps : List Rw) : Option Rw := ps.find? (sureP ps)
def sureV (ps : List Rw) : V := match sureR ps with | none => .non | some r => .str r.nm
def spSure (C CI : Addr) : Sp := fun vs H Q _ => ∃ (y : Addr) (ps : List Rw), vs = [.ref y] ∧ PoolAt C CI H y ps ∧ RowsP ps ∧ ∀ H', Same H H' → Q (sureV ps) H'
theorem ok_sure (T : Txt K mg a) : FnOk P w K mg base CX0 6 a.f_sure_least a.d_sure_least ["pool"] (spSure a.c_Pool a.c_Item) := by
  have G_pnames : FnOk P w K mg base CX0 1 a.f_Pool_names a.d_Pool_names ["self"] (spPNames a.c_Pool a.c_Item) := ok_pnames T
  have G_pitem : FnOk P w K mg base CX0 2 a.f_Pool_item a.d_Pool_item ["self", "name"] (spPItem a.c_Pool a.c_Item) := ok_pitem T
  have G_name : FnOk P w K mg base CX0 1 a.f_Item_name a.d_Item_name ["self"] (spName a.c_Item) := ok_name T
  have Gis_settled_below : FnOk P w K mg base CX0 5 a.f_is_settled_below a.d_is_settled_below ["item", "other"] (spBelow a.c_Item) := ok_below T
  refine T.F_sure_least.ok sc_sure_least (fun vs H Q E h => ?_) (fun cdv A outer s H vs Q E hr h => ?_)
  · obtain ⟨y, ps, rfl, _⟩ := h
    rfl
  · obtain ⟨y, ps, rfl, hp, R, k⟩ := h
    have nd := sc_sure_least.nd
    refine ⟨_, (Evl.pss_cut (ps_setLc (i := 1) (own := [("name", 2)]) (g := gName 2) (tt := tYes) rfl nd rfl rfl (sw_true rfl rfl rfl (by decide +kernel)) (pi_list (pe_prop (pv 0) T.cl_Pool T.m_Pool_names G_pnames (hr.mono (by decide)) T.b_Pool_names .nil pass0 rfl)) (blkOk_by (N := ["pool", "items", "name", "item", "other"]) (sc := defScope s_sure_least) (by decide +kernel)) (fun _ _ _ _ _ => (pg_name (i := 2) nd rfl (by first | exact Or.inl rfl | exact Or.inr rfl))) (fun _ _ _ _ _ => pts_nil) (fun _ _ _ _ _ => (pe_meth (pv 0) T.cl_Pool T.m_Pool_item G_pitem (hr.mono (by decide)) T.b_Pool_item .nil pass0 (pa_cons (pv 2) pa_nil))))
  (pss_cons (ps_for PassesOwn.never rfl (pi_list (pv 1)) (pg_name (i := 3) nd rfl (by first | exact Or.inl rfl | exact Or.inr rfl))
    (pss_one (ps_if (pt_val (pe_callB (cr_all rfl) (by rfl) T.b_all (by decide +kernel) (pa_cons (pe_lc (own := [("other", 4)]) (g := gName 4) rfl nd (pi_list (pv 1)) (blkOk_by (N := ["pool", "items", "name", "item", "other"]) (sc := defScope s_sure_least) (by decide +kernel)) (fun _ _ _ _ _ => (pg_name (i := 4) nd rfl (by first | exact Or.inl rfl | exact Or.inr rfl))) (fun _ _ _ _ _ => (pts_one (pt_cmpR op_ne (pe_prop (pv 4) T.cl_Item T.m_Item_name G_name (hr.mono (by decide)) T.b_Item_name .nil pass0 rfl) (pe_prop (pv 3) T.cl_Item T.m_Item_name G_name (hr.mono (by decide)) T.b_Item_name .nil pass0 rfl) (nomark _)))) (fun _ _ _ _ _ => (pe_call Gis_settled_below (hr.mono (by first | decide | omega)) rfl T.g_is_settled_below T.F_is_settled_below.kp T.b_is_settled_below .nil pass0 (pa_cons (pv 3) (pa_cons (pv 4) pa_nil))))) pa_nil)))
    (pss_one (ps_ret (pe_prop (pv 3) T.cl_Item T.m_Item_name G_name (hr.mono (by decide)) T.b_Item_name .nil pass0 rfl)))
    pss_nil)))
  (pss_one (ps_ret pe_non)))), ?_⟩
    have hl := R.len
    refine ⟨fun σ' H' => ∃ D as, σ' = [some (.ref y), some (.ref D), none, none, none] ∧ Same H H' ∧ H' D = some (.lst (List.map V.ref as)) ∧ Items a.c_Item H' as ps, ?_, ?_⟩
    · obtain ⟨dy, d0, as0, hy, _⟩ := id hp
      refine ⟨_, rfl, y, dy, _, rfl, hy, y, ps, rfl, hp, fun q hq => ?_⟩
      have S1 := Same.new hq (o := .lst ((ps.map (·.nm)).map V.str))
      have eq : upd H q (.lst ((ps.map (·.nm)).map V.str)) q = some (.lst ((ps.map (·.nm)).map V.str)) := upd_same
      generalize upd H q (.lst ((ps.map (·.nm)).map V.str)) = H1 at S1 eq ⊢
      refine ⟨q, rfl, ⟨_, SqL.of eq⟩, fun D hD => ?_⟩
      refine lc_pure (walk_list (K := K) (a := q) (xs := (ps.map (·.nm)).map V.str)) ps (fun _ => true) (fun r v H' => ∃ x, v = .ref x ∧ ItemIs a.c_Item H' x r) (by rw [List.length_map, List.length_map]) hD (fun H' s => SqL.of (s _ _ eq)) (fun i H x H' e => ⟨by rw [e.1]; exact Same.refl _, fun o h => by rw [e.1]; exact h⟩) (by rw [List.length_map, List.length_map, sizeLine_eq]; omega) ?_ ?_ ?_
      · rintro r v Ha Hb ⟨x, rfl, ⟨dx, h⟩⟩ ⟨acc, eD⟩ b
        exact ⟨x, rfl, dx, b _ _ (fun c => by rw [c, eD] at h; cases h) h⟩
      · rintro N i x r H2 H2' er s2 - ⟨rfl, ex⟩ - s2' fin -
        rw [List.getElem?_map, List.getElem?_map, er] at ex
        obtain rfl : V.str r.nm = x := Option.some.inj ex
        have rm := List.mem_of_getElem? er
        refine ⟨rfl, ?_⟩
        dsimp only [tYes]
        rw [if_pos rfl]
        refine ⟨_, rfl, y, dy, _, rfl, s2 _ _ (S1 _ _ hy), by with_unfolding_all rfl, _, rfl, y, ps, r, rfl, (hp.same S1).same s2, R.asc.nodup, rm, R.nm r rm, fun z H3 s3 iz => ?_⟩
        exact fin rfl _ _ s3 ⟨z, rfl, iz⟩
      · intro ys H2 s2 eD pz
        rw [all_keep] at pz
        obtain ⟨us, rfl, pu⟩ := paired_refs (F := ItemIs a.c_Item H2) (g := fun r : Rw => r) pz
        rw [List.map_id'] at pu
        exact ⟨D, us, rfl, S1.trans s2, eD, pu⟩
    rintro σ1 H1 ⟨D, as, rfl, S1, eD, iD⟩
    have ll := paired_len iD
    refine ⟨_, rfl, D, rfl, ⟨_, SqL.of eD⟩, for_list (xs := as.map V.ref) (fun i σ' H' => ∃ v3 v4, σ' = [some (.ref y), some (.ref D), none, v3, v4] ∧ Same H1 H' ∧ (ps.take i).find? (sureP ps) = none) ⟨none, none, rfl, Same.refl _, rfl⟩ ?_ ?_ ?_⟩
    · rintro i σ' H' _ ⟨v3, v4, _, s, _⟩
      exact SqL.of (s _ _ eD)
    · rintro i x σ' H2 ex ⟨v3, v4, rfl, s2, fn⟩
      obtain ⟨o, r, rfl, er, ⟨dr, hr0⟩⟩ : ∃ o r, x = .ref o ∧ ps[i]? = some r ∧ ItemIs a.c_Item H1 o r := by
        rw [List.getElem?_map] at ex
        cases e : as[i]? with
        | none => rw [e] at ex; cases ex
        | some t =>
          rw [e] at ex
          obtain ⟨r, er, hr⟩ := LiI.paired_get iD e
          exact ⟨t, r, (Option.some.inj ex).symm, er, hr⟩
      obtain ⟨g1, g2⟩ := find_step fn er
      refine ⟨_, rfl, D, rfl, ⟨_, SqL.of (s2 _ _ eD)⟩, fun M hM => ?_⟩
      refine lc_pure (walk_list (K := K) (a := D) (xs := as.map V.ref)) (as.zip ps) (fun d => !decide (d.2.nm = r.nm)) (fun d v _ => v = .bl (belowB r.lo r.hi d.2.lo d.2.hi)) (by rw [List.length_map, List.length_zip]; omega) hM (fun H' s => SqL.of (s _ _ (s2 _ _ eD))) (fun i H x H' e => ⟨by rw [e.1]; exact Same.refl _, fun o h => by rw [e.1]; exact h⟩) (by rw [List.length_map, sizeLine_eq]; omega) (fun _ _ _ _ h _ _ => h) ?_ ?_
      · rintro N j x d H3 H3' ed s3 - ⟨rfl, ex⟩ eM s3' fin skip
        obtain ⟨e2, ⟨d1, hd1⟩, _⟩ := zip_at iD ed
        obtain rfl : V.ref d.1 = x := Option.some.inj (e2.symm.trans ex)
        have h3 := s3 _ _ (s2 _ _ hd1)
        have r3 := s3 _ _ (s2 _ _ hr0)
        refine ⟨rfl, ?_⟩
        refine ⟨_, rfl, d.1, d1, _, rfl, h3, d.1, _, _, _, _, rfl, ⟨d1, h3⟩, _, rfl, o, dr, _, rfl, r3, o, _, _, _, _, rfl, ⟨dr, r3⟩, rfl, _, rfl, ?_⟩
        by_cases c : d.2.nm = r.nm
        · rw [decide_eq_true (congrArg V.str c)]
          exact iteF (skip (by rw [decide_eq_true c]; rfl) _ (Same.refl _))
        · rw [decide_eq_false (fun e => c (V.str.inj e))]
          exact iteT ⟨_, rfl, _, rfl, o, r, d.1, d.2, rfl, ⟨dr, r3⟩, ⟨d1, h3⟩, fin (by rw [decide_eq_false c]; rfl) _ _ (Same.refl _) rfl⟩
      · intro ys H3 s3 eM pz
        have ez := paired_vals (fun d : Addr × Rw => V.bl (belowB r.lo r.hi d.2.lo d.2.hi)) (H := H3) pz
        have ev : ((as.zip ps).filter fun d => !decide (d.2.nm = r.nm)).map (fun d : Addr × Rw => V.bl (belowB r.lo r.hi d.2.lo d.2.hi)) = ((ps.filter fun q => !decide (q.nm = r.nm)).map fun q => belowB r.lo r.hi q.lo q.hi).map V.bl := by
          have z := congrArg (fun l : List Rw => ((l.filter fun q => !decide (q.nm = r.nm)).map fun q => belowB r.lo r.hi q.lo q.hi).map V.bl) (zip_snd iD)
          rw [List.filter_map, List.map_map, List.map_map] at z
          rw [← z]
          rfl
        rw [ev] at ez
        subst ez
        refine ⟨M, _, rfl, SqL.of eM, _, rfl, ?_⟩
        have eb : (((ps.filter fun q => !decide (q.nm = r.nm)).map fun q => belowB r.lo r.hi q.lo q.hi).all id) = sureP ps r := by
          unfold sureP
          rw [List.all_map]
          rfl
        rw [eb]
        cases c : sureP ps r with
        | true =>
          refine iteT ⟨_, rfl, o, dr, _, rfl, s3 _ _ (s2 _ _ hr0), o, _, _, _, _, rfl, ⟨dr, s3 _ _ (s2 _ _ hr0)⟩, ?_⟩
          have e : sureV ps = .str r.nm := by
            unfold sureV sureR
            rw [g1 c]
          have z := k H3 ((S1.trans s2).trans s3)
          rw [e] at z
          exact z
        | false => exact iteF ⟨_, _, rfl, s2.trans s3, g2 c⟩
    · rintro σ' H2 ⟨v3, v4, rfl, s2, fn⟩
      rw [List.length_map, ll, List.take_length] at fn
      have e : sureV ps = .non := by
        unfold sureV sureR
        rw [fn]
      have z := k H2 (S1.trans s2)
      rw [e] at z
      exact z
end
end Ask

set_option Elab.async false
set_option linter.all false
set_option maxRecDepth 100000
set_option maxHeartbeats 4000000
namespace Ask
open PySem L2 LamX
open PyProof.Rows
open PySem.W (dataLe)
/-! a set settles the least item exactly if it contains what some candidate asks -/
section
variable {rs : List Rw} {kn : List (Str × Int)} {S : List Str}
/-- what stands of a row behind the answers for the names S -/
inductive Told (rs : List Rw) (kn : List (Str × Int)) (S : List Str) (r : Rw) (q : Rw) : Prop where
  | ex (h : q.lo = valOf kn r) (h2 : q.hi = valOf kn r) (c : r.lo = r.hi ∨ r.nm ∈ S)
  | op (h : q = r) (c : r.lo ≠ r.hi) (n : r.nm ∉ S)
theorem told_at (hn : (rs.map (·.nm)).Nodup) (V4 : Vals4 rs kn) {r : Rw} (mr : r ∈ rs) : (tellR (pick kn S) r).nm = r.nm ∧ Told rs kn S r (tellR (pick kn S) r) := by
  refine ⟨tellR_nm _ _, ?_⟩
  have nk : (kn.map (·.1)).Nodup := V4.pm.nodup_iff.mpr (openN_nodupN hn)
  by_cases o : r.lo = r.hi
  · have e : kn.lookup r.nm = none := by
      cases e : kn.lookup r.nm with
      | none => rfl
      | some v =>
        have z := (List.mem_filter.mp (open_of_look hn V4.sub mr e)).2
        rw [decide_eq_true o] at z
        cases z
    have e2 : tellR (pick kn S) r = r := by
      unfold tellR
      rw [pick_look, e]
      split <;> rename_i h
      · split at h <;> cases h
      · rfl
    rw [e2]
    have ev : valOf kn r = r.lo := by
      unfold valOf
      rw [e]
      rfl
    exact .ex ev.symm (o.symm.trans ev.symm) (.inl o)
  · by_cases c : r.nm ∈ S
    · have m : r.nm ∈ openN rs := List.mem_map.mpr ⟨r, List.mem_filter.mpr ⟨mr, by simpa using o⟩, rfl⟩
      obtain ⟨v, hv, _⟩ := look_open V4 nk m
      have e2 : tellR (pick kn S) r = ⟨r.nm, v, v, 0⟩ := by
        unfold tellR
        rw [pick_look, if_pos c, hv]
      have ev : valOf kn r = v := by
        unfold valOf
        rw [hv]
        rfl
      rw [e2]
      exact .ex ev.symm ev.symm (.inr c)
    · have e2 : tellR (pick kn S) r = r := by
        unfold tellR
        rw [pick_look, if_neg c]
      rw [e2]
      exact .op rfl o c
theorem val_in (hn : (rs.map (·.nm)).Nodup) (V4 : Vals4 rs kn) (le : ∀ r ∈ rs, r.lo ≤ r.hi) {r : Rw} (mr : r ∈ rs) : r.lo ≤ valOf kn r ∧ valOf kn r ≤ r.hi := by
  unfold valOf
  cases e : kn.lookup r.nm with
  | none => exact ⟨Int.le_refl _, le r mr⟩
  | some v =>
    obtain ⟨q, hq, e1, e2, e3⟩ := V4.ok _ (look_mem e)
    obtain rfl := name_inj hn hq mr e1
    exact ⟨e2, e3⟩
theorem sure_iff {ps : List Rw} {r : Rw} : sureP ps r = true ↔ ∀ q ∈ ps, q.nm ≠ r.nm → belowB r.lo r.hi q.lo q.hi = true := by
  unfold sureP
  rw [List.all_eq_true]
  constructor
  · intro h q hq ne
    exact h q (List.mem_filter.mpr ⟨hq, by simpa using ne⟩)
  · intro h q hq
    obtain ⟨h1, h2⟩ := List.mem_filter.mp hq
    exact h q h1 (by simpa using h2)
theorem below_iff {lo hi lo' hi' : Int} : belowB lo hi lo' hi' = true ↔ (lo = hi ∧ lo' = hi' ∧ lo ≤ lo') ∨ (¬ (lo = hi ∧ lo' = hi') ∧ hi < lo') := by
  unfold belowB
  by_cases c : lo = hi ∧ lo' = hi'
  · rw [if_pos c, decide_eq_true_eq]
    constructor
    · intro h; exact .inl ⟨c.1, c.2, h⟩
    · rintro (h | h)
      · exact h.2.2
      · exact absurd c h.1
  · rw [if_neg c, decide_eq_true_eq]
    constructor
    · intro h; exact .inr ⟨c, h⟩
    · rintro (h | h)
      · exact absurd ⟨h.1, h.2.1⟩ c
      · exact h.2
theorem minP_iff {r : Rw} {v : Int} : minP rs kn r v = true ↔ ∀ q ∈ rs, q.nm ≠ r.nm → v ≤ valOf kn q := by
  unfold minP
  rw [List.all_eq_true]
  constructor
  · intro h q hq ne
    exact of_decide_eq_true (h q (List.mem_filter.mpr ⟨hq, by simpa using ne⟩))
  · intro h q hq
    obtain ⟨h1, h2⟩ := List.mem_filter.mp hq
    exact decide_eq_true (h q h1 (by simpa using h2))
theorem lessP_iff {r : Rw} : lessP rs kn r = true ↔ ∀ q ∈ rs, q.nm ≠ r.nm → r.hi < valOf kn q := by
  unfold lessP
  rw [List.all_eq_true]
  constructor
  · intro h q hq ne
    exact of_decide_eq_true (h q (List.mem_filter.mpr ⟨hq, by simpa using ne⟩))
  · intro h q hq
    obtain ⟨h1, h2⟩ := List.mem_filter.mp hq
    exact decide_eq_true (h q h1 (by simpa using h2))
theorem reach_mem {r q : Rw} {v : Int} : q ∈ reachR rs r v ↔ q ∈ rs ∧ q.nm ≠ r.nm ∧ q.lo ≠ q.hi ∧ q.lo ≤ v := by
  unfold reachR downP
  rw [List.mem_filter, List.mem_mergeSort, Bool.and_eq_true, Bool.and_eq_true, Bool.not_eq_true', Bool.not_eq_true', decide_eq_false_iff_not, decide_eq_false_iff_not, decide_eq_true_eq]
  exact ⟨fun ⟨a, ⟨b, c⟩, d⟩ => ⟨a, b, c, d⟩, fun ⟨a, b, c, d⟩ => ⟨a, ⟨b, c⟩, d⟩⟩
theorem askA_mem {r q : Rw} {v : Int} : q ∈ askA rs r v ↔ (q = r ∧ r.lo ≠ r.hi) ∨ q ∈ reachR rs r v := by
  unfold askA
  rw [List.mem_append]
  by_cases c : r.lo = r.hi
  · rw [if_pos c]
    simp [c]
  · rw [if_neg c]
    simp [c]
def setB (rs : List Rw) (kn : List (Str × Int)) (S : List Str) : Bool := (rs.map (tellR (pick kn S))).any (sureP (rs.map (tellR (pick kn S))))
/-- a candidate whose asked items are told is surely the least one -/
theorem cand_sure (hn : (rs.map (·.nm)).Nodup) (V4 : Vals4 rs kn) (le : ∀ r ∈ rs, r.lo ≤ r.hi) {r : Rw} (mr : r ∈ rs) {g : List Rw} (hg : g ∈ dueG rs kn r) (sub : ∀ q ∈ g, q.nm ∈ S) : sureP (rs.map (tellR (pick kn S))) (tellR (pick kn S) r) = true := by
  refine sure_iff.mpr fun q' hq' ne' => ?_
  obtain ⟨q, mq, rfl⟩ := List.mem_map.mp hq'
  rw [tellR_nm, tellR_nm] at ne'
  obtain ⟨_, tr⟩ := told_at (S := S) hn V4 mr
  obtain ⟨_, tq⟩ := told_at (S := S) hn V4 mq
  have vr := val_in hn V4 le mr
  have vq := val_in hn V4 le mq
  rw [below_iff]
  unfold dueG at hg
  rcases List.mem_append.mp hg with hg | hg
  · by_cases c : minP rs kn r (valOf kn r) = true
    · rw [if_pos c] at hg
      rw [List.mem_singleton.mp hg] at sub
      have z := minP_iff.mp c q mq ne'
      rcases tr with ⟨h1, h2, _⟩ | ⟨_, o, n⟩
      · rw [h1, h2]
        rcases tq with ⟨k1, k2, _⟩ | ⟨k, o2, n2⟩
        · rw [k1, k2]
          omega
        · rw [k]
          have l : ¬ q.lo ≤ valOf kn r := fun l => n2 (sub q (askA_mem.mpr (.inr (reach_mem.mpr ⟨mq, ne', o2, l⟩))))
          omega
      · exact absurd (sub r (askA_mem.mpr (.inl ⟨rfl, o⟩))) n
    · rw [if_neg c] at hg
      cases hg
  · by_cases c : (!decide (r.lo = r.hi) && lessP rs kn r) = true
    · rw [if_pos c] at hg
      rw [List.mem_singleton.mp hg] at sub
      rw [Bool.and_eq_true, Bool.not_eq_true', decide_eq_false_iff_not, lessP_iff] at c
      have z := c.2 q mq ne'
      rcases tr with ⟨h1, h2, _⟩ | ⟨h, o, n⟩
      · rw [h1, h2]
        rcases tq with ⟨k1, k2, _⟩ | ⟨k, o2, n2⟩
        · rw [k1, k2]
          omega
        · rw [k]
          have l : ¬ q.lo ≤ r.hi := fun l => n2 (sub q (reach_mem.mpr ⟨mq, ne', o2, l⟩))
          omega
      · rw [h]
        rcases tq with ⟨k1, k2, _⟩ | ⟨k, o2, n2⟩
        · rw [k1, k2]
          omega
        · rw [k]
          have l : ¬ q.lo ≤ r.hi := fun l => n2 (sub q (reach_mem.mpr ⟨mq, ne', o2, l⟩))
          omega
    · rw [if_neg c] at hg
      cases hg
theorem set_iff (hn : (rs.map (·.nm)).Nodup) (V4 : Vals4 rs kn) (le : ∀ r ∈ rs, r.lo ≤ r.hi) : setB rs kn S = true ↔ ∃ r ∈ rs, ∃ g ∈ dueG rs kn r, ∀ q ∈ g, q.nm ∈ S := by
  unfold setB
  rw [List.any_eq_true]
  constructor
  · rintro ⟨r', hr', hs⟩
    obtain ⟨r, mr, rfl⟩ := List.mem_map.mp hr'
    rw [sure_iff] at hs
    obtain ⟨en, tr⟩ := told_at (S := S) hn V4 mr
    have bel : ∀ q ∈ rs, q.nm ≠ r.nm → belowB (tellR (pick kn S) r).lo (tellR (pick kn S) r).hi (tellR (pick kn S) q).lo (tellR (pick kn S) q).hi = true := fun q hq ne => by
      have z := hs _ (List.mem_map.mpr ⟨q, hq, rfl⟩)
      rw [en, tellR_nm] at z
      exact z ne
    refine ⟨r, mr, ?_⟩
    rcases tr with ⟨h1, h2, c⟩ | ⟨h, c, n⟩
    · refine ⟨askA rs r (valOf kn r), ?_, fun q hq => ?_⟩
      · unfold dueG
        refine List.mem_append_left _ ?_
        rw [if_pos]
        · exact List.mem_singleton.mpr rfl
        · rw [minP_iff]
          intro q hq ne
          have z := below_iff.mp (bel q hq ne)
          rw [h1, h2] at z
          obtain ⟨_, tq⟩ := told_at (S := S) hn V4 hq
          have vq := val_in hn V4 le hq
          rcases tq with ⟨k1, k2, _⟩ | ⟨k, _, _⟩
          · rw [k1, k2] at z
            omega
          · rw [k] at z
            omega
      · rcases askA_mem.mp hq with ⟨rfl, o⟩ | hq
        · exact c.resolve_left o
        · obtain ⟨m, ne, o, l⟩ := reach_mem.mp hq
          obtain ⟨_, tq⟩ := told_at (S := S) hn V4 m
          rcases tq with ⟨_, _, c2⟩ | ⟨k, _, _⟩
          · exact c2.resolve_left o
          · have z := below_iff.mp (bel q m ne)
            rw [h1, h2, k] at z
            omega
    · refine ⟨reachR rs r r.hi, ?_, fun q hq => ?_⟩
      · unfold dueG
        refine List.mem_append_right _ ?_
        rw [if_pos]
        · exact List.mem_singleton.mpr rfl
        · rw [Bool.and_eq_true, Bool.not_eq_true', decide_eq_false_iff_not, lessP_iff]
          refine ⟨c, fun q hq ne => ?_⟩
          have z := below_iff.mp (bel q hq ne)
          rw [h] at z
          obtain ⟨_, tq⟩ := told_at (S := S) hn V4 hq
          have vq := val_in hn V4 le hq
          rcases tq with ⟨k1, k2, _⟩ | ⟨k, _, _⟩
          · rw [k1, k2] at z
            omega
          · rw [k] at z
            omega
      · obtain ⟨m, ne, o, l⟩ := reach_mem.mp hq
        obtain ⟨_, tq⟩ := told_at (S := S) hn V4 m
        rcases tq with ⟨_, _, c2⟩ | ⟨k, _, _⟩
        · exact c2.resolve_left o
        · have z := below_iff.mp (bel q m ne)
          rw [h, k] at z
          omega
  · rintro ⟨r, mr, g, hg, sub⟩
    exact ⟨tellR (pick kn S) r, List.mem_map.mpr ⟨r, mr, rfl⟩, cand_sure hn V4 le mr hg sub⟩
theorem set_mono (hn : (rs.map (·.nm)).Nodup) (V4 : Vals4 rs kn) (le : ∀ r ∈ rs, r.lo ≤ r.hi) {S' : List Str} (h : setB rs kn S = true) (sub : ∀ x ∈ S, x ∈ S') : setB rs kn S' = true := by
  obtain ⟨r, mr, g, hg, z⟩ := (set_iff hn V4 le).mp h
  exact (set_iff hn V4 le).mpr ⟨r, mr, g, hg, fun q hq => sub _ (z q hq)⟩
/-- the first of the sorted candidates has the least price -/
theorem srt_head {cs : List Ca} {d : Ca} {cr : List Ca} (h : srtC cs = d :: cr) : d ∈ cs ∧ ∀ c ∈ cs, d.1 ≤ c.1 := by
  refine ⟨srtC_mem.mp (by rw [h]; exact List.mem_cons_self), fun c hc => ?_⟩
  have m := srtC_mem.mpr hc
  have pw := srtC_pw cs
  rw [h] at m pw
  rcases List.mem_cons.mp m with rfl | m
  · exact Int.le_refl _
  · have z := (List.pairwise_cons.mp pw).1 c m
    unfold dataLe PySem.W.sortLe at z
    simp only [cond_false, Bool.not_eq_true'] at z
    have z : lexLt itemOrd (PySem.W.keyToks (caD c)) (PySem.W.keyToks (caD d)) = false := z
    have e : ∀ x : Ca, ∃ t, PySem.W.keyToks (caD x) = .inl 1 :: .inl x.1 :: t := fun x => ⟨PySem.W.keyToksAll [.str x.2.1, .list (x.2.2.map PyData.str)], by
      unfold caD
      simp [PySem.W.keyToks, PySem.W.keyToksAll]⟩
    obtain ⟨t, ht⟩ := e c
    obtain ⟨u, hu⟩ := e d
    rw [ht, hu] at z
    have y : (decide ((1 : Int) < 1) || (!decide ((1 : Int) < 1) && (decide (c.1 < d.1) || (!decide (d.1 < c.1) && lexLt itemOrd t u)))) = false := z
    rw [show decide ((1 : Int) < 1) = false from rfl, Bool.false_or, Bool.not_false, Bool.true_and, Bool.or_eq_false_iff, decide_eq_false_iff_not] at y
    omega
end
end Ask

set_option Elab.async false
set_option linter.all false
set_option maxRecDepth 100000
set_option maxHeartbeats 4000000
set_option pp.deepTerms false
set_option pp.deepTerms.threshold 14
namespace Ask
open PySem L2
open PyProof.Rows
section
variable {P : Program} {w : World} {K : PySem.W.Frag} {mg : Str → Option Value} {base : Heap} {a : Ad}
/-- values told so far -/
structure TrSt (H : Hp) (l p D : Addr) (kn : List (Str × Int)) (H' : Hp) (m : Nat) : Prop where
  eD : H' D = some (.dK (kents kn))
  but : But p H H'
  pen : PenL l H' p m
  hD : H D = none
  dp : D ≠ p ∧ D ≠ l
theorem TrSt.next {H : Hp} {l p D : Addr} {kn : List (Str × Int)} {H' H'' : Hp} {m m' : Nat} (h : TrSt H l p D kn H' m) (b : But p H' H'') (hp : PenL l H'' p m') : TrSt H l p D kn H'' m' :=
  ⟨b _ _ h.dp.1 h.eD, h.but.trans b, hp, h.hD, h.dp⟩
theorem TrSt.new {H : Hp} {l p D : Addr} {kn : List (Str × Int)} {H' : Hp} {m : Nat} (h : TrSt H l p D kn H' m) {q : Addr} {o : HO} (e : H' q = none) : TrSt H l p D kn (upd H' q o) m :=
  h.next (But.new e) (h.pen.put (h.pen.ne e))
theorem TrSt.free {H : Hp} {l p D : Addr} {kn : List (Str × Int)} {H' : Hp} {m : Nat} (h : TrSt H l p D kn H' m) {t : Addr} (e : H' t = none) : H t = none := h.but.free h.pen.pen e
theorem TrSt.nD {H : Hp} {l p D : Addr} {kn : List (Str × Int)} {H' : Hp} {m : Nat} (h : TrSt H l p D kn H' m) {t : Addr} (e : H' t = none) : D ≠ t := fun c => by
  rw [← c, h.eD] at e
  cases e
/-- a list of its own that grows -/
theorem TrSt.put {H : Hp} {l p D : Addr} {kn : List (Str × Int)} {H' : Hp} {m : Nat} (h : TrSt H l p D kn H' m) {q : Addr} {o : HO} (nq : q ≠ p ∧ q ≠ l) (hq : H q = none) (dq : D ≠ q) : TrSt H l p D kn (upd H' q o) m :=
  ⟨by rw [upd_ne dq]; exact h.eD, h.but.of hq, h.pen.put nq, h.hD, h.dp⟩
theorem paired_into {α β γ : Type} {F : α → β → Prop} {G : α → γ → Prop} (f : β → γ) (h : ∀ x y, F x y → G x (f y)) : ∀ {xs : List α} {ys : List β}, Paired F xs ys → Paired G xs (ys.map f)
  | _, _, .nil => .nil
  | _, _, .cons z t => .cons (h _ _ z) (paired_into f h t)
def spLTruth : Sp := fun vs H Q _ => ∃ (l p L : Addr) (n : Nat) (ts : List Addr) (rs : List Rw), vs = [.ref p, .ref L] ∧ PenL l H p n ∧ n ≤ 900000 ∧ H L = some (.lst (List.map V.ref ts)) ∧ Paired (RowAt H) ts rs ∧ (rs.map (·.nm)).Nodup ∧ (∀ r ∈ rs, RowOk r) ∧ rs.length ≤ 40 ∧
  ∀ v kn H', H v = none → But p H H' → PenL l H' p (n + 3700) → H' v = some (.dK (kents kn)) → Vals4 rs kn → Q (.ref v) H'
theorem ok_ltruth (T : Txt K mg a) : FnOk P w K mg base CX0 3 a.f__law_truth a.d__law_truth ["pen", "rows"] spLTruth := by
  have G_law_draw : FnOk P w K mg base CX0 2 a.f__law_draw a.d__law_draw ["pen", "below"] spDrawP := ok_drawP T
  refine T.F__law_truth.ok sc__law_truth (fun vs H Q E h => ?_) (fun cdv A outer s H vs Q E hr h => ?_)
  · obtain ⟨l, p, L, n, ts, rs, rfl, _⟩ := h
    rfl
  · obtain ⟨l, p, L, n, ts, rs, rfl, hp, hn, hL, pr, ndr, rok, n12, k⟩ := h
    have nd := sc__law_truth.nd
    refine ⟨_, (Evl.pss_cut (ps_set (i := 2) nd rfl (by first | exact Or.inl rfl | exact Or.inr rfl) pe_dnewK)
  (Evl.pss_cut (ps_for PassesOwn.never rfl (pi_list (pv 1)) (pg_tup (by rfl) (pgs_cons (pg_name (i := 3) nd rfl (by first | exact Or.inl rfl | exact Or.inr rfl)) (pgs_cons (pg_name (i := 4) nd rfl (by first | exact Or.inl rfl | exact Or.inr rfl)) (pgs_cons (pg_name (i := 5) nd rfl (by first | exact Or.inl rfl | exact Or.inr rfl)) (pgs_cons (pg_name (i := 6) nd rfl (by first | exact Or.inl rfl | exact Or.inr rfl)) pgs_nil)))))
    (pss_one (ps_if (pt_cmpR op_lt (pv 4) (pv 5) (nomark _))
    (Evl.pss_cut (ps_set (i := 7) nd rfl (by first | exact Or.inl rfl | exact Or.inr rfl) (pe_op op_cat (pe_lc (own := [("other", 8)]) (g := gName 8) (tt := tYes) rfl nd (pi_list (pv 1)) (blkOk_by (N := ["pen", "rows", "found", "nym", "low", "top", "cost", "ends", "other", "some", "end", "good", "spot", "turned"]) (sc := defScope s__law_truth) (by decide +kernel)) (fun _ _ _ _ _ => (pg_name (i := 8) nd rfl (by first | exact Or.inl rfl | exact Or.inr rfl))) (fun _ _ _ _ _ => pts_nil) (fun _ _ _ _ _ => (pe_ix (ix_tupK (K := K) rfl) (pv 8) (pe_op op_add pe_int (pe_call G_law_draw (hr.mono (by first | decide | omega)) rfl T.g__law_draw T.F__law_draw.kp T.b__law_draw .nil pass0 (pa_cons (pv 0) (pa_cons pe_int pa_nil)))) (fun _ _ => rfl)))) (pe_lst (pa_cons (pv 4) (pa_cons (pv 5) pa_nil)))))
  (Evl.pss_cut (ps_setLc (i := 9) (own := [("end", 10)]) (g := gName 10) (tt := tYes) rfl nd rfl rfl (sw_true rfl rfl rfl (by decide +kernel)) (pi_list (pv 7)) (blkOk_by (N := ["pen", "rows", "found", "nym", "low", "top", "cost", "ends", "other", "some", "end", "good", "spot", "turned"]) (sc := defScope s__law_truth) (by decide +kernel)) (fun _ _ _ _ _ => (pg_name (i := 10) nd rfl (by first | exact Or.inl rfl | exact Or.inr rfl))) (fun _ _ _ _ _ => pts_nil) (fun _ _ _ _ _ => (pe_op op_sub (pe_op op_add (pv 10) (pe_call G_law_draw (hr.mono (by first | decide | omega)) rfl T.g__law_draw T.F__law_draw.kp T.b__law_draw .nil pass0 (pa_cons (pv 0) (pa_cons pe_int pa_nil)))) pe_int)))
  (Evl.pss_cut (ps_setLc (i := 11) (own := [("spot", 12)]) (g := gName 12) rfl nd rfl rfl (sw_true rfl rfl rfl (by decide +kernel)) (pi_list (pv 9)) (blkOk_by (N := ["pen", "rows", "found", "nym", "low", "top", "cost", "ends", "other", "some", "end", "good", "spot", "turned"]) (sc := defScope s__law_truth) (by decide +kernel)) (fun _ _ _ _ _ => (pg_name (i := 12) nd rfl (by first | exact Or.inl rfl | exact Or.inr rfl))) (fun _ _ _ _ _ => (pts_one (pt_chain op_le op_le (pv 4) (pv 12) (pv 5)))) (fun _ _ _ _ _ => (pv 12)))
  (pss_one (ps_dput (hu_of hr) (pv 2) (pv 3) (pe_ix ix_list (pe_op op_cat (pv 11) (pe_lst (pa_cons (pe_op op_add (pv 4) (pe_call G_law_draw (hr.mono (by first | decide | omega)) rfl T.g__law_draw T.F__law_draw.kp T.b__law_draw .nil pass0 (pa_cons (pv 0) (pa_cons (pe_op op_add (pe_op op_sub (pv 5) (pv 4)) pe_int) pa_nil)))) pa_nil))) (pe_call G_law_draw (hr.mono (by first | decide | omega)) rfl T.g__law_draw T.F__law_draw.kp T.b__law_draw .nil pass0 (pa_cons (pv 0) (pa_cons (pe_op op_add (pe_callB call_len_seq (by rfl) T.b_len PySem.boot_len (pa_cons (pv 11) pa_nil)) pe_int) pa_nil))) (fun _ _ => rfl)) rfl)))))
    pss_nil)))
  (Evl.pss_cut (ps_set (i := 13) nd rfl (by first | exact Or.inl rfl | exact Or.inr rfl) (pe_slice3 (pe_callB (call_sortedD rfl) (by rfl) T.b_sorted (by decide +kernel) (pa_cons (pv 2) pa_nil)) po_none po_none (po_some (pe_ix ix_list (pe_lst (pa_cons pe_int (pa_cons (pe_un un_neg pe_int) pa_nil))) (pe_call G_law_draw (hr.mono (by first | decide | omega)) rfl T.g__law_draw T.F__law_draw.kp T.b__law_draw .nil pass0 (pa_cons (pv 0) (pa_cons pe_int pa_nil))) (fun _ _ => rfl)))))
  (pss_one (ps_ret (pe_callTy (call_dictP rfl) (by rfl) T.b_dict (by decide +kernel) (pa_cons (pe_lc (own := [("nym", 3)]) (g := gName 3) (tt := tYes) rfl nd (pi_list (pv 13)) (blkOk_by (N := ["pen", "rows", "found", "nym", "low", "top", "cost", "ends", "other", "some", "end", "good", "spot", "turned"]) (sc := defScope s__law_truth) (by decide +kernel)) (fun _ _ _ _ _ => (pg_name (i := 3) nd rfl (by first | exact Or.inl rfl | exact Or.inr rfl))) (fun _ _ _ _ _ => pts_nil) (fun _ _ _ _ _ => (pe_tup (pa_cons (pv 3) (pa_cons (pe_dget (hu_of hr) (pv 2) (pv 3) (fun _ _ => rfl)) pa_nil))))) pa_nil))))))), ?_⟩
    have hLp : L ≠ p := hp.pen.ne hL refs_not
    have rp : ∀ {t r}, RowAt H t r → t ≠ p := fun z => hp.pen.ne z fun _ _ _ e => by cases e
    have tl : ts.length = rs.length := paired_len pr
    refine ⟨fun σ' H' => ∃ D, σ' = [some (.ref p), some (.ref L), some (.ref D), none, none, none, none, none, none, none, none, none, none, none] ∧ TrSt H l p D [] H' n, ?_, ?_⟩
    · exact fun D hD => ⟨D, rfl, upd_same, But.new hD, hp.put (hp.ne hD), hD, hp.ne hD⟩
    rintro σ1 H1 ⟨D, rfl, st1⟩
    refine ⟨fun σ' H' => ∃ kn v3 v4 v5 v6 v7 v8 v9 v10 v11 v12 v13, σ' = [some (.ref p), some (.ref L), some (.ref D), v3, v4, v5, v6, v7, v8, v9, v10, v11, v12, v13] ∧ TrSt H l p D kn H' (n + 3600) ∧ kn.map (·.1) = openN rs ∧ ∀ q ∈ kn, ∃ r ∈ rs, r.nm = q.1 ∧ r.lo ≤ q.2 ∧ q.2 ≤ r.hi, ?_, ?_⟩
    · refine ⟨_, rfl, L, rfl, ⟨_, SqL.of (st1.but _ _ hLp hL)⟩, for_list (xs := ts.map V.ref) (fun i σ' H' => ∃ kn v3 v4 v5 v6 v7 v8 v9 v10 v11 v12 v13, σ' = [some (.ref p), some (.ref L), some (.ref D), v3, v4, v5, v6, v7, v8, v9, v10, v11, v12, v13] ∧ TrSt H l p D kn H' (n + 90 * i) ∧
        kn.map (·.1) = openN (rs.take i) ∧ ∀ q ∈ kn, ∃ r ∈ rs, r.nm = q.1 ∧ r.lo ≤ q.2 ∧ q.2 ≤ r.hi) ?_ ?_ ?_ ?_⟩
      · exact ⟨[], none, none, none, none, none, none, none, none, none, none, none, rfl, st1, rfl, fun _ z => (nomatch z)⟩
      · rintro i σ' H' hi ⟨kn, v3, v4, v5, v6, v7, v8, v9, v10, v11, v12, v13, rfl, st, _⟩
        exact SqL.of (st.but _ _ hLp hL)
      · rintro i x σ' H2 hx ⟨kn, v3, v4, v5, v6, v7, v8, v9, v10, v11, v12, v13, rfl, st, ek, mk⟩
        rw [List.getElem?_map] at hx
        cases eu : ts[i]? with
        | none => rw [eu] at hx; cases hx
        | some t =>
        rw [eu] at hx
        have ex : V.ref t = x := Option.some.inj hx
        subst ex
        obtain ⟨r, er, hr0⟩ := paired_get pr eu
        have rm : r ∈ rs := List.mem_of_getElem? er
        have R := rok r rm
        have il : i < rs.length := (List.getElem?_eq_some_iff.mp er).1
        refine ⟨t, _, rfl, SqT.of (st.but _ _ (rp hr0) hr0), rfl, ?_⟩
        refine ⟨_, _, rfl, _, _, rfl, _, _, rfl, _, _, rfl, rfl, ?_⟩
        refine ⟨_, rfl, _, rfl, _, _, rfl, rfl, _, rfl, ?_⟩
        dsimp only
        have tk : openN (rs.take (i + 1)) = openN (rs.take i) ++ (if r.lo < r.hi then [r.nm] else []) := by
          unfold openN opens
          rw [take_snoc er, List.filter_append, List.map_append]
          congr 1
          by_cases e : r.lo < r.hi
          · rw [if_pos e, List.filter_cons, if_pos (by simp; omega)]
            rfl
          · rw [if_neg e, List.filter_cons, if_neg (by have z := R.le; simp; omega)]
            rfl
        by_cases e : r.lo < r.hi
        · rw [if_pos (by simpa using e)]
          rw [if_pos e] at tk
          have il2 : i < 40 := by omega
          -- ends
          refine ⟨fun σ' H' => ∃ B xs v8, σ' = [some (.ref p), some (.ref L), some (.ref D), some (.str r.nm), some (.int r.lo), some (.int r.hi), some (.int r.pr), some (.ref B), v8, v9, v10, v11, v12, v13] ∧ H' B = some (.lst (List.map V.int xs)) ∧ xs.length ≤ 42 ∧ B ≠ p ∧ TrSt H l p D kn H' (n + 90 * i + 40), ?_, ?_⟩
          · refine ⟨_, rfl, L, rfl, ⟨_, SqL.of (st.but _ _ hLp hL)⟩, fun B0 hB0 => ?_⟩
            have hB0' := st.free hB0
            have nB0 := st.pen.ne hB0
            have dB0 := st.nD hB0
            refine lc_list (xs := ts.map V.ref) (fun j H' => ∃ xs : List Int, xs.length = j ∧ H' B0 = some (.lst (xs.map V.int)) ∧ TrSt H l p D kn H' (n + 90 * i + j)) ?_ ?_ ?_ ?_
            · exact ⟨[], rfl, upd_same, st.new hB0⟩
            · rintro j H' hj ⟨xs, _, _, s3⟩
              exact SqL.of (s3.but _ _ hLp hL)
            · rintro j x H3 hx3 ⟨xs, xl, eB, s3⟩
              rw [List.getElem?_map] at hx3
              cases eu3 : ts[j]? with
              | none => rw [eu3] at hx3; cases hx3
              | some t3 =>
              rw [eu3] at hx3
              have ex3 : V.ref t3 = x := Option.some.inj hx3
              subst ex3
              obtain ⟨r3, er3, hr3⟩ := paired_get pr eu3
              have jl : j < rs.length := (List.getElem?_eq_some_iff.mp er3).1
              refine ⟨rfl, ?_⟩
              dsimp only [tYes]
              rw [if_pos rfl]
              refine ⟨_, rfl, _, rfl, l, p, _, 2, rfl, s3.pen, by omega, by decide, by decide, fun u H4 u0 u1 b4 hp4 => ?_⟩
              have s4 := s3.next b4 hp4
              refine ⟨_, _, rfl, rfl, ?_⟩
              have at4 := SqT.of (K := K) (s4.but _ _ (rp hr3) hr3)
              have e4 := b4 _ _ nB0.1 eB
              have tail : ∀ z : Int, ∃ acc, H4 B0 = some (.lst acc) ∧ acc.length < sizeLine ∧ ∃ xs : List Int, xs.length = j + 1 ∧ upd H4 B0 (.lst (acc ++ [.int z])) B0 = some (.lst (xs.map V.int)) ∧ TrSt H l p D kn (upd H4 B0 (.lst (acc ++ [.int z]))) (n + 90 * i + (j + 1)) := fun z =>
                ⟨_, e4, by rw [List.length_map, xl, sizeLine_eq]; omega, xs ++ [z], by rw [List.length_append, xl]; rfl, by rw [upd_same, List.map_append]; rfl, s4.put nB0 hB0' dB0⟩
              rcases (show u = 0 ∨ u = 1 by omega) with rfl | rfl
              · exact ⟨t3, _, _, .int r3.lo, rfl, rfl, at4, rfl, tail _⟩
              · exact ⟨t3, _, _, .int r3.hi, rfl, rfl, at4, rfl, tail _⟩
            · rintro H3 ⟨xs, xl, eB, s3⟩
              rw [List.length_map, tl] at xl s3
              refine ⟨_, rfl, _, rfl, by show 2 ≤ sizeLine; decide, fun B1 hB1 => ?_⟩
              have B01 : B0 ≠ B1 := fun c => by rw [← c, eB] at hB1; cases hB1
              refine ⟨B0, B1, _, _, rfl, rfl, by rw [upd_ne B01]; exact eB, upd_same, by rw [List.length_map]; show xs.length + 2 ≤ sizeLine; rw [sizeLine_eq]; omega, fun B hB => ?_⟩
              have s4 := s3.new (o := .lst [.int r.lo, .int r.hi]) hB1
              have nB := s4.pen.ne hB
              exact ⟨B, xs ++ [r.lo, r.hi], _, rfl, by rw [upd_same, List.map_append]; rfl, by rw [List.length_append]; show xs.length + 2 ≤ 42; omega, nB.1, (s4.new hB).next (But.refl _ _) ((s4.new hB).pen.mono (by omega))⟩
          rintro σ3 H3 ⟨B, xs, w8, rfl, eB, xl, nB, s3⟩
          -- some
          refine ⟨fun σ' H' => ∃ C ys, σ' = [some (.ref p), some (.ref L), some (.ref D), some (.str r.nm), some (.int r.lo), some (.int r.hi), some (.int r.pr), some (.ref B), w8, some (.ref C), v10, v11, v12, v13] ∧ H' C = some (.lst (List.map V.int ys)) ∧ ys.length ≤ 42 ∧ C ≠ p ∧ TrSt H l p D kn H' (n + 90 * i + 82), ?_, ?_⟩
          · refine ⟨_, rfl, B, rfl, ⟨_, SqL.of eB⟩, fun B0 hB0 => ?_⟩
            have hB0' := s3.free hB0
            have nB0 := s3.pen.ne hB0
            have dB0 := s3.nD hB0
            have BB0 : B ≠ B0 := fun c => by rw [← c, eB] at hB0; cases hB0
            refine lc_list (xs := xs.map V.int) (fun j H' => ∃ ys : List Int, ys.length = j ∧ H' B = some (.lst (List.map V.int xs)) ∧ H' B0 = some (.lst (ys.map V.int)) ∧ TrSt H l p D kn H' (n + 90 * i + 40 + j)) ?_ ?_ ?_ ?_
            · exact ⟨[], rfl, by rw [upd_ne BB0]; exact eB, upd_same, s3.new hB0⟩
            · rintro j H' hj ⟨ys, _, e, _, _⟩
              exact SqL.of e
            · rintro j x H4 hx4 ⟨ys, yl, eB4, eC, s4⟩
              rw [List.getElem?_map] at hx4
              cases eu4 : xs[j]? with
              | none => rw [eu4] at hx4; cases hx4
              | some z4 =>
              rw [eu4] at hx4
              have ex4 : V.int z4 = x := Option.some.inj hx4
              subst ex4
              have jl : j < xs.length := (List.getElem?_eq_some_iff.mp eu4).1
              refine ⟨rfl, ?_⟩
              dsimp only [tYes]
              rw [if_pos rfl]
              refine ⟨_, rfl, _, rfl, l, p, _, 3, rfl, s4.pen, by omega, by decide, by decide, fun u H5 u0 u1 b5 hp5 => ?_⟩
              have s5 := s4.next b5 hp5
              exact ⟨_, _, rfl, rfl, _, _, rfl, rfl, _, b5 _ _ nB0.1 eC, by rw [List.length_map, yl, sizeLine_eq]; omega, ys ++ [_], by rw [List.length_append, yl]; rfl, by rw [upd_ne BB0]; exact b5 _ _ nB eB4, by rw [upd_same, List.map_append]; rfl, s5.put nB0 hB0' dB0⟩
            · rintro H4 ⟨ys, yl, _, eC, s4⟩
              rw [List.length_map] at yl s4
              exact ⟨B0, ys, rfl, eC, by omega, nB0.1, s4.next (But.refl _ _) (s4.pen.mono (by omega))⟩
          rintro σ4 H4 ⟨C, ys, rfl, eC, yl, nC, s4⟩
          -- good
          refine ⟨fun σ' H' => ∃ G gs, σ' = [some (.ref p), some (.ref L), some (.ref D), some (.str r.nm), some (.int r.lo), some (.int r.hi), some (.int r.pr), some (.ref B), w8, some (.ref C), v10, some (.ref G), v12, v13] ∧ H' G = some (.lst (List.map V.int gs)) ∧ gs.length ≤ 42 ∧ (∀ z ∈ gs, r.lo ≤ z ∧ z ≤ r.hi) ∧ G ≠ p ∧ TrSt H l p D kn H' (n + 90 * i + 82), ?_, ?_⟩
          · refine ⟨_, rfl, C, rfl, ⟨_, SqL.of eC⟩, fun B0 hB0 => ?_⟩
            have hB0' := s4.free hB0
            have nB0 := s4.pen.ne hB0
            have dB0 := s4.nD hB0
            have BB0 : C ≠ B0 := fun c => by rw [← c, eC] at hB0; cases hB0
            refine lc_list (xs := ys.map V.int) (fun j H' => ∃ gs : List Int, gs.length ≤ j ∧ (∀ z ∈ gs, r.lo ≤ z ∧ z ≤ r.hi) ∧ H' C = some (.lst (List.map V.int ys)) ∧ H' B0 = some (.lst (gs.map V.int)) ∧ TrSt H l p D kn H' (n + 90 * i + 82)) ?_ ?_ ?_ ?_
            · exact ⟨[], Nat.le_refl _, fun _ z => (nomatch z), by rw [upd_ne BB0]; exact eC, upd_same, s4.new hB0⟩
            · rintro j H' hj ⟨gs, _, _, e, _, _⟩
              exact SqL.of e
            · rintro j x H5 hx5 ⟨gs, gl, gok, eC5, eG, s5⟩
              rw [List.getElem?_map] at hx5
              cases eu5 : ys[j]? with
              | none => rw [eu5] at hx5; cases hx5
              | some z5 =>
              rw [eu5] at hx5
              have ex5 : V.int z5 = x := Option.some.inj hx5
              subst ex5
              have jl : j < ys.length := (List.getElem?_eq_some_iff.mp eu5).1
              refine ⟨rfl, _, rfl, _, rfl, _, _, rfl, rfl, _, rfl, ?_⟩
              by_cases c1 : r.lo ≤ z5
              · rw [if_pos (by simpa using c1)]
                refine ⟨_, rfl, _, _, rfl, rfl, _, rfl, ?_⟩
                dsimp only
                by_cases c2 : z5 ≤ r.hi
                · rw [if_pos (by simpa using c2)]
                  refine ⟨_, rfl, _, eG, by rw [List.length_map, sizeLine_eq]; omega, gs ++ [z5], by rw [List.length_append]; show gs.length + 1 ≤ j + 1; omega, ?_, by rw [upd_ne BB0]; exact eC5, by rw [upd_same, List.map_append]; rfl, s5.put nB0 hB0' dB0⟩
                  intro z hz
                  rcases List.mem_append.mp hz with hz | hz
                  · exact gok z hz
                  · rw [List.mem_singleton.mp hz]
                    exact ⟨c1, c2⟩
                · rw [if_neg (by simpa using c2)]
                  exact ⟨gs, by omega, gok, eC5, eG, s5⟩
              · rw [if_neg (by simpa using c1)]
                refine ⟨false, rfl, ?_⟩
                dsimp only
                rw [if_neg (by decide)]
                exact ⟨gs, by omega, gok, eC5, eG, s5⟩
            · rintro H5 ⟨gs, gl, gok, _, eG, s5⟩
              rw [List.length_map] at gl
              exact ⟨B0, gs, rfl, eG, by omega, gok, nB0.1, s5⟩
          rintro σ5 H5 ⟨G, gs, rfl, eG, gl, gok, nG, s5⟩
          refine ⟨_, rfl, _, rfl, _, rfl, _, rfl, _, rfl, _, _, rfl, rfl, _, _, rfl, rfl, l, p, _, r.hi - r.lo + 1, rfl, s5.pen, by omega, by omega, by have z1 := R.l1; have z2 := R.l2; omega, fun u H6 u0 u1 b6 hp6 => ?_⟩
          have s6 := s5.next b6 hp6
          have eG6 := b6 _ _ nG eG
          refine ⟨_, _, rfl, rfl, by show 1 ≤ sizeLine; decide, fun B1 hB1 => ?_⟩
          have GB1 : G ≠ B1 := fun c => by rw [← c, eG6] at hB1; cases hB1
          have s7 := s6.new (o := .lst [.int (r.lo + u)]) hB1
          refine ⟨G, B1, _, _, rfl, rfl, by rw [upd_ne GB1]; exact eG6, upd_same, by rw [List.length_map]; show gs.length + 1 ≤ sizeLine; rw [sizeLine_eq]; omega, fun B2 hB2 => ?_⟩
          have nB2 := s7.pen.ne hB2
          have GB2 : G ≠ B2 := fun c => by rw [← c, upd_ne GB1, eG6] at hB2; cases hB2
          have s8 := s7.new (o := .lst (gs.map V.int ++ [.int (r.lo + u)])) hB2
          refine ⟨_, rfl, _, rfl, G, _, rfl, .inl (SqL.of (by rw [upd_ne GB2, upd_ne GB1]; exact eG6)), _, _, rfl, rfl, l, p, _, _, rfl, s8.pen, by omega, by rw [List.length_map]; omega, by rw [List.length_map]; omega, fun u2 H7 u3 u4 b7 hp7 => ?_⟩
          have s9 := s8.next b7 hp7
          obtain ⟨v, hv, hm⟩ := at_drawn (xs := gs.map V.int ++ [.int (r.lo + u)]) u3 u4 (by rw [List.length_append, List.length_map]; rfl)
          refine ⟨B2, _, _, v, rfl, rfl, SqL.of (b7 _ _ nB2.1 upd_same), hv, ?_⟩
          obtain ⟨z, rfl, z0, z1⟩ : ∃ z : Int, v = .int z ∧ r.lo ≤ z ∧ z ≤ r.hi := by
            rcases List.mem_append.mp hm with hm | hm
            · obtain ⟨z, hz, ez⟩ := List.mem_map.mp hm
              exact ⟨z, ez.symm, gok z hz⟩
            · exact ⟨_, List.mem_singleton.mp hm, by omega, by omega⟩
          have fresh : r.nm ∉ kn.map (·.1) := by
            rw [ek]
            intro hz
            have hz' := List.mem_map.mp hz
            obtain ⟨x, hx1, hx2⟩ := hz'
            have hx3 : x ∈ rs.take i := (List.mem_filter.mp hx1).1
            have zz := ndr
            rw [← List.take_append_drop i rs, List.map_append, List.nodup_append] at zz
            have rd : r ∈ rs.drop i := List.mem_of_getElem? (i := 0) (by rw [List.getElem?_drop]; exact er)
            exact zz.2.2 x.nm (List.mem_map.mpr ⟨x, hx3, rfl⟩) r.nm (List.mem_map.mpr ⟨r, rd, rfl⟩) hx2
          have kl : kn.length ≤ 40 := by
            have z := congrArg List.length ek
            rw [List.length_map] at z
            have z2 := openN_len (rs := rs.take i)
            rw [List.length_take] at z2
            omega
          refine ⟨_, rfl, _, rfl, D, _, rfl, DPut.k (k := Sum.inr r.nm) s9.eD (by unfold kents; rw [List.length_map, sizeLine_eq]; omega), ?_⟩
          refine ⟨kn ++ [(r.nm, z)], _, _, _, _, _, _, _, _, _, _, _, rfl, ⟨?_, s9.but.of s9.hD, (s9.pen.put s9.dp).mono (by omega), s9.hD, s9.dp⟩, by rw [List.map_append, ek, tk]; rfl, ?_⟩
          · rw [upd_same, putK_new _ (kents_none fresh)]
            unfold kents
            rw [List.map_append]
            rfl
          · intro q hq
            rcases List.mem_append.mp hq with hq | hq
            · exact mk q hq
            · rw [List.mem_singleton.mp hq]
              exact ⟨r, rm, rfl, z0, z1⟩
        · rw [if_neg (by simpa using e)]
          rw [if_neg e, List.append_nil] at tk
          exact ⟨kn, _, _, _, _, _, _, _, _, _, _, _, rfl, st.next (But.refl _ _) (st.pen.mono (by omega)), by rw [tk]; exact ek, mk⟩
      · rintro σ' H2 ⟨kn, v3, v4, v5, v6, v7, v8, v9, v10, v11, v12, v13, rfl, st, ek, mk⟩
        rw [List.length_map, tl, List.take_length] at ek
        refine ⟨kn, v3, v4, v5, v6, v7, v8, v9, v10, v11, v12, v13, rfl, st.next (But.refl _ _) (st.pen.mono ?_), ek, mk⟩
        rw [List.length_map]
        omega
    rintro σ2 H2 ⟨kn, v3, v4, v5, v6, v7, v8, v9, v10, v11, v12, v13, rfl, st, ek, mk⟩
    have kl : kn.length ≤ 40 := by
      have z := congrArg List.length ek
      rw [List.length_map] at z
      have z2 := openN_len (rs := rs)
      omega
    refine ⟨fun σ' H' => ∃ T us w13, σ' = [some (.ref p), some (.ref L), some (.ref D), v3, v4, v5, v6, v7, v8, v9, v10, v11, v12, w13] ∧ w13 = some (.ref T) ∧ H' T = some (.lst (List.map V.str us)) ∧ us.Perm (openN rs) ∧ TrSt H l p D kn H' (n + 3601), ?_, ?_⟩
    · refine ⟨_, rfl, D, _, openN rs, rfl, .inl st.eD, by rw [kents_keys, ek], by have z2 := openN_len (rs := rs); omega, fun ys S perm srt hS => ?_⟩
      have s3 := st.new (o := .lst (ys.map V.str)) hS
      have nS := st.pen.ne hS
      refine ⟨_, rfl, by show 2 ≤ sizeLine; decide, fun q hq => ?_⟩
      have Sq : S ≠ q := fun c => by rw [← c, upd_same] at hq; cases hq
      have s4 := s3.new (o := .lst [.int 1, .int (-1)]) hq
      have nq := s3.pen.ne hq
      refine ⟨_, rfl, l, p, _, 2, rfl, s4.pen, by omega, by decide, by decide, fun u H4 u0 u1 b4 hp4 => ?_⟩
      have s5 := s4.next b4 hp4
      have eS : H4 S = some (.lst (ys.map V.str)) := b4 _ _ nS.1 (by rw [upd_ne Sq]; exact upd_same)
      have ysl : ys.length ≤ 40 := by rw [perm.length_eq]; have z2 := openN_len (rs := rs); omega
      have eq4 := SqL.of (K := K) (b4 _ _ nq.1 upd_same)
      rcases (show u = 0 ∨ u = 1 by omega) with rfl | rfl
      · refine ⟨q, _, _, .int 1, rfl, rfl, eq4, rfl, 1, rfl, by decide, S, _, rfl, SqL.of eS, ?_, fun T hT => ?_⟩
        · rw [pick_one, List.length_map, sizeLine_eq]
          omega
        · rw [pick_one]
          exact ⟨T, ys, _, rfl, rfl, upd_same, perm, s5.new hT⟩
      · refine ⟨q, _, _, .int (-1), rfl, rfl, eq4, rfl, -1, rfl, by decide, S, _, rfl, SqL.of eS, ?_, fun T hT => ?_⟩
        · rw [pick_back, List.length_reverse, List.length_map, sizeLine_eq]
          omega
        · rw [pick_back, ← List.map_reverse]
          exact ⟨T, ys.reverse, _, rfl, rfl, upd_same, (List.reverse_perm ys).trans perm, s5.new hT⟩
    rintro σ3 H3 ⟨T, us, w13, rfl, rfl, eT, perm, s3⟩
    have ndn : (kn.map (·.1)).Nodup := by rw [ek]; exact openN_nodupN ndr
    have usl : us.length ≤ 40 := by
      rw [perm.length_eq, ← ek, List.length_map]
      exact kl
    refine ⟨_, rfl, T, rfl, ⟨_, SqL.of eT⟩, fun B0 hB0 => ?_⟩
    have hB0' := s3.free hB0
    have nB0 := s3.pen.ne hB0
    have dB0 := s3.nD hB0
    have TB0 : T ≠ B0 := fun c => by rw [← c, eT] at hB0; cases hB0
    refine lc_list (xs := us.map V.str) (fun j H' => ∃ (ps : List Addr) (kn' : List (Str × Int)), ps.length = j ∧ kn'.map (·.1) = us.take j ∧ (∀ q ∈ kn', q ∈ kn) ∧ H' T = some (.lst (us.map V.str)) ∧ H' B0 = some (.lst (ps.map V.ref)) ∧
      Paired (fun q kv => H' q = some (.tup [.str kv.1, .int kv.2])) ps kn' ∧ TrSt H l p D kn H' (n + 3601)) ?_ ?_ ?_ ?_
    · exact ⟨[], [], rfl, by rw [List.take_zero]; rfl, fun _ z => (nomatch z), by rw [upd_ne TB0]; exact eT, upd_same, .nil, s3.new hB0⟩
    · rintro j H' hj ⟨ps, kn', _, _, _, e, _⟩
      exact SqL.of e
    · rintro j x H4 hx4 ⟨ps, kn', pl, ek', sub, eT4, eB4, hP, s4⟩
      rw [List.getElem?_map] at hx4
      cases eu4 : us[j]? with
      | none => rw [eu4] at hx4; cases hx4
      | some nm =>
      rw [eu4] at hx4
      have ex4 : V.str nm = x := Option.some.inj hx4
      subst ex4
      have jl : j < us.length := (List.getElem?_eq_some_iff.mp eu4).1
      obtain ⟨z, hz⟩ : ∃ z, (nm, z) ∈ kn := by
        have m := perm.mem_iff.mp (List.mem_of_getElem? eu4)
        rw [← ek] at m
        obtain ⟨q, hq, eq⟩ := List.mem_map.mp m
        exact ⟨q.2, by rw [← eq]; exact hq⟩
      have gd : DGet H4 D (.str nm) (some (.int z)) := by
        rw [← kents_get ndn hz]
        exact DGet.k (k := Sum.inr nm) s4.eD
      refine ⟨rfl, ?_⟩
      dsimp only [tYes]
      rw [if_pos rfl]
      refine ⟨_, rfl, _, rfl, _, rfl, D, _, rfl, gd, by show 2 ≤ sizeLine; decide, fun t ht => ?_⟩
      have tB0 : B0 ≠ t := fun c => by rw [← c, eB4] at ht; cases ht
      have TT : T ≠ t := fun c => by rw [← c, eT4] at ht; cases ht
      have s5 := s4.new (o := .tup [.str nm, .int z]) ht
      refine ⟨_, by rw [upd_ne tB0]; exact eB4, by rw [List.length_map, pl, sizeLine_eq]; omega, ps ++ [t], kn' ++ [(nm, z)], by rw [List.length_append, pl]; rfl, ?_, ?_, ?_, ?_, ?_, s5.put nB0 hB0' dB0⟩
      · rw [List.map_append, ek', List.take_add_one, eu4]
        rfl
      · intro q hq
        rcases List.mem_append.mp hq with hq | hq
        · exact sub q hq
        · rw [List.mem_singleton.mp hq]
          exact hz
      · rw [upd_ne TB0, upd_ne TT]
        exact eT4
      · rw [upd_same, List.map_append]
        rfl
      · refine Paired.snoc (paired_imp (fun x y w => ?_) hP) ?_
        · rw [upd_ne (fun c => by rw [c, eB4] at w; cases w), upd_ne (fun c => by rw [c, ht] at w; cases w)]
          exact w
        · rw [upd_ne tB0.symm, upd_same]
    · rintro H4 ⟨ps, kn', pl, ek', sub, eT4, eB4, hP, s4⟩
      rw [List.length_map, List.take_length] at ek'
      have ndk : (kn'.map (·.1)).Nodup := by rw [ek']; exact perm.nodup_iff.mpr (openN_nodupN ndr)
      refine ⟨B0, ps, kents kn', rfl, SqL.of eB4, paired_into (fun q : Str × Int => ((Sum.inr q.1 : Key), V.int q.2)) (fun x y w => SqT.of w) hP, fun v hv => ?_⟩
      have e := merge_kents kn' [] ndk
      have e0 : mergeK [] (kents kn') = kents kn' := e
      rw [e0]
      have s6 := s4.new (o := .dK (kents kn')) hv
      exact k v kn' _ (s4.free hv) s6.but (s6.pen.mono (by omega)) upd_same ⟨by rw [ek']; exact perm, fun q hq => mk q (sub q hq)⟩
end
end Ask

set_option Elab.async false
set_option linter.all false
set_option maxRecDepth 100000
set_option maxHeartbeats 4000000
set_option pp.deepTerms false
set_option pp.deepTerms.threshold 14
namespace Ask
open PySem L2
open PyProof.Rows
section
variable {P : Program} {w : World} {K : PySem.W.Frag} {mg : Str → Option Value} {base : Heap} {a : Ad}
def spLToldO : Sp := fun vs H Q _ => ∃ (L v : Addr) (ts : List Addr) (rs : List Rw) (kn : List (Str × Int)), vs = [.ref L, .ref v] ∧ H L = some (.lst (List.map V.ref ts)) ∧ Paired (RowAt H) ts rs ∧ (rs.map (·.nm)).Nodup ∧ rs.length < 64 ∧ H v = some (.dK (kents kn)) ∧ (∀ r ∈ rs, ∀ z, kn.lookup r.nm = some z → r.lo < r.hi) ∧
  ∀ M us H', H M = none → Same H H' → H' M = some (.lst (List.map V.ref us)) → Paired (RowAt H') us (rs.map (tellR kn)) → Q (.ref M) H'
theorem ok_ltoldo (T : Txt K mg a) : FnOk P w K mg base CX0 2 a.f__law_told a.d__law_told ["rows", "known"] spLToldO := by
  refine T.F__law_told.ok sc__law_told (fun vs H Q E h => ?_) (fun cdv A outer s H vs Q E hr h => ?_)
  · obtain ⟨L, v, ts, rs, kn, rfl, _⟩ := h
    rfl
  · obtain ⟨L, v, ts, rs, kn, rfl, hL, pr, ndr, n64, hv, ho, k⟩ := h
    have nd := sc__law_told.nd
    have tl : ts.length = rs.length := paired_len pr
    refine ⟨_, (Evl.pss_cut (ps_set (i := 2) nd rfl (by first | exact Or.inl rfl | exact Or.inr rfl) (pe_lst pa_nil))
  (Evl.pss_cut (ps_for PassesOwn.never rfl (pi_list (pv 0)) (pg_name (i := 3) nd rfl (by first | exact Or.inl rfl | exact Or.inr rfl))
    (pss_one (ps_expr (pe_bm PySem.F.plainAttrs_list PySem.F.slot_list_append PySem.F.type_list_append mt_append (pv 2) (pa_cons (pe_ifExp (PW.pt (pw_and (pt_cmp (pc_din (hu_of hr) (pe_ix ix_tup (pv 3) pe_int (fun _ _ => rfl)) (pv 1))) (pw_and1 (pt_cmpR op_lt (pe_ix ix_tup (pv 3) pe_int (fun _ _ => rfl)) (pe_ix ix_tup (pv 3) pe_int (fun _ _ => rfl)) (nomark _))))) (pe_tup (pa_cons (pe_ix ix_tup (pv 3) pe_int (fun _ _ => rfl)) (pa_cons (pe_dget (hu_of hr) (pv 1) (pe_ix ix_tup (pv 3) pe_int (fun _ _ => rfl)) (fun _ _ => rfl)) (pa_cons (pe_dget (hu_of hr) (pv 1) (pe_ix ix_tup (pv 3) pe_int (fun _ _ => rfl)) (fun _ _ => rfl)) (pa_cons pe_int pa_nil))))) (pv 3)) pa_nil)))))
  (pss_one (ps_ret (pv 2))))), ?_⟩
    refine ⟨fun σ' H' => ∃ M, σ' = [some (.ref L), some (.ref v), some (.ref M), none] ∧ H M = none ∧ Same H H' ∧ H' M = some (.lst []), ?_, ?_⟩
    · exact ⟨Nat.zero_le _, fun M hM => ⟨M, rfl, hM, Same.new hM, upd_same⟩⟩
    rintro σ1 H1 ⟨M, rfl, hM, S1, eM⟩
    refine ⟨fun σ' H' => ∃ us w3, σ' = [some (.ref L), some (.ref v), some (.ref M), w3] ∧ Same H H' ∧ H' M = some (.lst (List.map V.ref us)) ∧ Paired (RowAt H') us (rs.map (tellR kn)), ?_, ?_⟩
    · refine ⟨_, rfl, L, rfl, ⟨_, SqL.of (S1 _ _ hL)⟩, for_list (xs := ts.map V.ref) (fun i σ' H' => ∃ us w3, σ' = [some (.ref L), some (.ref v), some (.ref M), w3] ∧ Same H H' ∧ H' M = some (.lst (List.map V.ref us)) ∧ Paired (RowAt H') us ((rs.take i).map (tellR kn))) ?_ ?_ ?_ ?_⟩
      · exact ⟨[], none, rfl, S1, eM, .nil⟩
      · rintro i σ' H' hi ⟨us, w3, rfl, S, _⟩
        exact SqL.of (S _ _ hL)
      · rintro i x σ' H2 hx ⟨us, w3, rfl, S, eU, pU⟩
        rw [List.getElem?_map] at hx
        cases eu : ts[i]? with
        | none => rw [eu] at hx; cases hx
        | some t =>
        rw [eu] at hx
        have ex : V.ref t = x := Option.some.inj hx
        subst ex
        obtain ⟨r, er, hr0⟩ := paired_get pr eu
        have il : i < rs.length := (List.getElem?_eq_some_iff.mp er).1
        have at2 := SqT.of (K := K) (S _ _ hr0)
        have ul : us.length = i := by
          have z := paired_len pU
          rw [List.length_map, List.length_take] at z
          omega
        have tk : (rs.take (i + 1)).map (tellR kn) = (rs.take i).map (tellR kn) ++ [tellR kn r] := by rw [take_snoc er, List.map_append]; rfl
        have rm : r ∈ rs := List.mem_of_getElem? er
        have gd : DGet H2 v (.str r.nm) ((kn.lookup r.nm).map V.int) := by
          rw [← kents_look]
          exact DGet.k (k := Sum.inr r.nm) (S _ _ hv)
        have few : (us.map V.ref).length < sizeLine := by rw [List.length_map, ul, sizeLine_eq]; omega
        refine ⟨_, rfl, .inl ⟨rfl, _, SqL.of eU⟩, ?_⟩
        refine ⟨_, rfl, t, _, _, _, rfl, rfl, at2, rfl, _, rfl, v, _, rfl, gd, _, rfl, ?_⟩
        cases e : kn.lookup r.nm with
        | none =>
          have et : tellR kn r = r := by unfold tellR; rw [e]
          refine ⟨_, rfl, M, _, _, rfl, rfl, eU, few, us ++ [t], _, rfl, Same.of S hM, by rw [upd_same, List.map_append]; rfl, ?_⟩
          rw [tk, et]
          have keep : ∀ {x y}, RowAt H2 x y → RowAt (upd H2 M (.lst (us.map V.ref ++ [.ref t]))) x y := fun {x y} z => by
            have n : x ≠ M := fun c => by
              unfold RowAt at z
              rw [c, eU] at z
              cases z
            unfold RowAt
            rw [upd_ne n]
            exact z
          exact Paired.snoc (paired_imp (fun _ _ z => keep z) pU) (keep (S _ _ hr0))
        | some z =>
          have lt := ho r rm z e
          have et : tellR kn r = ⟨r.nm, z, z, 0⟩ := by unfold tellR; rw [e]
          rw [e] at gd
          have gd2 : DGet H2 v (.str r.nm) (some (.int z)) := gd
          rw [if_pos (show (Option.map V.int (some z)).isSome = true from rfl)]
          refine ⟨_, rfl, t, _, _, _, rfl, rfl, at2, rfl, _, rfl, t, _, _, _, rfl, rfl, at2, rfl, _, _, rfl, rfl, _, rfl, ?_⟩
          dsimp only
          rw [if_pos (by simpa using lt)]
          refine ⟨_, rfl, t, _, _, _, rfl, rfl, at2, rfl, _, rfl, _, rfl, t, _, _, _, rfl, rfl, at2, rfl, v, _, rfl, gd2, _, rfl, _, rfl, t, _, _, _, rfl, rfl, at2, rfl, v, _, rfl, gd2, by show 4 ≤ sizeLine; decide, fun u hu => ?_⟩
          have Mu : M ≠ u := fun c => by rw [← c, eU] at hu; cases hu
          have S2 := Same.grow S hu (o := .tup [.str r.nm, .int z, .int z, .int 0])
          refine ⟨M, _, _, rfl, rfl, by rw [upd_ne Mu]; exact eU, few, us ++ [u], _, rfl, Same.of S2 hM, by rw [upd_same, List.map_append]; rfl, ?_⟩
          rw [tk, et]
          refine Paired.snoc (paired_imp (fun x y w => ?_) pU) ?_
          · have n1 : x ≠ M := fun c => by
              unfold RowAt at w
              rw [c, eU] at w
              cases w
            have n2 : x ≠ u := fun c => by
              unfold RowAt at w
              rw [c, hu] at w
              cases w
            unfold RowAt
            rw [upd_ne n1, upd_ne n2]
            exact w
          · unfold RowAt
            rw [upd_ne Mu.symm, upd_same]
      · rintro σ' H2 ⟨us, w3, rfl, S, eU, pU⟩
        rw [List.length_map, tl, List.take_length] at pU
        exact ⟨us, w3, rfl, S, eU, pU⟩
    rintro σ2 H2 ⟨us, w3, rfl, S, eU, pU⟩
    exact ⟨_, rfl, k M us H2 hM S eU pU⟩
end
end Ask

set_option Elab.async false
set_option linter.all false
set_option maxRecDepth 100000
set_option maxHeartbeats 8000000
set_option pp.deepTerms false
set_option pp.deepTerms.threshold 14
namespace Ask
open PySem L2 LamX
open PyProof.Rows
open PySem.W (dataLe)
/-! the law's candidates -/
section
variable {P : Program} {w : World} {K : PySem.W.Frag} {mg : Str → Option Value} {base : Heap} {a : Ad}
theorem pSum_perm {g h : List Rw} (p : g.Perm h) : pSum g = pSum h := by
  unfold pSum
  have q := p.map (·.pr)
  generalize g.map (·.pr) = xs at q
  generalize h.map (·.pr) = ys at q
  induction q with
  | nil => rfl
  | cons x _ ih => simp [ih]
  | swap x y l => simp; omega
  | trans _ _ h1 h2 => rw [h1, h2]
theorem CaOf.perm {r : Rw} {g h : List Rw} {c : Ca} (x : CaOf r g c) (p : g.Perm h) : CaOf r h c := ⟨x.1.trans (pSum_perm p), x.2.1, x.2.2.1.trans (p.map _), x.2.2.2⟩
/-- the open ones of the others -/
def freO (rs : List Rw) (r : Rw) : List Rw := (rs.filter fun q => !decide (q.nm = r.nm)).filter fun q => decide (q.lo < q.hi)
theorem reach_perm {rs : List Rw} (le : ∀ r ∈ rs, r.lo ≤ r.hi) (r : Rw) (v : Int) : ((freO rs r).filter fun q => decide (q.lo ≤ v)).Perm (reachR rs r v) := by
  have e : (freO rs r).filter (fun q => decide (q.lo ≤ v)) = rs.filter (downP r v) := by
    unfold freO
    rw [List.filter_filter, List.filter_filter]
    refine List.filter_congr fun q hq => ?_
    unfold downP
    have z := le q hq
    have e2 : (!decide (q.lo = q.hi)) = decide (q.lo < q.hi) := by
      by_cases c : q.lo = q.hi
      · rw [decide_eq_true c, decide_eq_false (by omega)]
        rfl
      · rw [decide_eq_false c, decide_eq_true (by omega)]
        rfl
    rw [e2]
    cases decide (q.nm = r.nm) <;> cases decide (q.lo < q.hi) <;> cases decide (q.lo ≤ v) <;> rfl
  rw [e]
  exact ((List.mergeSort_perm rs (dataLe false keyR)).filter _).symm
theorem ask_perm {rs : List Rw} (le : ∀ r ∈ rs, r.lo ≤ r.hi) {r : Rw} (mr : r ∈ rs) (v : Int) : (((freO rs r).filter fun q => decide (q.lo ≤ v)) ++ (if r.lo < r.hi then [r] else [])).Perm (askA rs r v) := by
  unfold askA
  have e : (if r.lo < r.hi then [r] else []) = if r.lo = r.hi then [] else [r] := by
    have z := le r mr
    by_cases c : r.lo = r.hi
    · rw [if_pos c, if_neg (by omega)]
    · rw [if_neg c, if_pos (by omega)]
  rw [e]
  exact List.perm_append_comm.trans (List.Perm.append_left _ (reach_perm le r v))
/-- the list at M of candidates so far -/
def LcSt (H : Hp) (M : Addr) (ps : List (Rw × List Rw)) (us : List Addr) (H' : Hp) : Prop := Same H H' ∧ H' M = some (.lst (us.map V.ref)) ∧ ∃ cs, Paired CaOf2 ps cs ∧ Paired (fun t c => ∃ l, CaL H' t l c ∧ H l = none ∧ l ≠ M) us cs
theorem LcSt.same {H H' H'' : Hp} {M : Addr} {ps : List (Rw × List Rw)} {us : List Addr} (h : LcSt H M ps us H') (s : Same H' H'') : LcSt H M ps us H'' := by
  obtain ⟨h1, h2, cs, h3, h4⟩ := h
  exact ⟨h1.trans s, s _ _ h2, cs, h3, paired_imp (fun t c ⟨l, z1, z2⟩ => ⟨l, z1.same s, z2⟩) h4⟩
theorem LcSt.add {H H' : Hp} {M t n : Addr} {ps : List (Rw × List Rw)} {us : List Addr} {r : Rw} {g : List Rw} {c : Ca} (h : LcSt H M ps us H') (hM : H M = none) (cl : CaL H' t n c) (hn : H n = none) (nM : n ≠ M) (cg : CaOf r g c) :
    LcSt H M (ps ++ [(r, g)]) (us ++ [t]) (upd H' M (.lst (us.map V.ref ++ [.ref t]))) := by
  obtain ⟨h1, h2, cs, h3, h4⟩ := h
  have keep : ∀ t' l c, CaL H' t' l c → l ≠ M → CaL (upd H' M (.lst (us.map V.ref ++ [.ref t]))) t' l c := fun t' l c z lM => by
    refine ⟨?_, by rw [upd_ne lM]; exact z.2⟩
    rw [upd_ne (fun e => by have := z.1; rw [e, h2] at this; cases this)]
    exact z.1
  exact ⟨Same.of h1 hM, by rw [upd_same, List.map_append]; rfl, cs ++ [c], paired_snoc h3 cg, paired_snoc (paired_imp (fun t c ⟨l, z1, z2, z3⟩ => ⟨l, keep t l c z1 z3, z2, z3⟩) h4) ⟨n, keep t n c cl nM, hn, nM⟩⟩
theorem LcSt.len {H H' : Hp} {M : Addr} {ps : List (Rw × List Rw)} {us : List Addr} (h : LcSt H M ps us H') : us.length = ps.length := by
  obtain ⟨_, _, cs, h3, h4⟩ := h
  rw [paired_len h4, ← paired_len h3]
theorem real_all {rs : List Rw} {kn : List (Str × Int)} (V4 : Vals4 rs kn) (r : Rw) (f : Int → Bool) : ((((rs.filter fun q => !decide (q.nm = r.nm)).map (tellR kn)).map fun q => q.lo).map f).all id = (rs.filter fun q => !decide (q.nm = r.nm)).all fun q => f (valOf kn q) := by
  rw [List.map_map, List.map_map, List.all_map]
  rw [Bool.eq_iff_iff, List.all_eq_true, List.all_eq_true]
  constructor
  · intro h q hq
    have z : f (tellR kn q).lo = true := h q hq
    rw [(val_tell V4 (List.mem_filter.mp hq).1).1] at z
    exact z
  · intro h q hq
    show f (tellR kn q).lo = true
    rw [(val_tell V4 (List.mem_filter.mp hq).1).1]
    exact h q hq
def spLCands : Sp := fun vs H Q _ => ∃ (L v : Addr) (ts : List Addr) (rs : List Rw) (kn : List (Str × Int)), vs = [.ref L, .ref v] ∧ H L = some (.lst (List.map V.ref ts)) ∧ Paired (RowAt H) ts rs ∧ Rows rs ∧ (∀ r ∈ rs, r.lo ≤ r.hi) ∧ H v = some (.dK (kents kn)) ∧ Vals4 rs kn ∧
  ∀ D us cs H', Same H H' → H D = none → H' D = some (.lst (us.map V.ref)) → Paired CaOf2 (dueL rs kn rs) cs → Paired (fun t c => ∃ l, CaL H' t l c ∧ H l = none) us (srtC cs) → Q (.ref D) H'
theorem ok_lcands (T : Txt K mg a) : FnOk P w K mg base CX0 4 a.f__law_candidates a.d__law_candidates ["rows", "known"] spLCands := by
  have G_law_told : FnOk P w K mg base CX0 2 a.f__law_told a.d__law_told ["rows", "known"] spLToldO := ok_ltoldo T
  refine T.F__law_candidates.ok sc__law_candidates (fun vs H Q E h => ?_) (fun cdv A outer s H vs Q E hr h => ?_)
  · obtain ⟨L, v, ts, rs, kn, rfl, _⟩ := h
    rfl
  · obtain ⟨L, v, ts, rs, kn, rfl, hL, pr, R, le, hv, V4, k⟩ := h
    have nd := sc__law_candidates.nd
    refine ⟨_, (Evl.pss_cut (ps_set (i := 2) nd rfl (by first | exact Or.inl rfl | exact Or.inr rfl) (pe_lst pa_nil))
  (Evl.pss_cut (ps_for PassesOwn.never rfl (pi_list (pv 0)) (pg_name (i := 3) nd rfl (by first | exact Or.inl rfl | exact Or.inr rfl))
    (Evl.pss_cut (ps_setLc (i := 4) (own := [("other", 5)]) (g := gName 5) rfl nd rfl rfl (sw_true rfl rfl rfl (by decide +kernel)) (pi_list (pv 0)) (blkOk_by (N := ["rows", "known", "found", "row", "others", "other", "real", "mine", "free", "worth", "some"]) (sc := defScope s__law_candidates) (by decide +kernel)) (fun _ _ _ _ _ => (pg_name (i := 5) nd rfl (by first | exact Or.inl rfl | exact Or.inr rfl))) (fun _ _ _ _ _ => (pts_one (pt_cmpR op_ne (pe_ix (ix_tupK (K := K) rfl) (pv 5) pe_int (fun _ _ => rfl)) (pe_ix (ix_tupK (K := K) rfl) (pv 3) pe_int (fun _ _ => rfl)) (nomark _)))) (fun _ _ _ _ _ => (pv 5)))
  (Evl.pss_cut (ps_setLc (i := 6) (own := [("other", 5)]) (g := gName 5) (tt := tYes) rfl nd rfl rfl (sw_true rfl rfl rfl (by decide +kernel)) (pi_list (pe_call G_law_told (hr.mono (by first | decide | omega)) rfl T.g__law_told T.F__law_told.kp T.b__law_told .nil pass0 (pa_cons (pv 4) (pa_cons (pv 1) pa_nil)))) (blkOk_by (N := ["rows", "known", "found", "row", "others", "other", "real", "mine", "free", "worth", "some"]) (sc := defScope s__law_candidates) (by decide +kernel)) (fun _ _ _ _ _ => (pg_name (i := 5) nd rfl (by first | exact Or.inl rfl | exact Or.inr rfl))) (fun _ _ _ _ _ => pts_nil) (fun _ _ _ _ _ => (pe_ix (ix_tupK (K := K) rfl) (pv 5) pe_int (fun _ _ => rfl))))
  (Evl.pss_cut (ps_set (i := 7) nd rfl (by first | exact Or.inl rfl | exact Or.inr rfl) (pe_dget2 (hu_of hr) (pv 1) (pe_ix (ix_tupK (K := K) rfl) (pv 3) pe_int (fun _ _ => rfl)) (pe_ix (ix_tupK (K := K) rfl) (pv 3) pe_int (fun _ _ => rfl)) ⟨rfl, rfl, rfl, rfl⟩))
  (Evl.pss_cut (ps_setLc (i := 8) (own := [("other", 5)]) (g := gName 5) rfl nd rfl rfl (sw_true rfl rfl rfl (by decide +kernel)) (pi_list (pv 4)) (blkOk_by (N := ["rows", "known", "found", "row", "others", "other", "real", "mine", "free", "worth", "some"]) (sc := defScope s__law_candidates) (by decide +kernel)) (fun _ _ _ _ _ => (pg_name (i := 5) nd rfl (by first | exact Or.inl rfl | exact Or.inr rfl))) (fun _ _ _ _ _ => (pts_one (pt_cmpR op_lt (pe_ix (ix_tupK (K := K) rfl) (pv 5) pe_int (fun _ _ => rfl)) (pe_ix (ix_tupK (K := K) rfl) (pv 5) pe_int (fun _ _ => rfl)) (nomark _)))) (fun _ _ _ _ _ => (pv 5)))
  (Evl.pss_cut (ps_if (pt_val (pe_callB (cr_all rfl) (by rfl) T.b_all (by decide +kernel) (pa_cons (pe_lc (own := [("worth", 9)]) (g := gName 9) (tt := tYes) rfl nd (pi_list (pv 6)) (blkOk_by (N := ["rows", "known", "found", "row", "others", "other", "real", "mine", "free", "worth", "some"]) (sc := defScope s__law_candidates) (by decide +kernel)) (fun _ _ _ _ _ => (pg_name (i := 9) nd rfl (by first | exact Or.inl rfl | exact Or.inr rfl))) (fun _ _ _ _ _ => pts_nil) (fun _ _ _ _ _ => (pe_cmpR op_le (pv 7) (pv 9) (nomark _)))) pa_nil)))
    (Evl.pss_cut (ps_set (i := 10) nd rfl (by first | exact Or.inl rfl | exact Or.inr rfl) (pe_op op_cat (pe_lc (own := [("other", 5)]) (g := gName 5) rfl nd (pi_list (pv 8)) (blkOk_by (N := ["rows", "known", "found", "row", "others", "other", "real", "mine", "free", "worth", "some"]) (sc := defScope s__law_candidates) (by decide +kernel)) (fun _ _ _ _ _ => (pg_name (i := 5) nd rfl (by first | exact Or.inl rfl | exact Or.inr rfl))) (fun _ _ _ _ _ => (pts_one (pt_cmpR op_le (pe_ix (ix_tupK (K := K) rfl) (pv 5) pe_int (fun _ _ => rfl)) (pv 7) (nomark _)))) (fun _ _ _ _ _ => (pv 5))) (pe_ifExp (pt_cmpR op_lt (pe_ix (ix_tupK (K := K) rfl) (pv 3) pe_int (fun _ _ => rfl)) (pe_ix (ix_tupK (K := K) rfl) (pv 3) pe_int (fun _ _ => rfl)) (nomark _)) (pe_lst (pa_cons (pv 3) pa_nil)) (pe_lst pa_nil))))
  (pss_one (ps_expr (pe_bm PySem.F.plainAttrs_list PySem.F.slot_list_append PySem.F.type_list_append mt_append (pv 2) (pa_cons (pe_tup (pa_cons (pe_callB (cr_sum rfl) (by rfl) T.b_sum (by decide +kernel) (pa_cons (pe_lc (own := [("other", 5)]) (g := gName 5) (tt := tYes) rfl nd (pi_list (pv 10)) (blkOk_by (N := ["rows", "known", "found", "row", "others", "other", "real", "mine", "free", "worth", "some"]) (sc := defScope s__law_candidates) (by decide +kernel)) (fun _ _ _ _ _ => (pg_name (i := 5) nd rfl (by first | exact Or.inl rfl | exact Or.inr rfl))) (fun _ _ _ _ _ => pts_nil) (fun _ _ _ _ _ => (pe_ix (ix_tupK (K := K) rfl) (pv 5) pe_int (fun _ _ => rfl)))) pa_nil)) (pa_cons (pe_ix (ix_tupK (K := K) rfl) (pv 3) pe_int (fun _ _ => rfl)) (pa_cons (pe_callB cr_sortedS (by rfl) T.b_sorted (by decide +kernel) (pa_cons (pe_lc (own := [("other", 5)]) (g := gName 5) (tt := tYes) rfl nd (pi_list (pv 10)) (blkOk_by (N := ["rows", "known", "found", "row", "others", "other", "real", "mine", "free", "worth", "some"]) (sc := defScope s__law_candidates) (by decide +kernel)) (fun _ _ _ _ _ => (pg_name (i := 5) nd rfl (by first | exact Or.inl rfl | exact Or.inr rfl))) (fun _ _ _ _ _ => pts_nil) (fun _ _ _ _ _ => (pe_ix (ix_tupK (K := K) rfl) (pv 5) pe_int (fun _ _ => rfl)))) pa_nil)) pa_nil)))) pa_nil)))))
    pss_nil)
  (pss_one (ps_if (PW.pt (pw_and (pt_cmpR op_lt (pe_ix (ix_tupK (K := K) rfl) (pv 3) pe_int (fun _ _ => rfl)) (pe_ix (ix_tupK (K := K) rfl) (pv 3) pe_int (fun _ _ => rfl)) (nomark _)) (pw_and1 (pt_val (pe_callB (cr_all rfl) (by rfl) T.b_all (by decide +kernel) (pa_cons (pe_lc (own := [("worth", 9)]) (g := gName 9) (tt := tYes) rfl nd (pi_list (pv 6)) (blkOk_by (N := ["rows", "known", "found", "row", "others", "other", "real", "mine", "free", "worth", "some"]) (sc := defScope s__law_candidates) (by decide +kernel)) (fun _ _ _ _ _ => (pg_name (i := 9) nd rfl (by first | exact Or.inl rfl | exact Or.inr rfl))) (fun _ _ _ _ _ => pts_nil) (fun _ _ _ _ _ => (pe_cmpR op_lt (pe_ix (ix_tupK (K := K) rfl) (pv 3) pe_int (fun _ _ => rfl)) (pv 9) (nomark _)))) pa_nil))))))
    (Evl.pss_cut (ps_setLc (i := 10) (own := [("other", 5)]) (g := gName 5) rfl nd rfl rfl (sw_true rfl rfl rfl (by decide +kernel)) (pi_list (pv 8)) (blkOk_by (N := ["rows", "known", "found", "row", "others", "other", "real", "mine", "free", "worth", "some"]) (sc := defScope s__law_candidates) (by decide +kernel)) (fun _ _ _ _ _ => (pg_name (i := 5) nd rfl (by first | exact Or.inl rfl | exact Or.inr rfl))) (fun _ _ _ _ _ => (pts_one (pt_cmpR op_le (pe_ix (ix_tupK (K := K) rfl) (pv 5) pe_int (fun _ _ => rfl)) (pe_ix (ix_tupK (K := K) rfl) (pv 3) pe_int (fun _ _ => rfl)) (nomark _)))) (fun _ _ _ _ _ => (pv 5)))
  (pss_one (ps_expr (pe_bm PySem.F.plainAttrs_list PySem.F.slot_list_append PySem.F.type_list_append mt_append (pv 2) (pa_cons (pe_tup (pa_cons (pe_callB (cr_sum rfl) (by rfl) T.b_sum (by decide +kernel) (pa_cons (pe_lc (own := [("other", 5)]) (g := gName 5) (tt := tYes) rfl nd (pi_list (pv 10)) (blkOk_by (N := ["rows", "known", "found", "row", "others", "other", "real", "mine", "free", "worth", "some"]) (sc := defScope s__law_candidates) (by decide +kernel)) (fun _ _ _ _ _ => (pg_name (i := 5) nd rfl (by first | exact Or.inl rfl | exact Or.inr rfl))) (fun _ _ _ _ _ => pts_nil) (fun _ _ _ _ _ => (pe_ix (ix_tupK (K := K) rfl) (pv 5) pe_int (fun _ _ => rfl)))) pa_nil)) (pa_cons (pe_ix (ix_tupK (K := K) rfl) (pv 3) pe_int (fun _ _ => rfl)) (pa_cons (pe_callB cr_sortedS (by rfl) T.b_sorted (by decide +kernel) (pa_cons (pe_lc (own := [("other", 5)]) (g := gName 5) (tt := tYes) rfl nd (pi_list (pv 10)) (blkOk_by (N := ["rows", "known", "found", "row", "others", "other", "real", "mine", "free", "worth", "some"]) (sc := defScope s__law_candidates) (by decide +kernel)) (fun _ _ _ _ _ => (pg_name (i := 5) nd rfl (by first | exact Or.inl rfl | exact Or.inr rfl))) (fun _ _ _ _ _ => pts_nil) (fun _ _ _ _ _ => (pe_ix (ix_tupK (K := K) rfl) (pv 5) pe_int (fun _ _ => rfl)))) pa_nil)) pa_nil)))) pa_nil)))))
    pss_nil))))))))
  (pss_one (ps_ret (pe_callB (cr_sortedData caD hr.units) (by rfl) T.b_sorted (by decide +kernel) (pa_cons (pv 2) pa_nil)))))), ?_⟩
    have tl := paired_len pr
    have hn := R.asc.nodup
    have n64 := R.len
    -- found
    refine ⟨fun σ' H' => ∃ M, σ' = [some (.ref L), some (.ref v), some (.ref M), none, none, none, none, none, none, none, none] ∧ H M = none ∧ LcSt H M [] [] H', ?_, ?_⟩
    · exact ⟨Nat.zero_le _, fun M hM => ⟨M, rfl, hM, Same.new hM, upd_same, [], .nil, .nil⟩⟩
    rintro σ1 H1 ⟨M, rfl, hM, S1⟩
    -- for row
    refine ⟨fun σ' H' => ∃ w3 w4 w6 w7 w8 w10 us, σ' = [some (.ref L), some (.ref v), some (.ref M), w3, w4, none, w6, w7, w8, none, w10] ∧ LcSt H M (dueL rs kn rs) us H', ?_, ?_⟩
    · refine ⟨_, rfl, L, rfl, ⟨_, SqL.of (S1.1 _ _ hL)⟩, for_list (xs := ts.map V.ref) (fun i σ' H' => ∃ w3 w4 w6 w7 w8 w10 us, σ' = [some (.ref L), some (.ref v), some (.ref M), w3, w4, none, w6, w7, w8, none, w10] ∧ LcSt H M (dueL rs kn (rs.take i)) us H') ⟨none, none, none, none, none, none, [], rfl, S1⟩ ?_ ?_ ?_⟩
      · rintro i σ' H' _ ⟨w3, w4, w6, w7, w8, w10, us, _, S⟩
        exact SqL.of (S.1 _ _ hL)
      · rintro i x σ' H2 ex ⟨w3, w4, w6, w7, w8, w10, us, rfl, S2⟩
        rw [List.getElem?_map] at ex
        cases ea : ts[i]? with
        | none => rw [ea] at ex; cases ex
        | some t =>
        rw [ea] at ex
        obtain rfl : V.ref t = x := Option.some.inj ex
        obtain ⟨r, er, ir⟩ := LiI.paired_get pr ea
        have mr := List.mem_of_getElem? er
        have it2 : RowAt H2 t r := S2.1 _ _ ir
        have tk : dueL rs kn (rs.take (i + 1)) = dueL rs kn (rs.take i) ++ (dueG rs kn r).map fun g => (r, g) := by
          rw [List.take_succ, er]
          unfold dueL
          rw [List.flatMap_append]
          simp
        rw [tk]
        have ll := due_len rs kn (rs.take i)
        rw [List.length_take] at ll
        have lus : us.length ≤ 128 := by rw [S2.len]; omega
        generalize dueL rs kn (rs.take i) = ps at S2 ll
        have pr2 : Paired (RowAt H2) ts rs := paired_imp (fun _ _ z => S2.1 _ _ z) pr
        have hL2 := S2.1 _ _ hL
        have lO : (rs.filter fun q => !decide (q.nm = r.nm)).length ≤ rs.length := List.length_filter_le _ _
        -- others
        refine ⟨fun σ' H' => ∃ O os, σ' = [some (.ref L), some (.ref v), some (.ref M), some (.ref t), some (.ref O), none, w6, w7, w8, none, w10] ∧ Same H2 H' ∧ H' O = some (.lst (os.map V.ref)) ∧ Paired (RowAt H') os (rs.filter fun q => !decide (q.nm = r.nm)), ?_, ?_⟩
        · refine ⟨_, rfl, L, rfl, ⟨_, SqL.of hL2⟩, fun D hD => ?_⟩
          refine rows_keep (fun q => !decide (q.nm = r.nm)) hL2 pr2 (by omega) hD (fun u q H' R0 R1 hq s iu k0 k1 => ?_) (fun os H' s eO pO => ⟨D, os, rfl, s, eO, pO⟩)
          have at1 := SqT.of (K := K) iu
          have at2 := SqT.of (K := K) (s _ _ it2)
          refine ⟨rfl, _, rfl, u, _, _, _, rfl, rfl, at1, rfl, _, rfl, t, _, _, _, rfl, rfl, at2, rfl, rfl, _, rfl, ?_⟩
          by_cases c : q.nm = r.nm
          · rw [decide_eq_true (congrArg V.str c)]
            exact iteF (k0 (by rw [decide_eq_true c]; rfl) _ (Same.refl _))
          · rw [decide_eq_false (fun e => c (V.str.inj e))]
            exact iteT ⟨_, rfl, k1 (by rw [decide_eq_false c]; rfl) _ (Same.refl _)⟩
        rintro σ3 H3 ⟨O, os, rfl, s23, eO, pO⟩
        have it3 := s23 _ _ it2
        have st3 := S2.same s23
        have hv3 := st3.1 _ _ hv
        -- real
        refine ⟨fun σ' H' => ∃ X, σ' = [some (.ref L), some (.ref v), some (.ref M), some (.ref t), some (.ref O), none, some (.ref X), w7, w8, none, w10] ∧ Same H3 H' ∧ H' X = some (.lst ((((rs.filter fun q => !decide (q.nm = r.nm)).map (tellR kn)).map fun q => q.lo).map V.int)) ∧ X ≠ M, ?_, ?_⟩
        · refine ⟨_, rfl, _, rfl, O, v, os, rs.filter fun q => !decide (q.nm = r.nm), kn, rfl, eO, pO, (List.filter_sublist.map _).nodup hn, by omega, hv3, fun q hq z ez => ?_, fun N ns H4 hN s4 eN pN => ?_⟩
          · have mq := (List.mem_filter.mp hq).1
            have z2 := le q mq
            have m2 : q.nm ∈ kn.map (·.1) := by
              refine Classical.byContradiction fun c => ?_
              have := List.lookup_eq_none_iff.mpr (fun p hp => by
                refine bne_iff_ne.mpr fun e => c (List.mem_map.mpr ⟨p, hp, e.symm⟩)) |> (fun (h : kn.lookup q.nm = none) => h)
              rw [this] at ez
              cases ez
            obtain ⟨q2, hq2, e2⟩ := List.mem_map.mp (V4.pm.mem_iff.mp m2)
            have o2 := List.mem_filter.mp hq2
            have e3 : q2 = q := name_inj hn o2.1 mq e2
            subst e3
            have c : q2.lo ≠ q2.hi := by simpa using o2.2
            omega
          refine ⟨N, rfl, ⟨_, SqL.of eN⟩, fun D hD => ?_⟩
          refine rows_vals (fun _ => true) (fun q => .int q.lo) eN pN (by rw [List.length_map]; omega) hD (fun u q H' R0 R1 hq s iu k0 k1 => ⟨rfl, yesT ⟨_, rfl, u, _, _, _, rfl, rfl, SqT.of (K := K) iu, rfl, k1 rfl _ (Same.refl _)⟩⟩) (fun H5 s5 e5 => ?_)
          rw [all_keep] at e5
          refine ⟨D, rfl, s4.trans s5, ?_, fun e => ?_⟩
          · rw [e5]
            simp only [List.map_map]
            rfl
          · have z := (st3.same s4).2.1
            rw [← e, hD] at z
            cases z
        rintro σ4 H4 ⟨X, rfl, s34, eX, XM⟩
        have st4 := st3.same s34
        have it4 := s34 _ _ it3
        have hv4 := s34 _ _ hv3
        -- mine
        refine ⟨fun σ' H' => σ' = [some (.ref L), some (.ref v), some (.ref M), some (.ref t), some (.ref O), none, some (.ref X), some (.int (valOf kn r)), w8, none, w10] ∧ H' = H4, ?_, ?_⟩
        · refine ⟨_, rfl, v, rfl, .inl ⟨kents kn, .inl hv4⟩, _, rfl, t, _, _, _, rfl, rfl, SqT.of it4, rfl, _, rfl, t, _, _, _, rfl, rfl, SqT.of it4, rfl, (kn.lookup r.nm).map V.int, ?_, ?_⟩
          · rw [← kents_look]
            exact DGet.k (k := Sum.inr r.nm) hv4
          · have e : (Option.map V.int (kn.lookup r.nm)).getD (.int r.lo) = .int (valOf kn r) := by
              unfold valOf
              cases kn.lookup r.nm <;> rfl
            rw [e]
            exact ⟨rfl, rfl⟩
        rintro σ5 H5 ⟨rfl, rfl⟩
        generalize hmn : valOf kn r = mn
        -- free
        refine ⟨fun σ' H' => ∃ F fs, σ' = [some (.ref L), some (.ref v), some (.ref M), some (.ref t), some (.ref O), none, some (.ref X), some (.int mn), some (.ref F), none, w10] ∧ Same H5 H' ∧ H' F = some (.lst (fs.map V.ref)) ∧ Paired (RowAt H') fs (freO rs r) ∧ F ≠ M, ?_, ?_⟩
        · refine ⟨_, rfl, O, rfl, ⟨_, SqL.of (s34 _ _ eO)⟩, fun D hD => ?_⟩
          refine rows_keep (fun q => decide (q.lo < q.hi)) (s34 _ _ eO) (paired_imp (fun _ _ z => s34 _ _ z) pO) (by omega) hD (fun u q H' R0 R1 hq s iu k0 k1 => ?_) (fun fs H' s eF pF => ⟨D, fs, rfl, s, eF, pF, fun e => ?_⟩)
          · have at1 := SqT.of (K := K) iu
            refine ⟨rfl, _, rfl, u, _, _, _, rfl, rfl, at1, rfl, _, rfl, u, _, _, _, rfl, rfl, at1, rfl, _, _, rfl, rfl, _, rfl, ?_⟩
            cases c : decide (q.lo < q.hi) with
            | true => exact iteT ⟨_, rfl, k1 c _ (Same.refl _)⟩
            | false => exact iteF (k0 c _ (Same.refl _))
          · have z := st4.2.1
            rw [← e, hD] at z
            cases z
        rintro σ6 H6 ⟨F, fs, rfl, s56, eF, pF, FM⟩
        have st6 := st4.same s56
        have it6 := s56 _ _ it4
        have eX6 := s56 _ _ eX
        have lF : (freO rs r).length ≤ rs.length := Nat.le_trans (List.length_filter_le _ _) lO
        have lF2 : (freO rs r).length + 1 < 64 + 1 := by omega
        have lFs : (freO rs r).length < rs.length := by
          have z : (rs.filter fun q => !decide (q.nm = r.nm)).length < rs.length := by
            rw [List.length_filter_lt_length_iff_exists]
            exact ⟨r, mr, by simp⟩
          exact Nat.lt_of_le_of_lt (List.length_filter_le _ _) z
        unfold dueG
        rw [hmn]
        -- the one that knows its value
        refine ⟨fun σ' H' => ∃ w10 us, σ' = [some (.ref L), some (.ref v), some (.ref M), some (.ref t), some (.ref O), none, some (.ref X), some (.int mn), some (.ref F), none, w10] ∧ LcSt H M (ps ++ (if minP rs kn r mn = true then [askA rs r mn] else []).map fun g => (r, g)) us H' ∧ us.length ≤ 129 ∧ But M H6 H', ?_, ?_⟩
        · refine ⟨_, rfl, X, rfl, ⟨_, SqL.of eX6⟩, fun D hD => ?_⟩
          refine ints_comp (fun n => .bl (decide (mn ≤ n))) eX6 (by rw [List.length_map, List.length_map]; omega) hD (fun n H' R1 s k1 => ⟨rfl, _, rfl, _, rfl, _, _, rfl, rfl, k1 _ (Same.refl _)⟩) (fun H7 s7 e7 => ?_)
          refine ⟨D, ((((rs.filter fun q => !decide (q.nm = r.nm)).map (tellR kn)).map fun q => q.lo).map fun n => decide (mn ≤ n)), rfl, SqL.of (by rw [e7]; simp only [List.map_map]; rfl), _, rfl, ?_⟩
          rw [real_all V4 r fun n => decide (mn ≤ n)]
          change ite (minP rs kn r mn = true) _ _
          have st7 := st6.same s7
          cases c : minP rs kn r mn with
          | false => exact iteF ⟨w10, us, rfl, by rw [if_neg (by decide), List.map_nil, List.append_nil]; exact st7, by omega, fun b o _ e => s7 _ _ e⟩
          | true =>
            rw [if_pos rfl, if_pos rfl]
            have it7 := s7 _ _ it6
            have eF7 := s7 _ _ eF
            have pF7 : Paired (RowAt H7) fs (freO rs r) := paired_imp (fun _ _ z => s7 _ _ z) pF
            -- some
            refine ⟨fun σ' H' => ∃ G gs, σ' = [some (.ref L), some (.ref v), some (.ref M), some (.ref t), some (.ref O), none, some (.ref X), some (.int mn), some (.ref F), none, some (.ref G)] ∧ Same H7 H' ∧ H' G = some (.lst (gs.map V.ref)) ∧ Paired (RowAt H') gs (((freO rs r).filter fun q => decide (q.lo ≤ mn)) ++ (if r.lo < r.hi then [r] else [])), ?_, ?_⟩
            · refine ⟨_, rfl, F, rfl, ⟨_, SqL.of eF7⟩, fun D8 hD8 => ?_⟩
              refine rows_keep (fun q => decide (q.lo ≤ mn)) eF7 pF7 (by omega) hD8 (fun u q H' R0 R1 hq s iu k0 k1 => ?_) (fun gs H' s eG pG => ?_)
              · have at1 := SqT.of (K := K) iu
                refine ⟨rfl, _, rfl, u, _, _, _, rfl, rfl, at1, rfl, _, rfl, _, _, rfl, rfl, _, rfl, ?_⟩
                cases c : decide (q.lo ≤ mn) with
                | true => exact iteT ⟨_, rfl, k1 c _ (Same.refl _)⟩
                | false => exact iteF (k0 c _ (Same.refl _))
              have it8 := s _ _ it7
              have gsl : gs.length ≤ 64 := by
                rw [paired_len pG]
                exact Nat.le_trans (List.length_filter_le _ _) (by omega)
              refine ⟨_, rfl, t, _, _, _, rfl, rfl, SqT.of it8, rfl, _, rfl, t, _, _, _, rfl, rfl, SqT.of it8, rfl, _, _, rfl, rfl, _, rfl, ?_⟩
              by_cases c2 : r.lo < r.hi
              · rw [decide_eq_true c2, if_pos c2]
                refine iteT ⟨_, rfl, by show 1 ≤ sizeLine; decide, fun n1 hn1 => ?_⟩
                have sn := Same.new hn1 (o := .lst [.ref t])
                refine ⟨D8, n1, _, _, rfl, rfl, sn _ _ eG, upd_same, by rw [List.length_map, sizeLine_eq]; show _ + 1 ≤ _; omega, fun n2 hn2 => ?_⟩
                have s2n := (s.trans sn).trans (Same.new hn2 (o := .lst (gs.map V.ref ++ [.ref t])))
                refine ⟨n2, gs ++ [t], rfl, s2n, by rw [upd_same, List.map_append]; rfl, paired_snoc (paired_imp (fun _ _ z => (sn.trans (Same.new hn2)) _ _ z) pG) ((s2n) _ _ it7)⟩
              · rw [decide_eq_false c2, if_neg c2]
                refine iteF ⟨Nat.zero_le _, fun n1 hn1 => ?_⟩
                have sn := Same.new hn1 (o := .lst [])
                refine ⟨D8, n1, _, _, rfl, rfl, sn _ _ eG, upd_same, by rw [List.length_map, sizeLine_eq]; show _ + 0 ≤ _; omega, fun n2 hn2 => ?_⟩
                rw [List.append_nil]
                have s2n := (s.trans sn).trans (Same.new hn2 (o := .lst (gs.map V.ref ++ [])))
                rw [List.append_nil] at s2n ⊢
                refine ⟨n2, gs, rfl, s2n, upd_same, paired_imp (fun _ _ z => (sn.trans (Same.new hn2)) _ _ z) pG⟩
            rintro σ8 H8 ⟨G, gs, rfl, s78, eG, pG⟩
            have st8 := st7.same s78
            have lG : (((freO rs r).filter fun q => decide (q.lo ≤ mn)) ++ (if r.lo < r.hi then [r] else [])).length ≤ (freO rs r).length + 1 := by
              rw [List.length_append]
              have z := List.length_filter_le (fun q : Rw => decide (q.lo ≤ mn)) (freO rs r)
              have z2 : (if r.lo < r.hi then [r] else []).length ≤ 1 := by split <;> simp
              omega
            refine ⟨_, rfl, .inl ⟨rfl, _, SqL.of st8.2.1⟩, _, rfl, G, rfl, ⟨_, SqL.of eG⟩, fun D1 hD1 => ?_⟩
            refine rows_vals (fun _ => true) (fun q => .int q.pr) eG pG (by omega) hD1 (fun u q H' R0 R1 hq s iu k0 k1 => ⟨rfl, yesT ⟨_, rfl, u, _, _, _, rfl, rfl, SqT.of (K := K) iu, rfl, k1 rfl _ (Same.refl _)⟩⟩) (fun H11 s11 e11 => ?_)
            rw [all_keep] at e11
            refine ⟨D1, (((freO rs r).filter fun q => decide (q.lo ≤ mn)) ++ (if r.lo < r.hi then [r] else [])).map (·.pr), rfl, SqL.of (by rw [List.map_map]; exact e11), _, rfl, t, _, _, _, rfl, rfl, SqT.of (s11 _ _ (s78 _ _ it7)), rfl, _, rfl, G, rfl, ⟨_, SqL.of (s11 _ _ eG)⟩, fun D2 hD2 => ?_⟩
            refine rows_vals (fun _ => true) (fun q => .str q.nm) (s11 _ _ eG) (paired_imp (fun _ _ z => s11 _ _ z) pG) (by omega) hD2 (fun u q H' R0 R1 hq s iu k0 k1 => ⟨rfl, yesT ⟨_, rfl, u, _, _, _, rfl, rfl, SqT.of (K := K) iu, rfl, k1 rfl _ (Same.refl _)⟩⟩) (fun H12 s12 e12 => ?_)
            rw [all_keep] at e12
            refine ⟨D2, (((freO rs r).filter fun q => decide (q.lo ≤ mn)) ++ (if r.lo < r.hi then [r] else [])).map (·.nm), rfl, SqL.of (by rw [List.map_map]; exact e12), by rw [List.length_map]; omega, fun zs p pm so hp0 => ⟨by show 3 ≤ sizeLine; decide, fun t' ht' => ?_⟩⟩
            have s13 := (s11.trans s12).trans ((Same.new hp0 (o := .lst (zs.map V.str))).trans (Same.new ht' (o := .tup [.int (pSum (((freO rs r).filter fun q => decide (q.lo ≤ mn)) ++ (if r.lo < r.hi then [r] else []))), .str r.nm, .ref p])))
            have st13 := st8.same s13
            have pM : p ≠ M := fun e => by
              have z := (st8.same (s11.trans s12)).2.1
              rw [← e, hp0] at z
              cases z
            have hpH : H p = none := (st8.1.trans (s11.trans s12)).free hp0
            have cl : CaL (upd (upd H12 p (.lst (zs.map V.str))) t' (.tup [.int (pSum (((freO rs r).filter fun q => decide (q.lo ≤ mn)) ++ (if r.lo < r.hi then [r] else []))), .str r.nm, .ref p])) t' p (pSum (((freO rs r).filter fun q => decide (q.lo ≤ mn)) ++ (if r.lo < r.hi then [r] else [])), r.nm, zs) := ⟨upd_same, Same.new ht' _ _ upd_same⟩
            refine ⟨M, _, .ref t', rfl, rfl, st13.2.1, by rw [List.length_map, sizeLine_eq]; omega, ?_⟩
            refine ⟨some (.ref G), us ++ [t'], rfl, st13.add hM cl hpH pM (CaOf.perm ⟨rfl, rfl, pm, so⟩ (ask_perm le mr mn)), by rw [List.length_append, List.length_singleton]; omega, fun b o hb e => ?_⟩
            rw [upd_ne hb]
            exact s13 _ _ (s78 _ _ (s7 _ _ e))
        rintro σ7 H7 ⟨w10, us, rfl, st7, l7, b67⟩
        have it7 : RowAt H7 t r := st7.1 _ _ ir
        have eX7 := b67 _ _ XM eX6
        have eF7 := b67 _ _ FM eF
        have pF7 : Paired (RowAt H7) fs (freO rs r) := paired_imp (fun _ _ z => b67 _ _ (fun e => by rw [e] at z; have z : H6 M = _ := z; rw [st6.2.1] at z; cases z) z) pF
        rw [List.map_append, ← List.append_assoc]
        generalize ps ++ (if minP rs kn r mn = true then [askA rs r mn] else []).map (fun g => (r, g)) = ps2 at st7
        have at7 := SqT.of (K := K) it7
        refine ⟨_, rfl, t, _, _, _, rfl, rfl, at7, rfl, _, rfl, t, _, _, _, rfl, rfl, at7, rfl, _, _, rfl, rfl, _, rfl, ?_⟩
        have lr := le r mr
        by_cases c0 : r.lo < r.hi
        · rw [decide_eq_true c0, decide_eq_false (show ¬ r.lo = r.hi by omega), Bool.not_false, Bool.true_and]
          refine iteT ⟨_, rfl, X, rfl, ⟨_, SqL.of eX7⟩, fun D hD => ?_⟩
          refine ints_comp (fun n => .bl (decide (r.hi < n))) eX7 (by rw [List.length_map, List.length_map]; omega) hD (fun n H' R1 s k1 => ⟨rfl, _, rfl, t, _, _, _, rfl, rfl, SqT.of (K := K) (s _ _ it7), rfl, _, rfl, _, _, rfl, rfl, k1 _ (Same.refl _)⟩) (fun H8 s8 e8 => ?_)
          refine ⟨D, ((((rs.filter fun q => !decide (q.nm = r.nm)).map (tellR kn)).map fun q => q.lo).map fun n => decide (r.hi < n)), rfl, SqL.of (by rw [e8]; simp only [List.map_map]; rfl), _, rfl, ?_⟩
          rw [real_all V4 r fun n => decide (r.hi < n)]
          change ite (lessP rs kn r = true) _ _
          have st8 := st7.same s8
          cases c : lessP rs kn r with
          | false => exact iteF ⟨_, _, _, _, _, _, us, rfl, by rw [if_neg (by decide), List.map_nil, List.append_nil]; exact st8⟩
          | true =>
            rw [if_pos rfl, if_pos rfl]
            have it8 := s8 _ _ it7
            have eF8 := s8 _ _ eF7
            have pF8 : Paired (RowAt H8) fs (freO rs r) := paired_imp (fun _ _ z => s8 _ _ z) pF7
            refine ⟨fun σ' H' => ∃ G gs, σ' = [some (.ref L), some (.ref v), some (.ref M), some (.ref t), some (.ref O), none, some (.ref X), some (.int mn), some (.ref F), none, some (.ref G)] ∧ Same H8 H' ∧ H' G = some (.lst (gs.map V.ref)) ∧ Paired (RowAt H') gs ((freO rs r).filter fun q => decide (q.lo ≤ r.hi)), ?_, ?_⟩
            · refine ⟨_, rfl, F, rfl, ⟨_, SqL.of eF8⟩, fun D8 hD8 => ?_⟩
              refine rows_keep (fun q => decide (q.lo ≤ r.hi)) eF8 pF8 (by omega) hD8 (fun u q H' R0 R1 hq s iu k0 k1 => ?_) (fun gs H' s eG pG => ⟨D8, gs, rfl, s, eG, pG⟩)
              have at1 := SqT.of (K := K) iu
              refine ⟨rfl, _, rfl, u, _, _, _, rfl, rfl, at1, rfl, _, rfl, t, _, _, _, rfl, rfl, SqT.of (K := K) (s _ _ it8), rfl, _, _, rfl, rfl, _, rfl, ?_⟩
              cases c : decide (q.lo ≤ r.hi) with
              | true => exact iteT ⟨_, rfl, k1 c _ (Same.refl _)⟩
              | false => exact iteF (k0 c _ (Same.refl _))
            rintro σ9 H9 ⟨G, gs, rfl, s89, eG, pG⟩
            have st9 := st8.same s89
            have lG : ((freO rs r).filter fun q => decide (q.lo ≤ r.hi)).length ≤ (freO rs r).length := List.length_filter_le _ _
            refine ⟨_, rfl, .inl ⟨rfl, _, SqL.of st9.2.1⟩, _, rfl, G, rfl, ⟨_, SqL.of eG⟩, fun D1 hD1 => ?_⟩
            refine rows_vals (fun _ => true) (fun q => .int q.pr) eG pG (by omega) hD1 (fun u q H' R0 R1 hq s iu k0 k1 => ⟨rfl, yesT ⟨_, rfl, u, _, _, _, rfl, rfl, SqT.of (K := K) iu, rfl, k1 rfl _ (Same.refl _)⟩⟩) (fun H11 s11 e11 => ?_)
            rw [all_keep] at e11
            refine ⟨D1, ((freO rs r).filter fun q => decide (q.lo ≤ r.hi)).map (·.pr), rfl, SqL.of (by rw [List.map_map]; exact e11), _, rfl, t, _, _, _, rfl, rfl, SqT.of (s11 _ _ (s89 _ _ it8)), rfl, _, rfl, G, rfl, ⟨_, SqL.of (s11 _ _ eG)⟩, fun D2 hD2 => ?_⟩
            refine rows_vals (fun _ => true) (fun q => .str q.nm) (s11 _ _ eG) (paired_imp (fun _ _ z => s11 _ _ z) pG) (by omega) hD2 (fun u q H' R0 R1 hq s iu k0 k1 => ⟨rfl, yesT ⟨_, rfl, u, _, _, _, rfl, rfl, SqT.of (K := K) iu, rfl, k1 rfl _ (Same.refl _)⟩⟩) (fun H12 s12 e12 => ?_)
            rw [all_keep] at e12
            refine ⟨D2, ((freO rs r).filter fun q => decide (q.lo ≤ r.hi)).map (·.nm), rfl, SqL.of (by rw [List.map_map]; exact e12), by rw [List.length_map]; omega, fun zs p pm so hp0 => ⟨by show 3 ≤ sizeLine; decide, fun t' ht' => ?_⟩⟩
            have s13 := (s11.trans s12).trans ((Same.new hp0 (o := .lst (zs.map V.str))).trans (Same.new ht' (o := .tup [.int (pSum ((freO rs r).filter fun q => decide (q.lo ≤ r.hi))), .str r.nm, .ref p])))
            have st13 := st9.same s13
            have pM : p ≠ M := fun e => by
              have z := (st9.same (s11.trans s12)).2.1
              rw [← e, hp0] at z
              cases z
            have hpH : H p = none := (st9.1.trans (s11.trans s12)).free hp0
            have cl : CaL (upd (upd H12 p (.lst (zs.map V.str))) t' (.tup [.int (pSum ((freO rs r).filter fun q => decide (q.lo ≤ r.hi))), .str r.nm, .ref p])) t' p (pSum ((freO rs r).filter fun q => decide (q.lo ≤ r.hi)), r.nm, zs) := ⟨upd_same, Same.new ht' _ _ upd_same⟩
            refine ⟨M, _, .ref t', rfl, rfl, st13.2.1, by rw [List.length_map, sizeLine_eq]; omega, ?_⟩
            exact ⟨_, _, _, _, _, _, us ++ [t'], rfl, st13.add hM cl hpH pM (CaOf.perm ⟨rfl, rfl, pm, so⟩ (reach_perm le r r.hi))⟩
        · rw [decide_eq_false c0, decide_eq_true (show r.lo = r.hi by omega), Bool.not_true, Bool.false_and]
          exact iteF (iteF ⟨_, _, _, _, _, _, us, rfl, by rw [if_neg (by decide), List.map_nil, List.append_nil]; exact st7⟩)
      · rintro σ' H' ⟨w3, w4, w6, w7, w8, w10, us, rfl, S⟩
        rw [List.length_map, tl, List.take_length] at S
        exact ⟨w3, w4, w6, w7, w8, w10, us, rfl, S⟩
    rintro σ2 H2 ⟨w3, w4, w6, w7, w8, w10, us, rfl, S2, eM, cs, pc, pt⟩
    refine ⟨_, rfl, M, us, cs, rfl, SqL.of eM, paired_imp (fun t c ⟨l, z1, _⟩ => CaAt.dp ⟨l, z1⟩) pt, ca_alikeAll cs, ca_sortable cs, fun b _ => ca_depth b, fun zs D pu hD => ?_⟩
    have pu : Paired (fun t b => (t, b) ∈ us.zip cs) zs (srtC cs) := pu
    have S3 := Same.new hD (o := .lst (zs.map V.ref))
    refine k D zs cs _ (S2.trans S3) (S2.free hD) upd_same pc (paired_imp (fun t b h1 => ?_) pu)
    obtain ⟨j, hj⟩ := List.mem_iff_getElem?.mp h1
    obtain ⟨e1, e2⟩ := List.getElem?_zip_eq_some.mp hj
    obtain ⟨c', ec, l, z1, z2, _⟩ := LiI.paired_get pt e1
    rw [e2] at ec
    cases ec
    exact ⟨l, z1.same S3, z2⟩
end
end Ask

set_option Elab.async false
set_option linter.all false
set_option maxRecDepth 100000
set_option maxHeartbeats 4000000
set_option pp.deepTerms false
set_option pp.deepTerms.threshold 14
namespace Ask
open PySem L2
open PyProof.Rows
section
variable {P : Program} {w : World} {K : PySem.W.Frag} {mg : Str → Option Value} {base : Heap} {a : Ad}
def spLTold : Sp := fun vs H Q _ => ∃ (L v : Addr) (ts : List Addr) (rs : List Rw) (kn : List (Str × Int)), vs = [.ref L, .ref v] ∧ H L = some (.lst (List.map V.ref ts)) ∧ Paired (RowAt H) ts rs ∧ (rs.map (·.nm)).Nodup ∧ rs.length < 64 ∧ H v = some (.dK (kents kn)) ∧ (∀ p ∈ kn, p.1 ∈ openN rs) ∧ (∀ r ∈ rs, r.lo ≤ r.hi) ∧
  ∀ M us H', H M = none → Same H H' → H' M = some (.lst (List.map V.ref us)) → Paired (RowAt H') us (rs.map (tellR kn)) → Q (.ref M) H'
theorem ok_ltold (T : Txt K mg a) : FnOk P w K mg base CX0 2 a.f__law_told a.d__law_told ["rows", "known"] spLTold := by
  refine T.F__law_told.ok sc__law_told (fun vs H Q E h => ?_) (fun cdv A outer s H vs Q E hr h => ?_)
  · obtain ⟨L, v, ts, rs, kn, rfl, _⟩ := h
    rfl
  · obtain ⟨L, v, ts, rs, kn, rfl, hL, pr, ndr, n64, hv, V4, le, k⟩ := h
    have nd := sc__law_told.nd
    have tl : ts.length = rs.length := paired_len pr
    refine ⟨_, (Evl.pss_cut (ps_set (i := 2) nd rfl (by first | exact Or.inl rfl | exact Or.inr rfl) (pe_lst pa_nil))
  (Evl.pss_cut (ps_for PassesOwn.never rfl (pi_list (pv 0)) (pg_name (i := 3) nd rfl (by first | exact Or.inl rfl | exact Or.inr rfl))
    (pss_one (ps_expr (pe_bm PySem.F.plainAttrs_list PySem.F.slot_list_append PySem.F.type_list_append mt_append (pv 2) (pa_cons (pe_ifExp (PW.pt (pw_and (pt_cmp (pc_din (hu_of hr) (pe_ix ix_tup (pv 3) pe_int (fun _ _ => rfl)) (pv 1))) (pw_and1 (pt_cmpR op_lt (pe_ix ix_tup (pv 3) pe_int (fun _ _ => rfl)) (pe_ix ix_tup (pv 3) pe_int (fun _ _ => rfl)) (nomark _))))) (pe_tup (pa_cons (pe_ix ix_tup (pv 3) pe_int (fun _ _ => rfl)) (pa_cons (pe_dget (hu_of hr) (pv 1) (pe_ix ix_tup (pv 3) pe_int (fun _ _ => rfl)) (fun _ _ => rfl)) (pa_cons (pe_dget (hu_of hr) (pv 1) (pe_ix ix_tup (pv 3) pe_int (fun _ _ => rfl)) (fun _ _ => rfl)) (pa_cons pe_int pa_nil))))) (pv 3)) pa_nil)))))
  (pss_one (ps_ret (pv 2))))), ?_⟩
    refine ⟨fun σ' H' => ∃ M, σ' = [some (.ref L), some (.ref v), some (.ref M), none] ∧ H M = none ∧ Same H H' ∧ H' M = some (.lst []), ?_, ?_⟩
    · exact ⟨Nat.zero_le _, fun M hM => ⟨M, rfl, hM, Same.new hM, upd_same⟩⟩
    rintro σ1 H1 ⟨M, rfl, hM, S1, eM⟩
    refine ⟨fun σ' H' => ∃ us w3, σ' = [some (.ref L), some (.ref v), some (.ref M), w3] ∧ Same H H' ∧ H' M = some (.lst (List.map V.ref us)) ∧ Paired (RowAt H') us (rs.map (tellR kn)), ?_, ?_⟩
    · refine ⟨_, rfl, L, rfl, ⟨_, SqL.of (S1 _ _ hL)⟩, for_list (xs := ts.map V.ref) (fun i σ' H' => ∃ us w3, σ' = [some (.ref L), some (.ref v), some (.ref M), w3] ∧ Same H H' ∧ H' M = some (.lst (List.map V.ref us)) ∧ Paired (RowAt H') us ((rs.take i).map (tellR kn))) ?_ ?_ ?_ ?_⟩
      · exact ⟨[], none, rfl, S1, eM, .nil⟩
      · rintro i σ' H' hi ⟨us, w3, rfl, S, _⟩
        exact SqL.of (S _ _ hL)
      · rintro i x σ' H2 hx ⟨us, w3, rfl, S, eU, pU⟩
        rw [List.getElem?_map] at hx
        cases eu : ts[i]? with
        | none => rw [eu] at hx; cases hx
        | some t =>
        rw [eu] at hx
        have ex : V.ref t = x := Option.some.inj hx
        subst ex
        obtain ⟨r, er, hr0⟩ := paired_get pr eu
        have il : i < rs.length := (List.getElem?_eq_some_iff.mp er).1
        have at2 := SqT.of (K := K) (S _ _ hr0)
        have ul : us.length = i := by
          have z := paired_len pU
          rw [List.length_map, List.length_take] at z
          omega
        have tk : (rs.take (i + 1)).map (tellR kn) = (rs.take i).map (tellR kn) ++ [tellR kn r] := by rw [take_snoc er, List.map_append]; rfl
        have rm : r ∈ rs := List.mem_of_getElem? er
        have gd : DGet H2 v (.str r.nm) ((kn.lookup r.nm).map V.int) := by
          rw [← kents_look]
          exact DGet.k (k := Sum.inr r.nm) (S _ _ hv)
        have few : (us.map V.ref).length < sizeLine := by rw [List.length_map, ul, sizeLine_eq]; omega
        refine ⟨_, rfl, .inl ⟨rfl, _, SqL.of eU⟩, ?_⟩
        refine ⟨_, rfl, t, _, _, _, rfl, rfl, at2, rfl, _, rfl, v, _, rfl, gd, _, rfl, ?_⟩
        cases e : kn.lookup r.nm with
        | none =>
          have et : tellR kn r = r := by unfold tellR; rw [e]
          refine ⟨_, rfl, M, _, _, rfl, rfl, eU, few, us ++ [t], _, rfl, Same.of S hM, by rw [upd_same, List.map_append]; rfl, ?_⟩
          rw [tk, et]
          have keep : ∀ {x y}, RowAt H2 x y → RowAt (upd H2 M (.lst (us.map V.ref ++ [.ref t]))) x y := fun {x y} z => by
            have n : x ≠ M := fun c => by
              unfold RowAt at z
              rw [c, eU] at z
              cases z
            unfold RowAt
            rw [upd_ne n]
            exact z
          exact Paired.snoc (paired_imp (fun _ _ z => keep z) pU) (keep (S _ _ hr0))
        | some z =>
          have ro := open_of_look ndr V4 rm e
          have lt := open_lt ro (le r rm)
          have et : tellR kn r = ⟨r.nm, z, z, 0⟩ := by unfold tellR; rw [e]
          rw [e] at gd
          have gd2 : DGet H2 v (.str r.nm) (some (.int z)) := gd
          rw [if_pos (show (Option.map V.int (some z)).isSome = true from rfl)]
          refine ⟨_, rfl, t, _, _, _, rfl, rfl, at2, rfl, _, rfl, t, _, _, _, rfl, rfl, at2, rfl, _, _, rfl, rfl, _, rfl, ?_⟩
          dsimp only
          rw [if_pos (by simpa using lt)]
          refine ⟨_, rfl, t, _, _, _, rfl, rfl, at2, rfl, _, rfl, _, rfl, t, _, _, _, rfl, rfl, at2, rfl, v, _, rfl, gd2, _, rfl, _, rfl, t, _, _, _, rfl, rfl, at2, rfl, v, _, rfl, gd2, by show 4 ≤ sizeLine; decide, fun u hu => ?_⟩
          have Mu : M ≠ u := fun c => by rw [← c, eU] at hu; cases hu
          have S2 := Same.grow S hu (o := .tup [.str r.nm, .int z, .int z, .int 0])
          refine ⟨M, _, _, rfl, rfl, by rw [upd_ne Mu]; exact eU, few, us ++ [u], _, rfl, Same.of S2 hM, by rw [upd_same, List.map_append]; rfl, ?_⟩
          rw [tk, et]
          refine Paired.snoc (paired_imp (fun x y w => ?_) pU) ?_
          · have n1 : x ≠ M := fun c => by
              unfold RowAt at w
              rw [c, eU] at w
              cases w
            have n2 : x ≠ u := fun c => by
              unfold RowAt at w
              rw [c, hu] at w
              cases w
            unfold RowAt
            rw [upd_ne n1, upd_ne n2]
            exact w
          · unfold RowAt
            rw [upd_ne Mu.symm, upd_same]
      · rintro σ' H2 ⟨us, w3, rfl, S, eU, pU⟩
        rw [List.length_map, tl, List.take_length] at pU
        exact ⟨us, w3, rfl, S, eU, pU⟩
    rintro σ2 H2 ⟨us, w3, rfl, S, eU, pU⟩
    exact ⟨_, rfl, k M us H2 hM S eU pU⟩
end
end Ask

set_option Elab.async false
set_option linter.all false
set_option maxRecDepth 100000
set_option maxHeartbeats 8000000
set_option pp.deepTerms false
set_option pp.deepTerms.threshold 14
namespace Ask
open PySem L2
open PyProof.Rows
section
variable {P : Program} {w : World} {K : PySem.W.Frag} {mg : Str → Option Value} {base : Heap} {a : Ad}
theorem PoolAt.but {C CI : Addr} {H H' : Hp} {x p : Addr} {n : Nat} {rs : List Rw} (h : PoolAt C CI H x rs) (b : But p H H') (hp : Pen H p n) : PoolAt C CI H' x rs := by
  obtain ⟨dx, d, as, h1, h2, h3⟩ := h
  refine ⟨dx, d, as, b _ _ (hp.ne h1 fun _ _ _ e => by cases e) h1, b _ _ (hp.ne h2 fun _ _ _ e => by cases e) h2, paired_imp (fun y r ⟨dy, hy⟩ => ⟨dy, b _ _ (hp.ne hy fun _ _ _ e => by cases e) hy⟩) h3⟩
theorem RowAt.but {H H' : Hp} {t p : Addr} {n : Nat} {r : Rw} (h : RowAt H t r) (b : But p H H') (hp : Pen H p n) : RowAt H' t r := b _ _ (hp.ne h fun _ _ _ e => by cases e) h
theorem known_sh {rs : List Rw} {kn : List (Str × Int)} (V4 : Vals4 rs kn) (rok : ∀ r ∈ rs, RowOk r) (few : rs.length ≤ 40) : Sh 60 sizeLine (.dict (((kents kn).map fun p => keyD p.1).zip (kn.map fun p => PyData.int p.2))) := by
  have kl : kn.length ≤ 40 := by
    have z := V4.pm.length_eq
    rw [List.length_map] at z
    have z2 := openN_len (rs := rs)
    omega
  have e : ((kents kn).map fun p => keyD p.1).zip (kn.map fun p => PyData.int p.2) = kn.map fun p => (PyData.str p.1, PyData.int p.2) := by
    clear V4 kl
    induction kn with
    | nil => rfl
    | cons q kn ih => exact congrArg ((PyData.str q.1, PyData.int q.2) :: ·) ih
  rw [e]
  refine (sh_dict (n := 0) (k := 40) (L := 20) (fun p hp => ?_) (by rw [List.length_map]; exact kl)).up (by decide) (by decide)
  obtain ⟨q, hq, rfl⟩ := List.mem_map.mp hp
  obtain ⟨r, hr, e1, e2, e3⟩ := V4.ok q hq
  have R := rok r hr
  have l1 := R.l1
  have l2 := R.l2
  exact ⟨sh_str (by show (PyData.str q.1).shown.length ≤ 20; rw [← e1]; exact R.sh), (sh_int (by omega)).up (Nat.le_refl _) (by decide)⟩
end
end Ask

set_option Elab.async false
set_option linter.all false
set_option maxRecDepth 100000
set_option maxHeartbeats 4000000
namespace Ask
open PySem L2 LamX
open PyProof.Rows
/-! what a walk leaves as it was: all but tables -/
theorem PenL.ext {l p : Addr} {H H' : Hp} {n : Nat} (h : PenL l H p n) (s : ExtN H H') : PenL l H' p n := by
  obtain ⟨⟨l', i, v, ns, h1, h2, h3⟩, i', v', z⟩ := h
  exact ⟨⟨l', i, v, ns, s _ _ h1 (fun _ z => by cases z), s _ _ h2 (fun _ z => by cases z), h3⟩, i', v', s _ _ z fun _ z => by cases z⟩
theorem Sys.ext {H H' : Hp} (h : Sys H) (s : ExtN H H') : Sys H' := by
  obtain ⟨o, u, h⟩ := h
  exact ⟨o, u, s _ _ h fun _ z => by cases z⟩
theorem Sys.neN {H : Hp} {M : Addr} (h : Sys H) (n : NewN H M) : Far M := by
  obtain ⟨o, u, h⟩ := h
  exact beq_eq_false_iff_ne.mpr fun z => n _ _ h (fun _ z => by cases z) z.symm
theorem tabs_but {T : List (Addr × Str)} {l p : Addr} {H H' : Hp} {n : Nat} (t : Tabs T H) (hp : PenL l H p n) (b : But p H H') : Tabs T H' := fun q hq => by
  obtain ⟨i, v, z⟩ := hp.at_
  obtain ⟨ps, h1, h2, h3⟩ := t q hq
  refine ⟨ps, b _ _ (fun e => by rw [e, z] at h1; cases h1) h1, h2, fun pos cv hc => ?_⟩
  obtain ⟨c, e1, e2⟩ := h3 pos cv hc
  exact ⟨c, e1, b _ _ (fun e => by rw [e, z] at e2; cases e2) e2⟩
end Ask

set_option Elab.async false
set_option linter.all false
set_option maxRecDepth 100000
set_option maxHeartbeats 8000000
set_option pp.deepTerms false
set_option pp.deepTerms.threshold 14
namespace Ask
open PySem L2 LamX
open PyProof.Rows
open PySem.W (dataLe)
/-! the law's check of one pool and its answers -/
section
variable {P : Program} {w : World} {K : PySem.W.Frag} {mg : Str → Option Value} {base : Heap} {a : Ad}
theorem tell_rows {rs : List Rw} {kn : List (Str × Int)} (R : RowsP rs) : RowsP (rs.map (tellR kn)) := by
  refine ⟨tellR_asc R.asc, fun r hr => ?_, by rw [List.length_map]; exact R.len⟩
  obtain ⟨q, hq, rfl⟩ := List.mem_map.mp hr
  rw [tellR_nm]
  exact R.nm q hq
theorem one_row : ∀ {qs : List Rw}, (qs.map (·.nm)).Nodup → ∀ {q : Rw}, q ∈ qs → qs.filter (fun x => decide (x.nm = q.nm)) = [q]
  | [], _, _, h => nomatch h
  | p :: qs, nd, q, h => by
    rw [List.map_cons, List.nodup_cons] at nd
    rcases List.mem_cons.mp h with rfl | h
    · rw [List.filter_cons, if_pos (by simp)]
      rw [List.filter_eq_nil_iff.mpr fun x hx c => nd.1 (List.mem_map.mpr ⟨x, hx, by simpa using c⟩)]
    · rw [List.filter_cons, if_neg (fun c => nd.1 (List.mem_map.mpr ⟨q, h, by simpa using Eq.symm (of_decide_eq_true c)⟩))]
      exact one_row nd.2 h
/-- the first sure one is as small as the candidate -/
theorem cand_least {rs : List Rw} {kn : List (Str × Int)} {S : List Str} (hn : (rs.map (·.nm)).Nodup) (V4 : Vals4 rs kn) (le : ∀ r ∈ rs, r.lo ≤ r.hi) {r : Rw} (mr : r ∈ rs) {g : List Rw} (hg : g ∈ dueG rs kn r) (sub : ∀ q ∈ g, q.nm ∈ S) :
    ∃ f ∈ rs, sureV (rs.map (tellR (pick kn S))) = .str f.nm ∧ valOf kn r ≤ valOf kn f := by
  have hs := cand_sure hn V4 le mr hg sub
  have m1 : tellR (pick kn S) r ∈ rs.map (tellR (pick kn S)) := List.mem_map.mpr ⟨r, mr, rfl⟩
  unfold sureV sureR
  cases e : (rs.map (tellR (pick kn S))).find? (sureP (rs.map (tellR (pick kn S)))) with
  | none => exact absurd hs (by simpa using List.find?_eq_none.mp e _ m1)
  | some f' =>
    obtain ⟨f, mf, rfl⟩ := List.mem_map.mp (List.mem_of_find?_eq_some e)
    have hf := List.find?_some e
    refine ⟨f, mf, by show V.str _ = _; rw [tellR_nm], ?_⟩
    by_cases ne : f.nm = r.nm
    · rw [name_inj hn mf mr ne]
      exact Int.le_refl _
    have z1 := sure_iff.mp hf _ m1 (by rw [tellR_nm, tellR_nm]; exact fun e => ne e.symm)
    have z2 := sure_iff.mp hs _ (List.mem_map.mpr ⟨f, mf, rfl⟩) (by rw [tellR_nm, tellR_nm]; exact ne)
    rw [below_iff] at z1 z2
    obtain ⟨_, tr⟩ := told_at (S := S) hn V4 mr
    obtain ⟨_, tf⟩ := told_at (S := S) hn V4 mf
    have vr := val_in hn V4 le mr
    have vf := val_in hn V4 le mf
    have l1 := le r mr
    have l2 := le f mf
    rcases tr with ⟨h1, h2, _⟩ | ⟨h, o, _⟩
    · rcases tf with ⟨k1, k2, _⟩ | ⟨k, o2, _⟩
      · rw [h1, h2, k1, k2] at z2
        omega
      · rw [h1, h2, k] at z1 z2
        omega
    · rcases tf with ⟨k1, k2, _⟩ | ⟨k, o2, _⟩
      · rw [h, k1, k2] at z1 z2
        omega
      · rw [h, k] at z1 z2
        omega
theorem rows_ext {H H' : Hp} {ts : List Addr} {rs : List Rw} (pr : Paired (RowAt H) ts rs) (x : ExtN H H') : Paired (RowAt H') ts rs := paired_imp (fun _ _ z => x _ _ z fun _ e => by cases e) pr
theorem Sys.nf {H : Hp} {b : Addr} {o : HO} (h : Sys H) (e : H b = some o) (n : ∀ a u, o ≠ .frz a u) : Far b := by
  obtain ⟨a, u, h⟩ := h
  exact beq_eq_false_iff_ne.mpr fun z => by
    rw [z, h] at e
    exact n a u (Option.some.inj e).symm
theorem ca_dq {H : Hp} {t l : Addr} {c : Ca} (sys : Sys H) (h : CaL H t l c) : Dq Far H 2 (.ref t) (caD c) := by
  have ft := sys.nf h.1 fun _ _ e => by cases e
  have fl := sys.nf h.2 fun _ _ e => by cases e
  exact .inr (.inr (.inl ⟨t, _, _, rfl, rfl, ft, h.1, .cons (Dq.flat (show FlatD (.int c.1) (.int c.1) from rfl) 1) (.cons (Dq.flat (show FlatD (.str c.2.1) (.str c.2.1) from rfl) 1) (.cons (strs_dq h.2 fl) .nil))⟩))
theorem ca_strOk {x : Str} (h : nameB x = true) : PyData.strOk x = true := by
  unfold nameB at h
  rw [Bool.and_eq_true] at h
  unfold PyData.strOk
  rw [← Array.all_toList, List.all_eq_true]
  intro c hc
  have z := (List.all_eq_true.mp h.2) c hc
  unfold signB at z
  rw [Bool.and_eq_true, decide_eq_true_eq, decide_eq_true_eq] at z
  exact decide_eq_true (by omega)
def casD (cs : List Ca) : PyData := .list (cs.map caD)
theorem cas_dq {H : Hp} {D : Addr} {us : List Addr} {cs : List Ca} (sys : Sys H) (hD : H D = some (.lst (us.map V.ref))) (p : Paired (fun t c => ∃ l, CaL H t l c) us cs) : Dq Far H 3 (.ref D) (casD cs) := by
  refine .inr (.inl ⟨D, us.map V.ref, cs.map caD, rfl, rfl, sys.nf hD (fun _ _ e => by cases e), hD, ?_⟩)
  clear hD
  induction p with
  | nil => exact .nil
  | cons h _ ih =>
    obtain ⟨l, h⟩ := h
    exact .cons (ca_dq sys h) ih
theorem ca_sh6 {rs : List Rw} (hn : (rs.map (·.nm)).Nodup) (rok : ∀ r ∈ rs, RowOk r) (len : rs.length ≤ 6) {kn : List (Str × Int)} {qs : List Rw} (hq : ∀ q ∈ qs, q ∈ rs) {cs : List Ca} (h : Paired CaOf2 (dueL rs kn qs) cs) {c : Ca} (hc : c ∈ cs) : Sh 3 1000 (caD c) := by
  obtain ⟨p, hp, h1, h2, h3, _⟩ := paired_memR h c hc
  obtain ⟨m1, m2⟩ := dueL_mem hp
  obtain ⟨g1, g2⟩ := due_in hn (hq _ m1) m2
  have z := ca_small (n := 6) (xs := p.2.map (·.pr)) (fun x hx => by
    obtain ⟨r, hr, rfl⟩ := List.mem_map.mp hx
    exact ca_price (rok r (g1 r hr))) (by rw [List.length_map]; omega)
  have e1 : c.1 = (p.2.map (·.pr)).sum := h1
  have shn : ∀ x ∈ c.2.2, (PyData.str x).shown.length ≤ 20 := fun x hx => by
    obtain ⟨r, hr, rfl⟩ := List.mem_map.mp (h3.mem_iff.mp hx)
    exact (rok r (g1 r hr)).sh
  have l3 : c.2.2.length ≤ 6 := by
    have z := h3.length_eq
    rw [List.length_map] at z
    omega
  refine (sh_tup (n := 2) (k := 3) (L := 200) (fun d hd => ?_) (by show 3 ≤ 3; decide)).up (by decide) (by decide)
  simp only [List.mem_cons, List.not_mem_nil, or_false] at hd
  rcases hd with rfl | rfl | rfl
  · exact (sh_int (by omega)).up (by decide) (by decide)
  · refine (sh_str (L := 20) ?_).up (by decide) (by decide)
    rw [h2]
    exact (rok _ (hq _ m1)).sh
  · refine (sh_list (n := 0) (k := 6) (L := 20) (fun d hd => ?_) (by rw [List.length_map]; exact l3)).up (by decide) (by decide)
    obtain ⟨x, hx, rfl⟩ := List.mem_map.mp hd
    exact sh_str (shn x hx)
theorem cas_sh {rs : List Rw} (hn : (rs.map (·.nm)).Nodup) (rok : ∀ r ∈ rs, RowOk r) (len : rs.length ≤ 6) {kn : List (Str × Int)} {qs : List Rw} (hq : ∀ q ∈ qs, q ∈ rs) (ql : qs.length ≤ 6) {cs : List Ca} (h : Paired CaOf2 (dueL rs kn qs) cs) : Sh 60 sizeLine (casD (srtC cs)) := by
  refine (sh_list (n := 3) (k := 12) (L := 1000) (fun d hd => ?_) ?_).up (by decide) (by decide)
  · obtain ⟨c, hc, rfl⟩ := List.mem_map.mp hd
    exact ca_sh6 hn rok len hq h (srtC_mem.mp hc)
  · have z := due_len rs kn qs
    rw [paired_len h] at z
    rw [List.length_map, srtC_len]
    omega
def spRight34 (a : Ad) : Sp := fun vs H Q _ => ∃ (L y v : Addr) (ts : List Addr) (rs : List Rw) (kn : List (Str × Int)), vs = [.ref L, .ref y, .ref v] ∧ Asc rs ∧ H L = some (.lst (List.map V.ref ts)) ∧ Paired (RowAt H) ts rs ∧ (∀ r ∈ rs, RowOk r) ∧ rs.length ≤ 6 ∧ PoolAt a.c_Pool a.c_Item H y rs ∧
  H v = some (.dK (kents kn)) ∧ Vals4 rs kn ∧ Sys H ∧ Tabs (TW a) H ∧ ∀ H', ExtN H H' → Tabs (TW a) H' → Q (.bl true) H'
theorem ok_right34 (T : Txt K mg a) (TB : TabB base mg a.cd_Pool_walk a.t_Pool_walk) : GOk P w K mg base CX0 14 a.f__law_right a.d__law_right ["rows", "made", "known"] (spRight34 a) := by
  have G_ptold : FnOk P w K mg base CX0 7 a.f_Pool_told a.d_Pool_told ["self", "values"] (spPTold a.c_Pool a.c_Item) := ok_ptold T
  have G_law_told : FnOk P w K mg base CX0 2 a.f__law_told a.d__law_told ["rows", "known"] spLToldO := ok_ltoldo T
  have G_law_candidates : FnOk P w K mg base CX0 4 a.f__law_candidates a.d__law_candidates ["rows", "known"] spLCands := ok_lcands T
  have Gsure_least : FnOk P w K mg base CX0 6 a.f_sure_least a.d_sure_least ["pool"] (spSure a.c_Pool a.c_Item) := ok_sure T
  have Gcandidates : GFn P w K mg base 10 a.f_candidates a.d_candidates ["pool", "values"] (spCandsG a.c_Pool a.c_Item (TW a)) := ok_candsG T TB
  refine gok_fun T.F__law_right sc__law_right (fun vs H Q E h => ?_) (fun cdv A outer s H vs Q E hr hgd h => ?_)
  · obtain ⟨L, y, v, ts, rs, kn, rfl, _⟩ := h
    rfl
  · obtain ⟨L, y, v, ts, rs, kn, rfl, asc, hL, pr, rok, len, hp, hv, V4, sys, tb, k⟩ := h
    have nd := sc__law_right.nd
    refine ⟨_, (Evl.pss_cut (ps_par (i := 3) (j := 4) (by rfl) nd rfl rfl (by decide) rfl rfl (pa_cons (pe_callB (cr_reprD hgd hr.units) (by rfl) T.b_repr (by decide +kernel) (pa_cons (pv 2) pa_nil)) (pa_cons (pe_call G_law_candidates (hr.mono (by first | decide | omega)) rfl T.g__law_candidates T.F__law_candidates.kp T.b__law_candidates .nil pass0 (pa_cons (pv 0) (pa_cons (pv 2) pa_nil))) pa_nil)) (by rfl))
  (Evl.pss_cut (ps_set (i := 5) nd rfl (by first | exact Or.inl rfl | exact Or.inr rfl) (pe_listG (E := E0) (pgen_call Gcandidates (hr.mono (by decide)) rfl T.g_candidates T.F_candidates.kp T.b_candidates .nil (pa_cons (pv 1) (pa_cons (pv 2) pa_nil))) passL (fun _ _ _ h => h.elim) (hr.mono (by decide)) (by rfl) T.b_list (by decide +kernel)))
  (Evl.pss_cut (ps_if (PW.pt (pw_or (pt_cmpR op_ne (pe_callB (cr_reprD hgd hr.units) (by rfl) T.b_repr (by decide +kernel) (pa_cons (pv 5) pa_nil)) (pe_callB (cr_reprD hgd hr.units) (by rfl) T.b_repr (by decide +kernel) (pa_cons (pv 4) pa_nil)) (nomark _)) (pw_or1 (pt_cmpR op_ne (pe_callB (cr_reprD hgd hr.units) (by rfl) T.b_repr (by decide +kernel) (pa_cons (pv 2) pa_nil)) (pv 3) (nomark _)))))
    (pss_one (ps_ret pe_bl))
    pss_nil)
  (Evl.pss_cut (ps_for PassesOwn.never rfl (pi_list (pv 5)) (pg_tup (by rfl) (pgs_cons (pg_name (i := 6) nd rfl (by first | exact Or.inl rfl | exact Or.inr rfl)) (pgs_cons (pg_name (i := 7) nd rfl (by first | exact Or.inl rfl | exact Or.inr rfl)) (pgs_cons (pg_name (i := 8) nd rfl (by first | exact Or.inl rfl | exact Or.inr rfl)) pgs_nil))))
    (Evl.pss_cut (ps_set (i := 9) nd rfl (by first | exact Or.inl rfl | exact Or.inr rfl) (pe_meth (pv 1) T.cl_Pool T.m_Pool_told G_ptold (hr.mono (by decide)) T.b_Pool_told .nil pass0 (pa_cons (pe_callTy (call_dictP rfl) (by rfl) T.b_dict (by decide +kernel) (pa_cons (pe_lc (own := [("other", 10)]) (g := gName 10) (tt := tYes) rfl nd (pi_list (pv 8)) (blkOk_by (N := ["rows", "made", "known", "seen", "due", "found", "cost", "one", "some", "after", "other", "row", "first"]) (sc := defScope s__law_right) (by decide +kernel)) (fun _ _ _ _ _ => (pg_name (i := 10) nd rfl (by first | exact Or.inl rfl | exact Or.inr rfl))) (fun _ _ _ _ _ => pts_nil) (fun _ _ _ _ _ => (pe_tup (pa_cons (pv 10) (pa_cons (pe_dget (hu_of hr) (pv 2) (pv 10) (fun _ _ => rfl)) pa_nil))))) pa_nil)) pa_nil)))
  (Evl.pss_cut (ps_set (i := 11) nd rfl (by first | exact Or.inl rfl | exact Or.inr rfl) (pe_ix ix_list (pe_lc (own := [("other", 10)]) (g := gName 10) rfl nd (pi_list (pe_call G_law_told (hr.mono (by first | decide | omega)) rfl T.g__law_told T.F__law_told.kp T.b__law_told .nil pass0 (pa_cons (pv 0) (pa_cons (pv 2) pa_nil)))) (blkOk_by (N := ["rows", "made", "known", "seen", "due", "found", "cost", "one", "some", "after", "other", "row", "first"]) (sc := defScope s__law_right) (by decide +kernel)) (fun _ _ _ _ _ => (pg_name (i := 10) nd rfl (by first | exact Or.inl rfl | exact Or.inr rfl))) (fun _ _ _ _ _ => (pts_one (pt_cmpR op_eq (pe_ix (ix_tupK (K := K) rfl) (pv 10) pe_int (fun _ _ => rfl)) (pv 7) (nomark _)))) (fun _ _ _ _ _ => (pv 10))) pe_int (fun _ _ => rfl)))
  (Evl.pss_cut (ps_setLc (i := 12) (own := [("other", 10)]) (g := gName 10) rfl nd rfl rfl (sw_true rfl rfl rfl (by decide +kernel)) (pi_list (pe_call G_law_told (hr.mono (by first | decide | omega)) rfl T.g__law_told T.F__law_told.kp T.b__law_told .nil pass0 (pa_cons (pv 0) (pa_cons (pv 2) pa_nil)))) (blkOk_by (N := ["rows", "made", "known", "seen", "due", "found", "cost", "one", "some", "after", "other", "row", "first"]) (sc := defScope s__law_right) (by decide +kernel)) (fun _ _ _ _ _ => (pg_name (i := 10) nd rfl (by first | exact Or.inl rfl | exact Or.inr rfl))) (fun _ _ _ _ _ => (pts_one (pt_cmpR op_eq (pe_ix (ix_tupK (K := K) rfl) (pv 10) pe_int (fun _ _ => rfl)) (pe_call Gsure_least (hr.mono (by first | decide | omega)) rfl T.g_sure_least T.F_sure_least.kp T.b_sure_least .nil pass0 (pa_cons (pv 9) pa_nil)) (nomark _)))) (fun _ _ _ _ _ => (pv 10)))
  (pss_one (ps_if (PW.pt (pw_or (pt_cmpR op_ne (pe_callB call_len_seq (by rfl) T.b_len PySem.boot_len (pa_cons (pv 12) pa_nil)) pe_int (nomark _)) (pw_or1 (pt_cmpR op_gt (pe_ix ix_tup (pv 11) pe_int (fun _ _ => rfl)) (pe_ix ix_tup (pe_ix ix_list (pv 12) pe_int (fun _ _ => rfl)) pe_int (fun _ _ => rfl)) (nomark _)))))
    (pss_one (ps_ret pe_bl))
    pss_nil))))))
  (pss_one (ps_ret pe_bl)))))), ?_⟩
    have hn := asc.nodup
    have le : ∀ r ∈ rs, r.lo ≤ r.hi := fun r hr => (rok r hr).le
    have R : Rows rs := ⟨asc, fun r hr => (rok r hr).nm, by omega⟩
    have nk : (kn.map (·.1)).Nodup := V4.pm.nodup_iff.mpr (openN_nodupN hn)
    have fv := sys.nf hv fun _ _ e => by cases e
    -- seen, due
    refine ⟨fun σ' H' => ∃ D us cs, σ' = [some (.ref L), some (.ref y), some (.ref v), some (.str (knD kn).shown), some (.ref D), none, none, none, none, none, none, none, none] ∧ Same H H' ∧ H' D = some (.lst (us.map V.ref)) ∧ Paired CaOf2 (dueL rs kn rs) cs ∧ Paired (fun t c => ∃ l, CaL H' t l c) us (srtC cs), ?_, ?_⟩
    · refine ⟨_, rfl, Far, 1, _, knD kn, rfl, fun _ z => z, known_dq hv fv, known_sh V4 rok (by omega), _, rfl, _, rfl, L, v, ts, rs, kn, rfl, hL, pr, R, le, hv, V4, fun D us cs H1 S1 hD eD pc pt => ?_⟩
      exact ⟨_, _, rfl, D, us, cs, rfl, S1, eD, pc, paired_imp (fun _ _ ⟨l, z, _⟩ => ⟨l, z⟩) pt⟩
    rintro σ1 H1 ⟨D, us, cs, rfl, S1, eD, pc, pt⟩
    -- found
    refine ⟨fun σ' H' => ∃ F us2, σ' = [some (.ref L), some (.ref y), some (.ref v), some (.str (knD kn).shown), some (.ref D), some (.ref F), none, none, none, none, none, none, none] ∧ ExtN H1 H' ∧ Tabs (TW a) H' ∧ H' F = some (.lst (us2.map V.ref)) ∧ Paired (fun t c => ∃ l, CaL H' t l c) us2 (srtC cs), ?_, ?_⟩
    · refine ⟨_, rfl, _, rfl, y, v, rs, kn, rfl, hp.same S1, R, S1 _ _ hv, V4, tb.ext S1, fun cs2 pc2 M us2 H2 x2 T2 po => fun p hp0 => ?_⟩
      have e2 : srtC cs2 = srtC cs := due_perm hn pc2 pc (List.mergeSort_perm _ _)
      unfold CandOut at po
      rw [e2] at po
      exact ⟨p, us2, rfl, x2.trans (ExtN.of (Same.new hp0)), T2.ext (Same.new hp0), upd_same, paired_imp (fun t c ⟨l, z, _⟩ => ⟨l, z.same (Same.new hp0)⟩) po⟩
    rintro σ2 H2 ⟨F, us2, rfl, x12, T2, eF, pF⟩
    have sys2 := (sys.same S1).ext x12
    have x02 := (ExtN.of S1).trans x12
    have eD2 := x12 _ _ eD fun _ z => by cases z
    have pt2 : Paired (fun t c => ∃ l, CaL H2 t l c) us (srtC cs) := paired_imp (fun _ _ ⟨l, z⟩ => ⟨l, z.ext x12⟩) pt
    have hv2 := x02 _ _ hv fun _ z => by cases z
    have csh := cas_sh hn rok len (fun q h => h) len pc
    -- the texts
    refine ⟨fun σ' H' => σ' = [some (.ref L), some (.ref y), some (.ref v), some (.str (knD kn).shown), some (.ref D), some (.ref F), none, none, none, none, none, none, none] ∧ Same H2 H', ?_, ?_⟩
    · refine ⟨_, rfl, Far, 3, _, casD (srtC cs), rfl, fun _ z => z, cas_dq sys2 eF pF, csh, _, rfl, Far, 3, _, casD (srtC cs), rfl, fun _ z => z, cas_dq sys2 eD2 pt2, csh, rfl, _, rfl, ?_⟩
      rw [decide_eq_true rfl]
      refine iteF ⟨_, rfl, Far, 1, _, knD kn, rfl, fun _ z => z, known_dq hv2 fv, known_sh V4 rok (by omega), _, rfl, rfl, _, rfl, ?_⟩
      rw [decide_eq_true rfl]
      exact iteF ⟨rfl, Same.refl _⟩
    rintro σ3 H3 ⟨rfl, S23⟩
    have x03 := x02.trans (ExtN.of S23)
    have eF3 := S23 _ _ eF
    have pF3 : Paired (fun t c => ∃ l, CaL H3 t l c) us2 (srtC cs) := paired_imp (fun _ _ ⟨l, z⟩ => ⟨l, z.same S23⟩) pF
    have lF := paired_len pF
    have lc := due_len rs kn rs
    have lc2 := paired_len pc
    have lc3 := srtC_len cs
    refine ⟨fun σ' H' => Same H3 H', ?_, ?_⟩
    · refine ⟨_, rfl, F, rfl, ⟨_, SqL.of eF3⟩, for_list (xs := us2.map V.ref) (fun i σ' H' => ∃ w6 w7 w8 w9 w10 w11 w12, σ' = [some (.ref L), some (.ref y), some (.ref v), some (.str (knD kn).shown), some (.ref D), some (.ref F), w6, w7, w8, w9, w10, w11, w12] ∧ Same H3 H') ?_ ?_ ?_ ?_⟩
      · exact ⟨_, _, _, _, _, _, _, rfl, Same.refl _⟩
      · rintro i σ' H' _ ⟨_, _, _, _, _, _, _, _, s⟩
        exact SqL.of (s _ _ eF3)
      · rintro i x σ' H4 ex ⟨w6, w7, w8, w9, w10, w11, w12, rfl, S34⟩
        rw [List.getElem?_map] at ex
        cases et : us2[i]? with
        | none => rw [et] at ex; cases ex
        | some t =>
        rw [et] at ex
        obtain rfl : V.ref t = x := Option.some.inj ex
        obtain ⟨c, ec, l, cl3⟩ := LiI.paired_get pF3 et
        have mc : c ∈ cs := srtC_mem.mp (List.mem_of_getElem? ec)
        obtain ⟨⟨r, g⟩, mp, g1, g2, g3, g4⟩ := paired_memR pc c mc
        obtain ⟨mr, mg'⟩ := dueL_mem mp
        have mr : r ∈ rs := mr
        have mg' : g ∈ dueG rs kn r := mg'
        have cl4 := cl3.same S34
        have x04 := x03.trans (ExtN.of S34)
        -- its names
        have gin := due_in hn mr mg'
        have gn := due_nodup hn mg'
        have eg : c.2.2.Perm (g.map (·.nm)) := g3
        have en : c.2.1 = r.nm := g2
        generalize hys : c.2.2 = ys at eg
        have yn : ys.Nodup := eg.nodup_iff.mpr gn
        have yl : ys.length ≤ 6 := by
          have z := eg.length_eq
          rw [List.length_map] at z
          omega
        have opn : ∀ q ∈ g, q.lo ≠ q.hi := fun q hq => by
          rcases due_mem mg' with e5 | e5
          · rw [e5] at hq
            rcases askA_mem.mp hq with ⟨rfl, o⟩ | hq
            · exact o
            · exact (reach_mem.mp hq).2.2.1
          · rw [e5] at hq
            exact (reach_mem.mp hq).2.2.1
        have yo : ∀ x ∈ ys, x ∈ openN rs := fun x hx => by
          obtain ⟨q, hq, rfl⟩ := List.mem_map.mp (eg.mem_iff.mp hx)
          exact List.mem_map.mpr ⟨q, List.mem_filter.mpr ⟨gin.1 q hq, by simpa using opn q hq⟩, rfl⟩
        have lookY : ∀ z ∈ ys, ∃ u, kn.lookup z = some u := fun z hz => by
          obtain ⟨u, e, _⟩ := look_open V4 nk (yo z hz)
          exact ⟨u, e⟩
        have tp : tellR (pairsOf kn ys) = tellR (pick kn ys) := tell_pick lookY
        obtain ⟨f, mf, ef, vl⟩ := cand_least (S := ys) hn V4 le mr mg' fun q hq => eg.mem_iff.mpr (List.mem_map.mpr ⟨q, hq, rfl⟩)
        have hv4 := x04 _ _ hv fun _ z => by cases z
        have hL4 := x04 _ _ hL fun _ z => by cases z
        have pr4 := rows_ext pr x04
        have hp4 := hp.ext x04
        have el4 : H4 l = some (.lst (ys.map V.str)) := by
          have z := cl4.2
          rw [hys] at z
          exact z
        have hopen : ∀ q ∈ rs, ∀ z, kn.lookup q.nm = some z → q.lo < q.hi := fun q mq z e => by
          have z2 := (List.mem_filter.mp (open_of_look hn V4.sub mq e)).2
          have z3 := le q mq
          rw [Bool.not_eq_true', decide_eq_false_iff_not] at z2
          omega
        have tnd : ((rs.map (tellR kn)).map (·.nm)).Nodup := by rw [tellR_names]; exact hn
        have tlen : (rs.map (tellR kn)).length ≤ 6 := by rw [List.length_map]; exact len
        refine ⟨t, _, rfl, SqT.of cl4.1, rfl, _, _, rfl, _, _, rfl, _, _, rfl, rfl, ?_⟩
        rw [en]
        -- after
        refine ⟨fun σ' H' => ∃ z, σ' = [some (.ref L), some (.ref y), some (.ref v), some (.str (knD kn).shown), some (.ref D), some (.ref F), some (.int c.1), some (.str r.nm), some (.ref l), some (.ref z), w10, w11, w12] ∧ Same H4 H' ∧ PoolAt a.c_Pool a.c_Item H' z (rs.map (tellR (pick kn ys))), ?_, ?_⟩
        · obtain ⟨dy, d0, as0, hy, _⟩ := id hp4
          refine ⟨_, rfl, y, dy, _, rfl, hy, by with_unfolding_all rfl, _, rfl, l, rfl, ⟨_, SqL.of el4⟩, fun D4 hD4 => ?_⟩
          refine lc_pure (walk_list (K := K) (a := l) (xs := ys.map V.str)) ys (fun _ => true) (fun n z H' => ∃ t, z = V.ref t ∧ H' t = some (.tup [.str n, .int ((kn.lookup n).getD 0)])) (by rw [List.length_map]) hD4 (fun H' s' => SqL.of (s' _ _ el4)) (fun i H x H' e => ⟨by rw [e.1]; exact Same.refl _, fun o h => by rw [e.1]; exact h⟩) (by rw [List.length_map, sizeLine_eq]; omega) ?_ ?_ ?_
          · rintro d z Ha Hb ⟨t, rfl, ht⟩ ⟨acc, eD⟩ b'
            exact ⟨t, rfl, b'.tup eD ht⟩
          · rintro Nx j x d H9 H9' ed s9 - ⟨rfl, ex⟩ - s9' fin -
            rw [List.getElem?_map, ed] at ex
            obtain rfl : V.str d = x := Option.some.inj ex
            obtain ⟨u, lu, mu⟩ := look_open V4 nk (yo d (List.mem_of_getElem? ed))
            have gd : DGet H9' v (.str d) (some (.int u)) := by
              rw [← kents_get nk mu]
              exact DGet.k (k := Sum.inr d) (s9' _ _ hv4)
            refine ⟨rfl, yesT ?_⟩
            refine ⟨_, rfl, _, rfl, _, rfl, v, _, rfl, gd, by show 2 ≤ sizeLine; decide, fun t ht => ?_⟩
            exact fin rfl _ _ (Same.new ht) ⟨t, rfl, by rw [upd_same, lu]; rfl⟩
          intro zs H9 s9 eD4 pz
          rw [all_keep] at pz
          obtain ⟨qs, e, pb⟩ := paired_refs (F := fun t (q : Str × Int) => H9 t = some (.tup [.str q.1, .int q.2])) (g := fun n => (n, (kn.lookup n).getD 0)) pz
          subst e
          refine ⟨D4, qs, kents (pairsOf kn ys), rfl, SqL.of eD4, paired_into (fun q : Str × Int => ((Sum.inr q.1 : Key), V.int q.2)) (fun x y w => SqT.of w) pb, fun d hd => ?_⟩
          have e0 : mergeK [] (kents (pairsOf kn ys)) = kents (pairsOf kn ys) := merge_kents (pairsOf kn ys) [] (by rw [List.nil_append, pairsOf_names]; exact yn)
          rw [e0]
          have s10 := Same.grow s9 hd (o := .dK (kents (pairsOf kn ys)))
          have pl2 : (pairsOf kn ys).length = ys.length := by
            have z := congrArg List.length (pairsOf_names kn ys)
            rw [List.length_map] at z
            exact z
          refine ⟨y, d, rs, pairsOf kn ys, rfl, hp4.same s10, asc, R.nm, by omega, upd_same, by rw [pairsOf_names]; exact yn, fun q hq => ?_, by omega, fun z HB hz sB pzB => ?_⟩
          · obtain ⟨n, hn2, rfl⟩ := List.mem_map.mp hq
            obtain ⟨u, lu, mu⟩ := look_open V4 nk (yo n hn2)
            obtain ⟨r, hr2, e1, e2, e3⟩ := V4.ok _ mu
            refine ⟨r, hr2, e1, ?_, ?_⟩
            · show r.lo ≤ (kn.lookup n).getD 0
              rw [lu]
              exact e2
            · show (kn.lookup n).getD 0 ≤ r.hi
              rw [lu]
              exact e3
          rw [tp] at pzB
          exact ⟨z, rfl, s10.trans sB, pzB⟩
        rintro σ5 H5 ⟨z, rfl, S45, pz⟩
        have hv5 := S45 _ _ hv4
        have hL5 := S45 _ _ hL4
        have pr5 : Paired (RowAt H5) ts rs := paired_imp (fun _ _ z => S45 _ _ z) pr4
        -- row
        refine ⟨fun σ' H' => ∃ u, σ' = [some (.ref L), some (.ref y), some (.ref v), some (.str (knD kn).shown), some (.ref D), some (.ref F), some (.int c.1), some (.str r.nm), some (.ref l), some (.ref z), w10, some (.ref u), w12] ∧ Same H5 H' ∧ RowAt H' u (tellR kn r), ?_, ?_⟩
        · refine ⟨_, rfl, _, rfl, L, v, ts, rs, kn, rfl, hL5, pr5, hn, by omega, hv5, hopen, fun M us' H6 hM s6 eM pM => ?_⟩
          refine ⟨M, rfl, ⟨_, SqL.of eM⟩, fun D2 hD2 => ?_⟩
          refine rows_keep (fun q => decide (q.nm = r.nm)) eM pM (by omega) hD2 (fun u q H' R0 R1 hq s iu k0 k1 => ?_) (fun fs H' s eF pF => ?_)
          · refine ⟨rfl, _, rfl, u, _, _, _, rfl, rfl, SqT.of (K := K) iu, rfl, _, rfl, rfl, _, rfl, ?_⟩
            cases c : decide (q.nm = r.nm) with
            | true =>
              rw [decide_eq_true (congrArg V.str (of_decide_eq_true c))]
              exact iteT ⟨_, rfl, k1 c _ (Same.refl _)⟩
            | false =>
              rw [decide_eq_false (fun e => of_decide_eq_false c (V.str.inj e))]
              exact iteF (k0 c _ (Same.refl _))
          have e1 := one_row tnd (List.mem_map.mpr ⟨r, mr, rfl⟩ : tellR kn r ∈ rs.map (tellR kn))
          rw [tellR_nm] at e1
          rw [e1] at pF
          cases pF with
          | @cons u _ us3 _ h1 h2 =>
            cases h2
            exact ⟨D2, _, ((0 : Nat) : Int), _, rfl, rfl, SqL.of eF, atI_nat rfl, u, rfl, s6.trans s, h1⟩
        rintro σ6 H6 ⟨u, rfl, S56, ru⟩
        have hv6 := S56 _ _ hv5
        have hL6 := S56 _ _ hL5
        have pr6 : Paired (RowAt H6) ts rs := paired_imp (fun _ _ z => S56 _ _ z) pr5
        have pz6 := pz.same S56
        -- first
        refine ⟨fun σ' H' => ∃ N u2, σ' = [some (.ref L), some (.ref y), some (.ref v), some (.str (knD kn).shown), some (.ref D), some (.ref F), some (.int c.1), some (.str r.nm), some (.ref l), some (.ref z), w10, some (.ref u), some (.ref N)] ∧ Same H6 H' ∧ H' N = some (.lst [.ref u2]) ∧ RowAt H' u2 (tellR kn f), ?_, ?_⟩
        · refine ⟨_, rfl, _, rfl, L, v, ts, rs, kn, rfl, hL6, pr6, hn, by omega, hv6, hopen, fun M us' H7 hM s7 eM pM => ?_⟩
          refine ⟨M, rfl, ⟨_, SqL.of eM⟩, fun D2 hD2 => ?_⟩
          refine rows_keep (fun q => decide (q.nm = f.nm)) eM pM (by omega) hD2 (fun u q H' R0 R1 hq s iu k0 k1 => ?_) (fun fs H' s eF pF => ?_)
          · refine ⟨rfl, _, rfl, u, _, _, _, rfl, rfl, SqT.of (K := K) iu, rfl, _, rfl, z, rs.map (tellR (pick kn ys)), rfl, pz6.same (s7.trans s), tell_rows ⟨R.asc, R.nm, R.len⟩, fun H8 s8 => ?_⟩
            rw [ef]
            refine ⟨rfl, _, rfl, ?_⟩
            cases c : decide (q.nm = f.nm) with
            | true =>
              rw [decide_eq_true (congrArg V.str (of_decide_eq_true c))]
              exact iteT ⟨_, rfl, k1 c _ s8⟩
            | false =>
              rw [decide_eq_false (fun e => of_decide_eq_false c (V.str.inj e))]
              exact iteF (k0 c _ s8)
          have e1 := one_row tnd (List.mem_map.mpr ⟨f, mf, rfl⟩ : tellR kn f ∈ rs.map (tellR kn))
          rw [tellR_nm] at e1
          rw [e1] at pF
          cases pF with
          | @cons u _ us3 _ h1 h2 =>
            cases h2
            exact ⟨D2, u, rfl, s7.trans s, eF, h1⟩
        rintro σ7 H7 ⟨N, u2, rfl, S67, eN, ru2⟩
        have ru7 := SqT.of (K := K) (S67 _ _ ru)
        have ru27 := SqT.of (K := K) ru2
        have tr := (val_tell V4 mr).1
        have tf := (val_tell V4 mf).1
        refine ⟨_, rfl, N, _, rfl, .inl (SqL.of eN), rfl, _, rfl, ?_⟩
        rw [show decide (V.int (([V.ref u2] : List V).length : Int) = V.int 1) = true from rfl]
        refine iteF ⟨_, rfl, u, _, _, _, rfl, rfl, ru7, rfl, _, rfl, N, _, ((0 : Nat) : Int), _, rfl, rfl, SqL.of eN, atI_nat rfl, u2, _, _, _, rfl, rfl, ru27, rfl, _, _, rfl, rfl, _, rfl, ?_⟩
        rw [tr, tf, decide_eq_false (show ¬ valOf kn f < valOf kn r by omega)]
        exact iteF ⟨_, _, _, _, _, _, _, rfl, ((S34.trans S45).trans S56).trans S67⟩
      · rintro σ' H' ⟨_, _, _, _, _, _, _, rfl, s⟩
        exact s
    rintro σ4 H4 S34
    exact k _ (x03.trans (ExtN.of S34)) ((T2.ext S23).ext S34)
end
end Ask

set_option Elab.async false
set_option linter.all false
set_option maxRecDepth 100000
set_option maxHeartbeats 8000000
set_option pp.deepTerms false
set_option pp.deepTerms.threshold 14
namespace Ask
open PySem L2 LamX
open PyProof.Rows
open PySem.W (dataLe)
section
variable {P : Program} {w : World} {K : PySem.W.Frag} {mg : Str → Option Value} {base : Heap} {a : Ad}
theorem PoolAt.butP {C CI : Addr} {H H' : Hp} {x p : Addr} {n : Nat} {rs : List Rw} (h : PoolAt C CI H x rs) (b : But p H H') (hp : Pen H p n) : PoolAt C CI H' x rs := by
  obtain ⟨dx, d, as, h1, h2, h3⟩ := h
  exact ⟨dx, d, as, b _ _ (hp.ne h1 fun _ _ _ e => by cases e) h1, b _ _ (hp.ne h2 fun _ _ _ e => by cases e) h2, paired_imp (fun y r ⟨dy, hy⟩ => ⟨dy, b _ _ (hp.ne hy fun _ _ _ e => by cases e) hy⟩) h3⟩
theorem rows_but {H H' : Hp} {p : Addr} {n : Nat} {ts : List Addr} {rs : List Rw} (pr : Paired (RowAt H) ts rs) (b : But p H H') (hp : Pen H p n) : Paired (RowAt H') ts rs :=
  paired_imp (fun _ _ z => b _ _ (hp.ne z fun _ _ _ e => by cases e) z) pr
theorem paired_andR {α β : Type} {R : α → β → Prop} {p : β → Prop} : ∀ {xs : List α} {ys : List β}, Paired R xs ys → (∀ y ∈ ys, p y) → Paired (fun x y => R x y ∧ p y) xs ys
  | _, _, .nil, _ => .nil
  | _, _, .cons h t, k => .cons ⟨h, k _ List.mem_cons_self⟩ (paired_andR t fun y hy => k y (List.mem_cons_of_mem _ hy))
theorem ok_law (T : Txt K mg a) (TB : TabB base mg a.cd_Pool_walk a.t_Pool_walk) : GOk P w K mg base CX0 15 a.f_law a.d_law ["script"] (spLawT K a.t_Pool_walk) := by
  have G_peq : FnOk P w K mg base CX0 3 a.f_Pool___eq__ a.d_Pool___eq__ ["self", "other"] (spEq (SamePool a.c_Pool a.c_Item)) := ok_peq T
  have G_read : FnOk P w K mg base CX0 5 a.f_Pool_read a.d_Pool_read ["cls", "text"] (spRead0 a.c_Pool a.c_Item) := ok_read0 T
  have G_law_pen : FnOk P w K mg base CX0 1 a.f__law_pen a.d__law_pen ["script"] (spPen K) := ok_pen T
  have G_law_draw : FnOk P w K mg base CX0 2 a.f__law_draw a.d__law_draw ["pen", "below"] spDrawP := ok_drawP T
  have G_law_rows : FnOk P w K mg base CX0 3 a.f__law_rows a.d__law_rows ["pen", "most", "width"] spRows := ok_rows T
  have G_law_made : FnOk P w K mg base CX0 6 a.f__law_made a.d__law_made ["rows"] (spLMade a.c_Pool a.c_Item) := ok_lmade T
  have G_law_truth : FnOk P w K mg base CX0 3 a.f__law_truth a.d__law_truth ["pen", "rows"] spLTruth := ok_ltruth T
  have G_law_candidates : FnOk P w K mg base CX0 4 a.f__law_candidates a.d__law_candidates ["rows", "known"] spLCands := ok_lcands T
  have Gcandidates : GFn P w K mg base 10 a.f_candidates a.d_candidates ["pool", "values"] (spCandsG a.c_Pool a.c_Item (TW a)) := ok_candsG T TB
  have Gcandidates_t : TFn P w K mg base 10 a.f_candidates a.d_candidates ["pool", "values"] (spCandsT a.c_Pool a.c_Item (TW a)) := ok_candsT T TB
  have G_law_right : GOk P w K mg base CX0 14 a.f__law_right a.d__law_right ["rows", "made", "known"] (spRight34 a) := ok_right34 T TB
  refine gok_fun T.F_law sc_law (fun vs H Q E h => ?_) (fun cdv A outer s H vs Q E hr hgd h => ?_)
  · obtain ⟨sc, ns, rfl, _⟩ := h
    rfl
  · obtain ⟨sc, ns, rfl, hS, hns, sys, tb, k⟩ := h
    have nd := sc_law.nd
    refine ⟨_, (pss_cons (ps_set (i := 1) nd rfl (by first | exact Or.inl rfl | exact Or.inr rfl) (pe_call G_law_pen (hr.mono (by first | decide | omega)) rfl T.g__law_pen T.F__law_pen.kp T.b__law_pen .nil pass0 (pa_cons (pv 0) pa_nil)))
  (Evl.pss_cut (ps_for PassesOwn.never rfl (pi_range1 rfl T.b_range (pa_cons pe_int pa_nil)) (pg_name (i := 2) nd rfl (by first | exact Or.inl rfl | exact Or.inr rfl))
    (Evl.pss_cut (ps_set (i := 3) nd rfl (by first | exact Or.inl rfl | exact Or.inr rfl) (pe_call G_law_rows (hr.mono (by first | decide | omega)) rfl T.g__law_rows T.F__law_rows.kp T.b__law_rows .nil pass0 (pa_cons (pv 1) (pa_cons pe_int (pa_cons (pe_ix ix_list (pe_lst (pa_cons pe_int (pa_cons pe_int (pa_cons pe_int pa_nil)))) (pe_call G_law_draw (hr.mono (by first | decide | omega)) rfl T.g__law_draw T.F__law_draw.kp T.b__law_draw .nil pass0 (pa_cons (pv 1) (pa_cons pe_int pa_nil))) (fun _ _ => rfl)) pa_nil)))))
  (Evl.pss_cut (ps_set (i := 4) nd rfl (by first | exact Or.inl rfl | exact Or.inr rfl) (pe_call G_law_made (hr.mono (by first | decide | omega)) rfl T.g__law_made T.F__law_made.kp T.b__law_made .nil pass0 (pa_cons (pv 3) pa_nil)))
  (Evl.pss_cut (ps_par (i := 5) (j := 6) (by rfl) nd rfl rfl (by decide) rfl rfl (pa_cons (pe_call G_law_truth (hr.mono (by first | decide | omega)) rfl T.g__law_truth T.F__law_truth.kp T.b__law_truth .nil pass0 (pa_cons (pv 1) (pa_cons (pv 3) pa_nil))) (pa_cons (pe_call G_law_truth (hr.mono (by first | decide | omega)) rfl T.g__law_truth T.F__law_truth.kp T.b__law_truth .nil pass0 (pa_cons (pv 1) (pa_cons (pv 3) pa_nil))) pa_nil)) (by rfl))
  (Evl.pss_cut (ps_for PassesOwn.never rfl (pi_tup (pe_tup (pa_cons (pv 5) (pa_cons (pv 6) (pa_cons (pv 5) pa_nil))))) (pg_name (i := 7) nd rfl (by first | exact Or.inl rfl | exact Or.inr rfl))
    (pss_one (ps_if (pt_not (pt_val (pe_callG G_law_right (hr.mono (by first | decide | omega)) hgd rfl T.g__law_right T.F__law_right.kp T.b__law_right pass0 (pa_cons (pv 3) (pa_cons (pv 4) (pa_cons (pv 7) pa_nil))))))
    (pss_one (ps_ret pe_bl))
    pss_nil)))
  (Evl.pss_cut (ps_forT (pgt_call Gcandidates_t (hr.mono (by decide)) rfl T.g_candidates T.F_candidates.kp T.b_candidates .nil (pa_cons (pv 4) (pa_cons (pv 5) pa_nil))) (fun _ _ h => h) (hr.mono (by decide)) (pg_name (i := 8) nd rfl (by first | exact Or.inl rfl | exact Or.inr rfl))
    (pss_one (ps_expr (pe_bm PySem.F.plainAttrs_list PySem.F.slot_list_append PySem.F.type_list_append mt_append (pe_ix ix_tup (pv 8) pe_int (fun _ _ => rfl)) (pa_cons pe_str pa_nil)))))
  (pss_one (ps_if (PW.pt (pw_or (pt_cmpR op_ne (pe_callB (cr_reprD hgd hr.units) (by rfl) T.b_repr (by decide +kernel) (pa_cons (pe_listG (E := E0) (pgen_call Gcandidates (hr.mono (by decide)) rfl T.g_candidates T.F_candidates.kp T.b_candidates .nil (pa_cons (pv 4) (pa_cons (pv 5) pa_nil))) passL (fun _ _ _ h => h.elim) (hr.mono (by decide)) (by rfl) T.b_list (by decide +kernel)) pa_nil)) (pe_callB (cr_reprD hgd hr.units) (by rfl) T.b_repr (by decide +kernel) (pa_cons (pe_call G_law_candidates (hr.mono (by first | decide | omega)) rfl T.g__law_candidates T.F__law_candidates.kp T.b__law_candidates .nil pass0 (pa_cons (pv 3) (pa_cons (pv 5) pa_nil))) pa_nil)) (nomark _)) (pw_or1 (pt_cmpR (op_neO G_peq (hr.mono (by decide)) T.eq_Pool T.b_Pool___eq__) (pv 4) (pe_call G_law_made (hr.mono (by first | decide | omega)) rfl T.g__law_made T.F__law_made.kp T.b__law_made .nil pass0 (pa_cons (pv 3) pa_nil)) (nomark _)))))
    (pss_one (ps_ret pe_bl))
    pss_nil))))))))
  (pss_one (ps_ret (pe_cmpR (op_eqD hr.units) (pe_listG (E := E0) (pgen_call Gcandidates (hr.mono (by decide)) rfl T.g_candidates T.F_candidates.kp T.b_candidates .nil (pa_cons (ClX.pe_cmeth (pe_glob (v := .ref a.c_Pool) rfl T.g_Pool rfl) T.rd_Pool T.m_Pool_read (G_read.raw T.b_Pool_read .nil) (hr.mono (by decide)) pass0 (pa_cons pe_str pa_nil)) (pa_cons pe_dnewK pa_nil))) passL (fun _ _ _ h => h.elim) (hr.mono (by decide)) (by rfl) T.b_list (by decide +kernel)) (pe_lst pa_nil) (nomark _)))))), ?_⟩
    refine ⟨_, rfl, sc, ns, rfl, hS, hns, fun p H1 hp0 b1 hpp1 => ?_⟩
    obtain ⟨l, hp1⟩ := PenL.of hpp1
    have sys1 : Sys H1 := by
      obtain ⟨o, u, e⟩ := sys
      exact ⟨o, u, b1 _ _ (ne_of_none e hp0) e⟩
    have tab1 : Tabs (TW a) H1 := fun q hq => by
      rw [List.mem_singleton.mp hq]
      exact TabS.nil (b1 _ _ (ne_of_none tb hp0) tb)
    refine ⟨fun σ' H' => ∃ v2 v3 v4 v5 v6 v7 v8 : Option V, σ' = [some (.ref sc), some (.ref p), v2, v3, v4, v5, v6, v7, v8] ∧ PenL l H' p 48000 ∧ Sys H' ∧ Tabs (TW a) H', ?_, ?_⟩
    · refine ⟨6, rfl, by decide, by decide, for_range (lo := 0) (n := 6) (fun i σ' H' => ∃ v2 v3 v4 v5 v6 v7 v8 : Option V, σ' = [some (.ref sc), some (.ref p), v2, v3, v4, v5, v6, v7, v8] ∧ PenL l H' p (i * 8000) ∧ Sys H' ∧ Tabs (TW a) H') ⟨none, none, none, none, none, none, none, rfl, hp1, sys1, tab1⟩ ?_ ?_⟩
      · rintro i σ H2 hi ⟨v2, v3, v4, v5, v6, v7, v8, rfl, hp2, sys2, tab2⟩
        -- rows
        refine ⟨fun σ' H' => ∃ L ts rs, σ' = [some (.ref sc), some (.ref p), some (.int (0 + (i : Int))), some (.ref L), v4, v5, v6, v7, v8] ∧ H' L = some (.lst (List.map V.ref ts)) ∧ Paired (RowAt H') ts rs ∧ Asc rs ∧ (∀ r ∈ rs, RowOk r) ∧ rs.length ≤ 6 ∧ PenL l H' p (i * 8000 + 80) ∧ Sys H' ∧ Tabs (TW a) H', ?_, ?_⟩
        · refine ⟨_, rfl, by show 3 ≤ sizeLine; decide, fun q hq => ?_⟩
          have nq := hp2.ne hq
          have hp2' := hp2.put (o := .lst [.int 4, .int 9, .int 30]) nq
          have sys2' := sys2.new (o := .lst [.int 4, .int 9, .int 30]) hq
          have tab2' : Tabs (TW a) (upd H2 q (.lst [.int 4, .int 9, .int 30])) := tab2.ext (Same.new hq)
          have eq2 : upd H2 q (.lst [.int 4, .int 9, .int 30]) q = some (.lst [.int 4, .int 9, .int 30]) := upd_same
          generalize upd H2 q (.lst [.int 4, .int 9, .int 30]) = H2' at hp2' sys2' eq2 tab2' ⊢
          refine ⟨_, rfl, l, p, _, 3, rfl, hp2', by omega, by decide, by decide, fun u H3 u0 u1 b3 hp3 => ?_⟩
          obtain ⟨v, hv, hm⟩ := at_drawn (xs := [V.int 4, .int 9, .int 30]) (z := u) (n := 3) u0 u1 rfl
          obtain ⟨wd, rfl, w0, w1⟩ : ∃ wd : Int, v = .int wd ∧ 1 ≤ wd ∧ wd ≤ 1000 := by
            simp only [List.mem_cons, List.not_mem_nil, or_false] at hm
            rcases hm with rfl | rfl | rfl
            all_goals exact ⟨_, rfl, by decide, by decide⟩
          have sys3 := sys2'.but b3 hp2'.pen
          have tab3 := tabs_but tab2' hp2' b3
          refine ⟨q, _, _, _, rfl, rfl, SqL.of (b3 _ _ nq.1 eq2), hv, l, p, _, 6, wd, rfl, hp3, by omega, by decide, by decide, w0, w1, fun L ts rs H4 hL b4 hp4 eL pr asc rok len => ?_⟩
          exact ⟨L, ts, rs, rfl, eL, paired_imp (fun _ _ z => z.1) pr, asc, rok, by omega, hp4.mono (by omega), sys3.but b4 hp3.pen, tabs_but tab3 hp3 b4⟩
        rintro σ3 H3 ⟨L, ts, rs, rfl, eL3, pr3, asc, rok, len, hp3, sys3, tab3⟩
        have R : Rows rs := ⟨asc, fun r hr => (rok r hr).nm, by omega⟩
        have le : ∀ r ∈ rs, r.lo ≤ r.hi := fun r hr => (rok r hr).le
        have hn := asc.nodup
        have lp : L ≠ p := hp3.pen.ne eL3 refs_not
        -- made
        refine ⟨fun σ' H' => ∃ y, σ' = [some (.ref sc), some (.ref p), some (.int (0 + (i : Int))), some (.ref L), some (.ref y), v5, v6, v7, v8] ∧ PoolAt a.c_Pool a.c_Item H' y rs ∧ Same H3 H', ?_, ?_⟩
        · refine ⟨_, rfl, L, ts, rs, rfl, eL3, pr3, hn, rok, by omega, fun y H4 ps hy S4 hpool0 ap mp => ?_⟩
          have e := ap.unique asc mp
          subst e
          exact ⟨y, rfl, hpool0, S4⟩
        rintro σ4 H4 ⟨y, rfl, pool4, S34⟩
        have eL4 := S34 _ _ eL3
        have pr4 : Paired (RowAt H4) ts rs := paired_imp (fun _ _ z => S34 _ _ z) pr3
        have hp4 := hp3.same S34
        have sys4 := sys3.same S34
        have tab4 := tab3.ext S34
        clear pr3 eL3 hp3 sys3 tab3
        -- known, other
        refine ⟨fun σ' H' => ∃ v v' kn kn', σ' = [some (.ref sc), some (.ref p), some (.int (0 + (i : Int))), some (.ref L), some (.ref y), some (.ref v), some (.ref v'), v7, v8] ∧ H' v = some (.dK (kents kn)) ∧ H' v' = some (.dK (kents kn')) ∧ Vals4 rs kn ∧ Vals4 rs kn' ∧ PenL l H' p (i * 8000 + 7500) ∧ But p H4 H', ?_, ?_⟩
        · refine ⟨_, rfl, _, rfl, l, p, L, _, ts, rs, rfl, hp4, by omega, eL4, pr4, hn, rok, by omega, fun v kn H5 hv b5 hp5 ev V4 => ?_⟩
          have vp : v ≠ p := hp5.pen.ne ev fun _ _ _ e => by cases e
          refine ⟨_, rfl, _, rfl, l, p, L, _, ts, rs, rfl, hp5, by omega, b5 _ _ lp eL4, rows_but pr4 b5 hp4.pen, hn, rok, by omega, fun v' kn' H6 hv' b6 hp6 ev' V4' => ?_⟩
          exact ⟨_, _, rfl, v, v', kn, kn', rfl, b6 _ _ vp ev, ev', V4, V4', hp6.mono (by omega), b5.trans b6⟩
        rintro σ5 H5 ⟨v, v', kn, kn', rfl, ev5, ev5', V4, V4', hp5, b45⟩
        have eL5 := b45 _ _ lp eL4
        have pr5 := rows_but pr4 b45 hp4.pen
        have sys5 := sys4.but b45 hp4.pen
        have tab5 := tabs_but tab4 hp4 b45
        have pool5 := pool4.butP b45 hp4.pen
        clear pr4 eL4 hp4 sys4 tab4
        -- for some
        refine ⟨fun σ' H' => ∃ w7 w8, σ' = [some (.ref sc), some (.ref p), some (.int (0 + (i : Int))), some (.ref L), some (.ref y), some (.ref v), some (.ref v'), w7, w8] ∧ ExtN H5 H' ∧ Tabs (TW a) H', ?_, ?_⟩
        · refine ⟨_, rfl, _, rfl, _, rfl, by show 3 ≤ sizeLine; decide, fun t ht => ?_⟩
          have s6 := Same.new ht (o := .tup [.ref v, .ref v', .ref v])
          have et : upd H5 t (.tup [.ref v, .ref v', .ref v]) t = some (.tup [.ref v, .ref v', .ref v]) := upd_same
          have tab6 := tab5.ext s6
          generalize upd H5 t (.tup [.ref v, .ref v', .ref v]) = H6 at s6 et tab6 ⊢
          have all6 : ∀ z ∈ [V.ref v, .ref v', .ref v], ∃ c kc, z = V.ref c ∧ H6 c = some (.dK (kents kc)) ∧ Vals4 rs kc := by
            intro z hz
            simp only [List.mem_cons, List.not_mem_nil, or_false] at hz
            rcases hz with rfl | rfl | rfl
            · exact ⟨v, kn, rfl, s6 _ _ ev5, V4⟩
            · exact ⟨v', kn', rfl, s6 _ _ ev5', V4'⟩
            · exact ⟨v, kn, rfl, s6 _ _ ev5, V4⟩
          refine ⟨t, rfl, ⟨_, SqT.of et⟩, for_tup (xs := [V.ref v, .ref v', .ref v]) (fun j σ' H' => ∃ w7 w8, σ' = [some (.ref sc), some (.ref p), some (.int (0 + (i : Int))), some (.ref L), some (.ref y), some (.ref v), some (.ref v'), w7, w8] ∧ ExtN H6 H' ∧ Tabs (TW a) H') ?_ ?_ ?_ ?_⟩
          · exact ⟨_, _, rfl, ExtN.refl _, tab6⟩
          · rintro j σ' H' _ ⟨w7, w8, _, x, _⟩
            exact SqT.of (x _ _ et fun _ z => by cases z)
          · rintro j z σ' H8 ez ⟨w7, w8, rfl, x68, tab8⟩
            obtain ⟨c, kc, rfl, ec6, V4c⟩ := all6 z (List.mem_of_getElem? ez)
            have x58 := (ExtN.of s6).trans x68
            have ec8 := x68 _ _ ec6 fun _ z => by cases z
            have eL8 := x58 _ _ eL5 fun _ z => by cases z
            have pr8 := rows_ext pr5 x58
            have pool8 := pool5.ext x58
            have sys8 := sys5.ext x58
            refine ⟨_, rfl, _, rfl, _, rfl, L, y, c, ts, rs, kc, rfl, asc, eL8, pr8, rok, len, pool8, ec8, V4c, sys8, tab8, fun H9 x9 T9 => ?_⟩
            exact ⟨_, rfl, iteF ⟨_, _, rfl, x68.trans x9, T9⟩⟩
          · rintro σ' H' ⟨w7, w8, rfl, x, T'⟩
            exact ⟨_, _, rfl, (ExtN.of s6).trans x, T'⟩
        rintro σ6 H6 ⟨w7, w8, rfl, x56, tab6⟩
        have pool6 := pool5.ext x56
        have ev6 := x56 _ _ ev5 fun _ z => by cases z
        -- for candidate
        refine ⟨fun σ' H' => ∃ w8, σ' = [some (.ref sc), some (.ref p), some (.int (0 + (i : Int))), some (.ref L), some (.ref y), some (.ref v), some (.ref v'), w7, w8] ∧ ExtN H6 H' ∧ Tabs (TW a) H', ?_, ?_⟩
        · refine ⟨_, rfl, _, rfl, y, v, rs, kn, rfl, pool6, R, ev6, V4, tab6, fun cs pc M us H7 x7 T7 eM po => ?_⟩
          have lu : us.length ≤ 12 := by
            have z := paired_len po
            have z2 := due_len rs kn (rs.mergeSort (dataLe false keyR))
            rw [paired_len pc, List.length_mergeSort] at z2
            rw [srtC_len] at z
            omega
          have im : ∀ q ∈ rs.mergeSort (dataLe false keyR), q ∈ rs := fun q hq => List.mem_mergeSort.mp hq
          have po : Paired (fun t c => (∃ l, CaL H7 t l c ∧ NewN H6 l ∧ l ≠ M) ∧ c.2.2.length ≤ 40) us (srtC cs) := by
            refine paired_andR po fun c hc => ?_
            obtain ⟨p0, hp0, _, _, h3, _⟩ := paired_memR pc c (srtC_mem.mp hc)
            obtain ⟨m1, m2⟩ := dueL_mem hp0
            have z := (due_in hn (im _ m1) m2).2
            have z2 := h3.length_eq
            rw [List.length_map] at z2
            omega
          refine ⟨fun j m σ' H' => m = us.length - j ∧ j ≤ us.length ∧ ∃ w8, σ' = [some (.ref sc), some (.ref p), some (.int (0 + (i : Int))), some (.ref L), some (.ref y), some (.ref v), some (.ref v'), w7, w8] ∧ ExtN H6 H' ∧ Tabs (TW a) H' ∧ H' M = some (.lst (us.map V.ref)) ∧ ∀ t ∈ us, ∃ (n : Int) (x : Str) (l : Addr) (xs : List V), H' t = some (.tup [.int n, .str x, .ref l]) ∧ H' l = some (.lst xs) ∧ xs.length ≤ 40 + j ∧ NewN H6 l ∧ l ≠ M, ⟨_, rfl, Nat.zero_le _, w8, rfl, x7, T7, eM, fun t ht => ?_⟩, ?_⟩
          · obtain ⟨j, hj⟩ := List.mem_iff_getElem?.mp ht
            obtain ⟨c, _, ⟨l, cl, nl, lM⟩, ll⟩ := LiI.paired_get po hj
            exact ⟨c.1, c.2.1, l, _, cl.1, cl.2, by rw [List.length_map]; omega, nl, lM⟩
          rintro j m σ' H8 ⟨rfl, jl, w8', rfl, x8, T8, eM8, all8⟩
          refine ⟨eM8, ?_⟩
          by_cases e : j = us.length
          · exact .inl ⟨e, w8', rfl, x8, T8⟩
          · have lt : j < us.length := by omega
            have et : us[j]? = some us[j] := List.getElem?_eq_getElem lt
            obtain ⟨n, x, l, xs, e1, e2, l3, nl, lM⟩ := all8 us[j] (List.getElem_mem lt)
            refine .inr ⟨us[j], et, fun σ' H' => ∃ w8, σ' = [some (.ref sc), some (.ref p), some (.int (0 + (i : Int))), some (.ref L), some (.ref y), some (.ref v), some (.ref v'), w7, w8] ∧ ExtN H6 H' ∧ Tabs (TW a) H' ∧ H' M = some (.lst (us.map V.ref)) ∧ ∀ t ∈ us, ∃ (n : Int) (x : Str) (l : Addr) (xs : List V), H' t = some (.tup [.int n, .str x, .ref l]) ∧ H' l = some (.lst xs) ∧ xs.length ≤ 40 + (j + 1) ∧ NewN H6 l ∧ l ≠ M, fun σ' H' h => ⟨us.length - (j + 1), by omega, rfl, lt, h⟩, ?_⟩
            generalize us[j] = t0 at e1 et
            refine ⟨_, rfl, t0, _, ((2 : Nat) : Int), _, rfl, rfl, SqT.of e1, rfl, .inl ⟨rfl, _, SqL.of e2⟩, l, xs, _, rfl, rfl, e2, by rw [sizeLine_eq]; omega, ?_⟩
            refine ⟨_, rfl, extn_updN x8 nl, tabs_upd T8 e2, by rw [upd_ne (Ne.symm lM)]; exact eM8, fun t ht => ?_⟩
            obtain ⟨n', x', l', xs', f1, f2, f3, f4, f5⟩ := all8 t ht
            have tl : t ≠ l := fun e => by rw [e, e2] at f1; cases f1
            by_cases c : l' = l
            · subst c
              rw [e2] at f2
              obtain rfl : xs = xs' := by cases f2; rfl
              exact ⟨n', x', l', xs ++ [.str "zz"], by rw [upd_ne tl]; exact f1, upd_same, by rw [List.length_append, List.length_singleton]; omega, f4, f5⟩
            · exact ⟨n', x', l', xs', by rw [upd_ne tl]; exact f1, by rw [upd_ne c]; exact f2, by omega, f4, f5⟩
        rintro σ7 H7 ⟨w8', rfl, x67, tab7⟩
        have x57 := x56.trans x67
        have eL7 := x57 _ _ eL5 fun _ z => by cases z
        have pr7 := rows_ext pr5 x57
        have pool7 := pool5.ext x57
        have sys7 := sys5.ext x57
        have ev7 := x57 _ _ ev5 fun _ z => by cases z
        have im : ∀ q ∈ rs.mergeSort (dataLe false keyR), q ∈ rs := fun q hq => List.mem_mergeSort.mp hq
        refine ⟨_, rfl, _, rfl, y, v, rs, kn, rfl, pool7, R, ev7, V4, tab7, fun cs pc M us H8 x8 T8 po => fun p8 hp8 => ?_⟩
        have S8 := Same.new hp8 (o := .lst (us.map V.ref))
        have eF : upd H8 p8 (.lst (us.map V.ref)) p8 = some (.lst (us.map V.ref)) := upd_same
        have pF : Paired (fun t c => ∃ l, CaL (upd H8 p8 (.lst (us.map V.ref))) t l c) us (srtC cs) := paired_imp (fun t c ⟨l, z, _⟩ => ⟨l, z.same S8⟩) po
        have T9 := T8.ext S8
        have x79 := x8.trans (ExtN.of S8)
        clear po S8 T8 x8 hp8
        generalize upd H8 p8 (.lst (us.map V.ref)) = H9 at eF pF T9 x79
        have sys9 := sys7.ext x79
        refine ⟨Far, 3, _, casD (srtC cs), rfl, fun _ z => z, cas_dq sys9 eF pF, cas_sh hn rok len im (by rw [List.length_mergeSort]; exact len) pc, ?_⟩
        refine ⟨_, rfl, _, rfl, L, v, ts, rs, kn, rfl, x79 _ _ eL7 (fun _ z => by cases z), rows_ext pr7 x79, R, le, x79 _ _ ev7 (fun _ z => by cases z), V4, fun D us2 cs2 H10 s10 hD eD pc2 pt2 => ?_⟩
        have e2 : srtC cs = srtC cs2 := due_perm hn pc pc2 (List.mergeSort_perm _ _)
        refine ⟨Far, 3, _, casD (srtC cs2), rfl, fun _ z => z, cas_dq (sys9.same s10) eD (paired_imp (fun _ _ ⟨l, z, _⟩ => ⟨l, z⟩) pt2), cas_sh hn rok len (fun q h => h) len pc2, rfl, _, rfl, ?_⟩
        rw [e2, decide_eq_true rfl]
        have x7a := x79.trans (ExtN.of s10)
        have pool10 := pool7.ext x7a
        obtain ⟨dy, d', as, hy, _⟩ := id pool10
        refine iteF ⟨_, rfl, _, rfl, L, ts, rs, rfl, x7a _ _ eL7 (fun _ z => by cases z), rows_ext pr7 x7a, hn, rok, by omega, fun y2 H11 ps hy2 S11 pool11 ap mp => ?_⟩
        have e := ap.unique asc mp
        subst e
        obtain ⟨dz, d'', as', hz, _⟩ := id pool11
        refine ⟨y, y2, dy, dz, _, _, rfl, rfl, S11 _ _ hy, hz, y, y2, rfl, (pool10.same S11).two pool11 ap.nodup, fun H12 S12 => ⟨true, rfl, _, rfl, iteF ?_⟩⟩
        have S1012 : Same H10 H12 := S11.trans fun b o c => S12 _ _ c
        exact ⟨_, _, _, _, _, _, _, rfl, ((((hp5.ext x57).ext x7a).same S1012)).mono (by omega), ((sys7.ext x7a)).same S1012, ((T9.ext s10)).ext S1012⟩
      · rintro σ' H2 ⟨v2, v3, v4, v5, v6, v7, v8, rfl, hp2, sys2, tab2⟩
        exact ⟨_, _, _, _, _, _, _, rfl, hp2, sys2, tab2⟩
    rintro σ2 H2 ⟨v2, v3, v4, v5, v6, v7, v8, rfl, hp2, sys2, tab2⟩
    -- the empty pool
    refine ⟨rfl, rfl, fun z H5 hz S5 pool5 => ?_⟩
    refine fun dd hd => ?_
    have S6 := Same.new hd (o := .dK [])
    refine ⟨z, dd, [], [], rfl, pool5.same S6, ⟨.nil, fun _ z => (nomatch z), by decide⟩, upd_same, ⟨.nil, fun _ z => (nomatch z)⟩, (tab2.ext S5).ext S6, fun cs pc M us H7 x7 T7 po => fun p7 hp7 => ?_⟩
    rw [List.mergeSort_nil] at pc
    cases pc
    have z1 := paired_len po
    rw [srtC_len] at z1
    obtain rfl : us = [] := List.eq_nil_of_length_eq_zero z1
    refine ⟨Nat.zero_le _, fun E0 hE => ?_⟩
    refine ⟨.list [], .list [], .lst (SqL.of ((Same.new hE (o := .lst [])) _ _ upd_same)) .nil, .lst (SqL.of upd_same) .nil, by decide +kernel, by decide +kernel, ?_⟩
    rw [show PyData.eqv (.list []) (.list []) = true by decide +kernel]
    exact k _
theorem law_fin {ts : List Addr} {fa : Addr} (h : ∃ a, Txt K mg a ∧ a.t_Pool_walk ∈ ts) (hmg : mg "law" = some (.ref fa)) : ∃ (fd : FuncData) (c t : Addr), PySem.W.codeHdIn K c t = true ∧ t ∈ ts ∧ K.lookup t = none ∧ (∀ (s : Shared) (u : Value), BindsTo s fd ⟨[u], []⟩ [("script", u)]) ∧
    ∀ base : Heap, K.In base → base.Ns mainGlobals mg → LamX.TabB base mg c t → GOk P w K mg base CX0 15 fa fd ["script"] (spLawT K t) := by
  obtain ⟨a, T, hm⟩ := h
  cases hmg.symm.trans T.g_law
  exact ⟨_, _, _, T.tab_Pool_walk.2.1, hm, T.tab_Pool_walk.2.2, bind_script T.F_law fun _ _ _ _ _ _ _ => rfl, fun base _ _ TB => ok_law T TB⟩
end
end Ask

open PySem PySem.W PyProof.Rows
set_option Elab.async false
set_option linter.all false
set_option maxRecDepth 100000
set_option maxHeartbeats 0
theorem PySem.Challenge.cw_askranges_k34_candidates_holds : PySem.Challenge.rw_askranges_k34_candidates.Holds := by
  w_on; o_law; k_head; (case hw => w_witness2)
  k_fill
  refine Ask.walk_lawM (l := PySem.Challenge.rw_askranges_k34_candidates) (k := 15) rfl rfl ⟨rfl, by decide, by decide⟩ rfl (fun _ => rfl) ?F
  case F =>
    intro w mg fa h KX G hmg
    refine Ask.law_fin ?T hmg
    case T =>
      refine' Ask.txt_get KX G ?a11 ?l12 ?c13 ?k14 ?a25 ?l26 ?c27 ?k28 ?a39 ?l40 ?c41 ?k42 ?a53 ?l54 ?c55 ?k56 ?a67 ?l68 ?c69 ?k70 ?a81 ?l82 ?c83 ?k84 ?a95 ?l96 ?c97 ?k98 ?a109 ?l110 ?c111 ?k112 ?a123 ?l124 ?c125 ?k126 ?a137 ?l138 ?c139 ?k140 ?a142 ?pg143 ?hd144 ?po145 ?sa146 ?rd147 ?ga148 ?fa150 ?gt151 ?cv152 ?a163 ?i164 ?mk165 ?kc166 ?l167 ?c168 ?k169 ?q171 ?a184 ?rc185 ?l186 ?c187 ?k188 ?fi189 ?pg190 ?ic191 ?a192 ?ty193 ?gt194 ?tk195 ?a208 ?rc209 ?l210 ?c211 ?k212 ?a225 ?gt226 ?tk227 ?rc228 ?l229 ?c230 ?k231 ?a244 ?gt245 ?tk246 ?rc247 ?l248 ?c249 ?k250 ?a263 ?gt264 ?tk265 ?rc266 ?l267 ?c268 ?k269 ?a282 ?gt283 ?tk284 ?rc285 ?l286 ?c287 ?k288 ?a301 ?gt302 ?tk303 ?rc304 ?l305 ?c306 ?k307 ?a320 ?gt321 ?tk322 ?rc323 ?l324 ?c325 ?k326 ?a337 ?i338 ?l339 ?c340 ?k341 ?a352 ?i353 ?l354 ?c355 ?k356 ?a367 ?i368 ?l369 ?c370 ?k371 ?lc388 ?no389 ?ee390 ?en391 ?na392 ?na393 ?na394 ?na395 ?ha396 ?hn397 ?ht398 ?hm399 ?kt400 ?kd401 ?a403 ?pg404 ?hd405 ?po406 ?sa407 ?rd408 ?ga409 ?a420 ?i421 ?mk422 ?kc423 ?l424 ?c425 ?k426 ?a439 ?rc440 ?l441 ?c442 ?k443 ?fi444 ?pg445 ?ic446 ?a447 ?ty448 ?gt449 ?tk450 ?a463 ?gt464 ?tk465 ?rc466 ?l467 ?c468 ?k469 ?a480 ?i481 ?l482 ?c483 ?k484 ?a495 ?i496 ?l497 ?c498 ?k499 ?rt504 ?lk505 ?rt506 ?rt507 ?rh508 ?rn509 ?a520 ?i521 ?l522 ?c523 ?k524 ?gf525 ?tk526 ?fi527 ?a538 ?i539 ?l540 ?c541 ?k542 ?a553 ?i554 ?l555 ?c556 ?k557 ?lc574 ?no575 ?ee576 ?en577 ?na578 ?ha579 ?hn580 ?ht581 ?hm582 ?kt583 ?kd584 ?a595 ?l596 ?c597 ?k598 ?a609 ?l610 ?c611 ?k612 ?a623 ?l624 ?c625 ?k626 ?a637 ?l638 ?c639 ?k640 ?a651 ?l652 ?c653 ?k654 ?a665 ?l666 ?c667 ?k668 ?a679 ?l680 ?c681 ?k682 ?a693 ?l694 ?c695 ?k696 ?a707 ?l708 ?c709 ?k710 ?a721 ?l722 ?c723 ?k724 ?a735 ?l736 ?c737 ?k738 ?a740 ?z741 ?z742 ?z743 ?z744 ?z745 ?z746 ?z747 ?z748 ?z749 ?z750 ?z751 ?z752 ?z753 ?z754 ?z755 ?z756 ?z757 ?z758 ?mt759
      (case a11 => k_is)
      (case l12 => k_is)
      (case c13 => k_is)
      (case k14 => k_is)
      (case a25 => k_is)
      (case l26 => k_is)
      (case c27 => k_is)
      (case k28 => k_is)
      (case a39 => k_is)
      (case l40 => k_is)
      (case c41 => k_is)
      (case k42 => k_is)
      (case a53 => k_is)
      (case l54 => k_is)
      (case c55 => k_is)
      (case k56 => k_is)
      (case a67 => k_is)
      (case l68 => k_is)
      (case c69 => k_is)
      (case k70 => k_is)
      (case a81 => k_is)
      (case l82 => k_is)
      (case c83 => k_is)
      (case k84 => k_is)
      (case a95 => k_is)
      (case l96 => k_is)
      (case c97 => k_is)
      (case k98 => k_is)
      (case a109 => k_is)
      (case l110 => k_is)
      (case c111 => k_is)
      (case k112 => k_is)
      (case a123 => k_is)
      (case l124 => k_is)
      (case c125 => k_is)
      (case k126 => k_is)
      (case a137 => k_is)
      (case l138 => k_is)
      (case c139 => k_is)
      (case k140 => k_is)
      (case a142 => k_is)
      (case pg143 => k_is)
      (case hd144 => k_is)
      (case po145 => k_is)
      (case sa146 => k_is)
      (case rd147 => k_is)
      (case ga148 => k_is)
      (case fa150 => k_is)
      (case gt151 => k_is)
      (case cv152 => k_is)
      (case a163 => k_is)
      (case i164 => k_is)
      (case mk165 => k_is)
      (case kc166 => k_is)
      (case l167 => k_is)
      (case c168 => k_is)
      (case k169 => k_is)
      (case q171 => k_is)
      (case a184 => k_is)
      (case rc185 => k_is)
      (case l186 => k_is)
      (case c187 => k_is)
      (case k188 => k_is)
      (case fi189 => k_is)
      (case pg190 => k_is)
      (case ic191 => k_is)
      (case a192 => k_is)
      (case ty193 => k_is)
      (case gt194 => k_is)
      (case tk195 => k_is)
      (case a208 => k_is)
      (case rc209 => k_is)
      (case l210 => k_is)
      (case c211 => k_is)
      (case k212 => k_is)
      (case a225 => k_is)
      (case gt226 => k_is)
      (case tk227 => k_is)
      (case rc228 => k_is)
      (case l229 => k_is)
      (case c230 => k_is)
      (case k231 => k_is)
      (case a244 => k_is)
      (case gt245 => k_is)
      (case tk246 => k_is)
      (case rc247 => k_is)
      (case l248 => k_is)
      (case c249 => k_is)
      (case k250 => k_is)
      (case a263 => k_is)
      (case gt264 => k_is)
      (case tk265 => k_is)
      (case rc266 => k_is)
      (case l267 => k_is)
      (case c268 => k_is)
      (case k269 => k_is)
      (case a282 => k_is)
      (case gt283 => k_is)
      (case tk284 => k_is)
      (case rc285 => k_is)
      (case l286 => k_is)
      (case c287 => k_is)
      (case k288 => k_is)
      (case a301 => k_is)
      (case gt302 => k_is)
      (case tk303 => k_is)
      (case rc304 => k_is)
      (case l305 => k_is)
      (case c306 => k_is)
      (case k307 => k_is)
      (case a320 => k_is)
      (case gt321 => k_is)
      (case tk322 => k_is)
      (case rc323 => k_is)
      (case l324 => k_is)
      (case c325 => k_is)
      (case k326 => k_is)
      (case a337 => k_is)
      (case i338 => k_is)
      (case l339 => k_is)
      (case c340 => k_is)
      (case k341 => k_is)
      (case a352 => k_is)
      (case i353 => k_is)
      (case l354 => k_is)
      (case c355 => k_is)
      (case k356 => k_is)
      (case a367 => k_is)
      (case i368 => k_is)
      (case l369 => k_is)
      (case c370 => k_is)
      (case k371 => k_is)
      (case lc388 => k_is)
      (case no389 => exact Ask.nsOk_of (by k_is) (by rfl))
      (case ee390 => k_is)
      (case en391 => k_is)
      (case na392 => k_is)
      (case na393 => k_is)
      (case na394 => k_is)
      (case na395 => k_is)
      (case ha396 => k_is)
      (case hn397 => k_is)
      (case ht398 => k_is)
      (case hm399 => k_is)
      (case kt400 => (intro t ht; simp only [Ask.kinds, List.mem_cons, List.not_mem_nil, or_false] at ht; rcases ht with rfl | rfl | rfl | rfl | rfl | rfl | rfl <;> exact Ask.kit_not (by k_is) (by k_is) (by k_is)))
      (case kd401 => (intro t ht; simp only [Ask.kinds, List.mem_cons, List.not_mem_nil, or_false] at ht; rcases ht with rfl | rfl | rfl | rfl | rfl | rfl | rfl <;> k_is))
      (case a403 => k_is)
      (case pg404 => k_is)
      (case hd405 => k_is)
      (case po406 => k_is)
      (case sa407 => k_is)
      (case rd408 => k_is)
      (case ga409 => k_is)
      (case a420 => k_is)
      (case i421 => k_is)
      (case mk422 => k_is)
      (case kc423 => k_is)
      (case l424 => k_is)
      (case c425 => k_is)
      (case k426 => k_is)
      (case a439 => k_is)
      (case rc440 => k_is)
      (case l441 => k_is)
      (case c442 => k_is)
      (case k443 => k_is)
      (case fi444 => k_is)
      (case pg445 => k_is)
      (case ic446 => k_is)
      (case a447 => k_is)
      (case ty448 => k_is)
      (case gt449 => k_is)
      (case tk450 => k_is)
      (case a463 => k_is)
      (case gt464 => k_is)
      (case tk465 => k_is)
      (case rc466 => k_is)
      (case l467 => k_is)
      (case c468 => k_is)
      (case k469 => k_is)
      (case a480 => k_is)
      (case i481 => k_is)
      (case l482 => k_is)
      (case c483 => k_is)
      (case k484 => k_is)
      (case a495 => k_is)
      (case i496 => k_is)
      (case l497 => k_is)
      (case c498 => k_is)
      (case k499 => k_is)
      (case rt504 => rfl)
      (case lk505 => k_is)
      (case rt506 => rfl)
      (case rt507 => rfl)
      (case rh508 => (first | kernel_rfl | rfl))
      (case rn509 => (first | k_is | rfl))
      (case a520 => k_is)
      (case i521 => k_is)
      (case l522 => k_is)
      (case c523 => k_is)
      (case k524 => k_is)
      (case gf525 => k_is)
      (case tk526 => k_is)
      (case fi527 => k_is)
      (case a538 => k_is)
      (case i539 => k_is)
      (case l540 => k_is)
      (case c541 => k_is)
      (case k542 => k_is)
      (case a553 => k_is)
      (case i554 => k_is)
      (case l555 => k_is)
      (case c556 => k_is)
      (case k557 => k_is)
      (case lc574 => k_is)
      (case no575 => exact Ask.nsOk_of (by k_is) (by rfl))
      (case ee576 => k_is)
      (case en577 => k_is)
      (case na578 => k_is)
      (case ha579 => k_is)
      (case hn580 => k_is)
      (case ht581 => k_is)
      (case hm582 => k_is)
      (case kt583 => (intro t ht; simp only [Ask.kinds, List.mem_cons, List.not_mem_nil, or_false] at ht; rcases ht with rfl | rfl | rfl | rfl | rfl | rfl | rfl <;> exact Ask.kit_not (by k_is) (by k_is) (by k_is)))
      (case kd584 => (intro t ht; simp only [Ask.kinds, List.mem_cons, List.not_mem_nil, or_false] at ht; rcases ht with rfl | rfl | rfl | rfl | rfl | rfl | rfl <;> k_is))
      (case a595 => k_is)
      (case l596 => k_is)
      (case c597 => k_is)
      (case k598 => k_is)
      (case a609 => k_is)
      (case l610 => k_is)
      (case c611 => k_is)
      (case k612 => k_is)
      (case a623 => k_is)
      (case l624 => k_is)
      (case c625 => k_is)
      (case k626 => k_is)
      (case a637 => k_is)
      (case l638 => k_is)
      (case c639 => k_is)
      (case k640 => k_is)
      (case a651 => k_is)
      (case l652 => k_is)
      (case c653 => k_is)
      (case k654 => k_is)
      (case a665 => k_is)
      (case l666 => k_is)
      (case c667 => k_is)
      (case k668 => k_is)
      (case a679 => k_is)
      (case l680 => k_is)
      (case c681 => k_is)
      (case k682 => k_is)
      (case a693 => k_is)
      (case l694 => k_is)
      (case c695 => k_is)
      (case k696 => k_is)
      (case a707 => k_is)
      (case l708 => k_is)
      (case c709 => k_is)
      (case k710 => k_is)
      (case a721 => k_is)
      (case l722 => k_is)
      (case c723 => k_is)
      (case k724 => k_is)
      (case a735 => k_is)
      (case l736 => k_is)
      (case c737 => k_is)
      (case k738 => k_is)
      (case a740 => k_is)
      (case z741 => k_is)
      (case z742 => k_is)
      (case z743 => k_is)
      (case z744 => k_is)
      (case z745 => k_is)
      (case z746 => k_is)
      (case z747 => k_is)
      (case z748 => k_is)
      (case z749 => k_is)
      (case z750 => k_is)
      (case z751 => k_is)
      (case z752 => k_is)
      (case z753 => k_is)
      (case z754 => k_is)
      (case z755 => k_is)
      (case z756 => k_is)
      (case z757 => k_is)
      (case z758 => k_is)
      (case mt759 => (first | decide | simp | exact List.mem_of_elem_eq_true (by kernel_rfl)))

