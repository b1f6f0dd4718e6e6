import PyProof.Rows.All
import Wide.All
import OpenK.AllK
import Wide.FinOn
import HandS.ForMost
import HandS.Wide
import PyProof.ReprRoads
import HandS.Property
import HandS.ClsMeth
import HandS.MakeKwOnly
import HandS.IsInst
import HandS.Evl
import HandS.Style
import HandS.Walk
import PyProof.InstNe
import HandS.Defaults
import PyProof.ReprLen
import HandS.CallLocal
import HandS.Exc
import HandS.ExcOwn
import HandS.ExcIs
import HandS.ExcField
import HandS.ExcValue
import KE.KExcIs
import HandS.ExcInit
import HandS.FStr
import KE.KExcSuper
import HandS.EndTab
import HandS.Star
import HandS.MethStar
import HandS.DictComp
import HandS.ListItems
import HandS.Conv
import HandS.More
import HandS.Strs
import HandS.Zip
import PyProof.Rows.SortStr
import HandS.SortRule
import HandS.NamedTupSort
import HandS.DictEq
import HandS.DeepEq
import HandS.OwnEq
import HandS.Iter
import HandS.TupAny
import KE.KSortTupAny
import PySem.Challenge.RW_askranges_k76_whole_orders_and_all_value
set_option Elab.async false
set_option linter.all false
set_option maxRecDepth 100000
set_option maxHeartbeats 2000000
/-! repr of data -/
namespace Ask
open PySem L2
open PyProof.Rows

/-- repr(x), x any data without a dict in it -/
def rRepr (K : PySem.W.Frag) : List V → Hp → VK → Prop := fun xs H Q =>
  ∃ (v : V) (d : PyData), xs = [v] ∧ Dp K H v d ∧ d.showable = true ∧ d.hasDict = false ∧ d.depth ≤ 60 ∧ d.shown.length ≤ sizeLine ∧ Q (.str d.shown) H
theorem cr_repr {X : Cx} (hg : X.A.guards = some []) (hu : X.A.units + 64 < cLine) :
    CallR X (.builtin "repr") (rRepr X.K) := by
  intro pins s σ H xs us Q I r h
  obtain ⟨v, d, rfl, hd, h1, h2, h3, h4, q⟩ := h
  obtain ⟨u, rfl, rx⟩ := vals1 r
  obtain ⟨as, rd⟩ := Dp.reads I d v u hd rx
  cases hd with
  | non =>
    cases rx
    exact P.repr_of_none ⟨.str _, H, I.tok _, ⟨_, rfl⟩, q⟩
  | bl b =>
    cases rx
    exact P.repr_of_bool ⟨.str _, H, I.tok _, ⟨_, rfl⟩, by cases b <;> exact q⟩
  | int i =>
    obtain ⟨t, rfl⟩ := rx
    have hz : i.natAbs.log2 < 1920 := by
      simpa [PyData.showable] using h1
    exact P.repr_of_int hz ⟨.str _, H, I.tok _, ⟨_, rfl⟩, q⟩
  | str x =>
    obtain ⟨t, rfl⟩ := rx
    exact P.repr_of_str ⟨.str _, H, I.tok _, ⟨_, rfl⟩, q⟩ h4
  | lst a b =>
    cases rx
    refine repr_of_reads' rd h1 (fun z => by rw [h2] at z; cases z) hg (by omega) (fun _ _ e => e) (fun h' u tk hk => ?_) h4
    exact ⟨.str _, H, I.kept hk, ⟨_, rfl⟩, q⟩
  | tup a b =>
    cases rx
    refine repr_of_reads' rd h1 (fun z => by rw [h2] at z; cases z) hg (by omega) (fun _ _ e => e) (fun h' u tk hk => ?_) h4
    exact ⟨.str _, H, I.kept hk, ⟨_, rfl⟩, q⟩
end Ask

set_option Elab.async false
set_option linter.all false
set_option maxRecDepth 100000
set_option maxHeartbeats 2000000
/-! the law's own def: run where no repr is under way -/
namespace Ask
open PySem L2
open PyProof.Rows

/-- a promise kept at calls around which no repr is under way -/
structure GOk (P : Program) (w : World) (K : PySem.W.Frag) (mg : Str → Option Value)
    (base : Heap) (CX : CXT) (k : Nat) (f : Addr) (fd : FuncData) (ps : List Str) (sp : Sp) : Prop where
  len : ∀ vs H Q E, sp vs H Q E → vs.length = ps.length
  run : ∀ (A : Around) (outer : List Env) (s : Shared) (H : Hp) (args : Args)
    (us : List Value) (vs : List V) (Q : VK) (E : XK), Room k A → A.guards = some [] →
    Env0 P w K mg base A outer s H → BindsTo s fd args (ps.zip us) → Vals vs us → sp vs H Q E →
    codeAny (model P w) A (.call (.ref f) args) (CR CX outer P w H s Q E) s

/-- such a def by its body -/
theorem gok_of {CX : CXT} {P : Program} {w : World} {K : PySem.W.Frag} {mg : Str → Option Value}
    {base : Heap} {k : Nat} {f : Addr} {name qual : Str} {params : Arguments} {body : List Stmt}
    {scope : Scope} {dV kV doc pm cdv ct oc : Value} {an od : Option Addr} {osl : Array (Option Value)}
    {N ps : List Str} {sp : Sp}
    (lk : K.lookup f = some ⟨oc, od, .func (PySem.W.fnOf name qual params body scope dV kV doc pm an cdv ct), osl⟩)
    (hcd : PySem.W.codeIn K cdv qual = true) (S : FnScope N ps scope)
    (len : ∀ vs H Q E, sp vs H Q E → vs.length = ps.length)
    (hbody : ∀ (A : Around) (outer : List Env) (s : Shared) (H : Hp) (vs : List V) (Q : VK) (E : XK),
      Room k (A.deeper (envOfC qual scope s.heap.objs.size f cdv)) →
      (A.deeper (envOfC qual scope s.heap.objs.size f cdv)).guards = some [] → sp vs H Q E →
      ∃ t, PSs (cxOf CX P w K mg base N qual scope f cdv A outer s H E) body t ∧
        t { nx := fun _ H' => Q .non H', rt := Q } (start N vs) H) :
    GOk P w K mg base CX (k + 1) f
      (PySem.W.fnOf name qual params body scope dV kV doc pm an cdv ct) ps sp where
  len := len
  run := by
    intro A outer s H args us vs Q E hr hgd e0 hb r hsp
    have hl := len _ _ _ _ hsp
    have KX : K.In s.heap := e0.mod.kin.keeps fun b o e => (e0.bs b o e).1
    have lim := e0.mod.nolimit.keeps fun b o e => (e0.bs b o e).1
    refine codeAny_call_function hr.depth (KX _ _ lk) rfl S.co S.gen rfl
      (PySem.W.codeRec_of KX hcd) (hb _ _ _ _ ?_)
    refine wpAny_newFunctionEnv_cells S.kind (fun ⟨n, v⟩ hy => ?_) fun env he s1 x => ?_
    · rcases S.par n (List.of_mem_zip hy).1 with q | q
      · exact Or.inl q
      · exact Or.inr ⟨q, PySem.W.cellsFrom_some _ _ _ (Or.inl q)⟩
    subst he
    refine ⟨lim.keeps x.toInCall.keep, codeAny_func ?_⟩
    obtain ⟨t, ht, hq⟩ := hbody A outer s H vs Q E (hr.deeper _) hgd hsp
    have I := inv_start (CX := CX) (mg := mg) (base := base) (w := w) (E := E) S hr.hd e0 hl r x
    refine wpAny_mono (ht.run [] s1 (start N vs) H _ I hq) (fun fl s' hs => ?_) fun e s' hs => hs
    cases fl with
    | ret u =>
      obtain ⟨v, σ', H', J, rv, q⟩ := hs
      exact ⟨v, H', J.os, J.bare, J.base, J.hok, rv, q⟩
    | next =>
      obtain ⟨σ', H', J, q⟩ := hs
      exact ⟨V.non, H', J.os, J.bare, J.base, J.hok, rfl, q⟩
    | brk => exact hs.elim fun _ z => z.elim fun _ y => y.2.elim
    | cont => exact hs.elim fun _ z => z.elim fun _ y => y.2.elim

/-- the same by the text's own words -/
theorem gok_fun {P : Program} {w : World} {K : PySem.W.Frag} {mg : Str → Option Value} {base : Heap}
    {CX : CXT} {x qual : Str} {st : Stmt} {f : Addr} {fd : FuncData} {N ps : List Str} {k : Nat} {sp : Sp}
    (F : Fun K x qual st f fd) (S : FnScope N ps (defScope st))
    (len : ∀ vs H Q E, sp vs H Q E → vs.length = ps.length)
    (hbody : ∀ (cdv : Value) (A : Around) (outer : List Env) (s : Shared) (H : Hp) (vs : List V) (Q : VK) (E : XK),
      Room k (A.deeper (envOfC qual (defScope st) s.heap.objs.size f cdv)) →
      (A.deeper (envOfC qual (defScope st) s.heap.objs.size f cdv)).guards = some [] → sp vs H Q E →
      ∃ t, PSs (cxOf CX P w K mg base N qual (defScope st) f cdv A outer s H E).nox (defBody st) t ∧
        t { nx := fun _ H' => Q .non H', rt := Q } (start N vs) H) :
    GOk P w K mg base CX (k + 1) f fd ps sp := by
  obtain ⟨oc, od, kV, doc, pm, an, cdv, ct, osl, rfl, lk, hcd⟩ := F.ex
  refine gok_of lk hcd S len fun A outer s H vs Q E hr hg hsp => ?_
  obtain ⟨t, h, q⟩ := hbody cdv A outer s H vs Q E hr hg hsp
  exact ⟨t, PSs.nox h, q⟩

/-- what of a heap the law's call sees: the script alone -/
def seen (K : PySem.W.Frag) (a : Addr) (vs : List Value) (ns : List Int) : Hp := fun b =>
  match K.lookup a with
  | some _ => none
  | none => if b = a then some (.frz { cls := .type "list", data := .seq vs.toArray } (.lst (ns.map V.int))) else none

theorem law_go {P : Program} {w : World} {K : PySem.W.Frag} {mg mb : Str → Option Value} {k : Nat}
    {fa a : Addr} {fd : FuncData} {x : Str} {sp : Sp} {s₁ : Shared} {vs : List Value} {ns : List Int}
    (KX : K.In s₁.heap) (hns : s₁.heap.Ns mainGlobals mg) (hb : s₁.heap.Ns builtinsNs mb)
    (hbb : ∀ x : Str, x ≠ "__name__" → mb x = bootBuiltins x) (hlim : s₁.heap.NoLimit) (hg : s₁.gens = #[])
    (ha : s₁.heap.get? a = some { cls := .type "list", data := .seq vs.toArray }) (hi : IntsAre vs ns)
    (hl : ns.length ≤ sizeLine) (hr : Room k callerA)
    (F : ∀ base : Heap, K.In base → base.Ns mainGlobals mg → GOk P w K mg base CX0 k fa fd [x] sp)
    (hbind : ∀ (s : Shared) (u : Value), BindsTo s fd ⟨[u], []⟩ [(x, u)])
    (hsp : ∀ H : Hp, Only H → SqL K H a (ns.map V.int) → sp [.ref a] H (fun v _ => v = .bl true) fun _ _ _ => False) :
    codeAny (model P w) callerA (.call (.ref fa) ⟨[.ref a], []⟩)
      (fun r s' => r = .ok (.ret (.bool true)) ∧ OldK s₁.heap s'.heap ∧ s'.os = s₁.os ∧ AllBare s'.gens) s₁ := by
  have rv := vals_ints hi
  have lenV := hi.length
  have hA : ∀ b u, seen K a vs ns b = some u → b = a ∧ K.lookup a = none ∧
      u = .frz { cls := .type "list", data := .seq vs.toArray } (.lst (ns.map V.int)) := by
    intro b u e
    unfold seen at e
    cases q : K.lookup a with
    | some o =>
      rw [q] at e
      cases e
    | none =>
      rw [q] at e
      by_cases hb : b = a
      · have e2 := (if_pos hb).symm.trans e
        exact ⟨hb, rfl, (Option.some.inj e2).symm⟩
      · have e2 := (if_neg hb).symm.trans e
        cases e2
  have hO : Only (seen K a vs ns) := fun b => by
    cases q : seen K a vs ns b with
    | none => exact Or.inl rfl
    | some u =>
      obtain ⟨_, _, e⟩ := hA b u q
      exact Or.inr ⟨_, _, by rw [e]⟩
  have hS : SqL K (seen K a vs ns) a (ns.map V.int) := by
    cases q : K.lookup a with
    | some o =>
      have e := KX a o q
      rw [ha] at e
      cases e
      exact Or.inr ⟨_, vs.toArray, _, q, rfl, rfl, rfl, by rw [List.size_toArray, lenV]; exact hl, by simpa using rv⟩
    | none =>
      refine Or.inl (Or.inr ⟨{ cls := .type "list", data := .seq vs.toArray }, ?_⟩)
      unfold seen
      rw [q]
      exact if_pos rfl
  have hok : HOk P w (seen K a vs ns) s₁.heap := fun b u e => by
    obtain ⟨rfl, _, rfl⟩ := hA b u e
    exact ⟨ha, by rw [List.length_map]; exact hl, vs, _, rv, ha⟩
  have inH : ∀ {b : Addr} {o : Obj}, s₁.heap.get? b = some o → seen K a vs ns b = none →
      (hidT s₁.heap (seen K a vs ns)).get? b = some o := fun e n => hidT_get e n
  have noD : ∀ {b : Addr} {o : Obj} {es : Array DictEntry} {ep : Nat}, s₁.heap.get? b = some o →
      o.data = .dict es ep → seen K a vs ns b = none := by
    intro b o es ep e d
    cases q : seen K a vs ns b with
    | none => rfl
    | some u =>
      obtain ⟨rfl, _, _⟩ := hA b u q
      rw [ha] at e
      cases e
      cases (show Data.seq vs.toArray _ = Data.dict es ep from d)
  have nsH : ∀ {b : Addr} {m : Str → Option Value}, s₁.heap.Ns b m → (hidT s₁.heap (seen K a vs ns)).Ns b m := by
    intro b m ⟨o, es, ep, e, d, r⟩
    exact ⟨o, es, ep, inH e (noD e d), d, r⟩
  have kH : K.In (hidT s₁.heap (seen K a vs ns)) := by
    intro b o e
    refine inH (KX b o e) ?_
    cases q : seen K a vs ns b with
    | none => rfl
    | some u =>
      obtain ⟨rfl, z, _⟩ := hA b u q
      rw [z] at e
      cases e
  have limH : (hidT s₁.heap (seen K a vs ns)).NoLimit := by
    obtain ⟨mc, h1, h2⟩ := hlim
    exact ⟨mc, nsH h1, h2⟩
  have e0 : Env0 P w K mg (hidT s₁.heap (seen K a vs ns)) callerA [] s₁ (seen K a vs ns) := {
    frames := rfl
    mod := ⟨kH, nsH hns, ⟨mb, nsH hb, hbb⟩, limH⟩
    bs := fun b o e => of_hidT e
    bsz := Nat.le_of_eq (hidT_size _ _)
    funs := trivial
    frf := fun b hb => absurd (show b ∈ ([] : List Addr) from hb) (by simp)
    hok := hok
    bare := .of_eq hg }
  have run := (F _ kH (nsH hns)).run callerA [] s₁ (seen K a vs ns) ⟨[.ref a], []⟩ [.ref a] [.ref a]
    _ _ hr rfl e0 (hbind s₁ (.ref a)) (.cons rfl .nil) (hsp _ hO hS)
  refine codeAny_mono run fun r s' h => ?_
  cases r with
  | error e => exact False.elim h
  | ok fl =>
    cases fl with
    | next => exact False.elim h
    | brk => exact False.elim h
    | cont => exact False.elim h
    | ret u =>
      obtain ⟨v, H', os, bare, un, hok', r', q⟩ := h
      obtain rfl : v = V.bl true := q
      obtain rfl : u = Value.bool true := r'
      refine ⟨rfl, OldK.of_keep fun b o e => ?_, os, bare⟩
      cases q : seen K a vs ns b with
      | none => exact un.keep b o e q (fun z => nomatch z) (fun z => nomatch z)
      | some u =>
        obtain ⟨_, _, rfl⟩ := hA b u q
        obtain ⟨e1, _⟩ := hok b _ q
        obtain ⟨e2, _⟩ := hok' b _ (un.frzs b _ _ q)
        rw [e] at e1
        cases e1
        exact e2

/-- the goal that the head leaves, from the law's promise -/
theorem walk_go {l : PySem.W.OpenLaw} {n k : Nat} {q : Program} {loose : List Str}
    {XP : (Str → Option Value) → Heap → Prop} {YP : World → Heap → Prop} {d : DefRec}
    {K : Params → PySem.W.Frag} {sp : World → Sp} {x : Str} (hn : l.most = some n) (hn2 : n ≤ sizeLine)
    (hdf : d.params.defaults = []) (hr : Room k callerA)
    (hY : ∀ (w : World) (h : Heap), YP w h → (K w.params).In h)
    (F : ∀ (w : World) (mg : Str → Option Value) (fa : Addr) (h : Heap), (K w.params).In h →
      h.Ns mainGlobals mg → mg d.name = some (.ref fa) →
      ∃ fd : FuncData, (∀ (s : Shared) (u : Value), BindsTo s fd ⟨[u], []⟩ [(x, u)]) ∧
        ∀ base : Heap, (K w.params).In base → base.Ns mainGlobals mg →
          GOk l.prog w (K w.params) mg base CX0 k fa fd [x] (sp w))
    (hsp : ∀ (w : World) (H : Hp) (a : Addr) (ns : List Int), ns.length ≤ n → Only H →
      SqL (K w.params) H a (ns.map V.int) → sp w [.ref a] H (fun v _ => v = .bl true) fun _ _ _ => False) :
    PySem.W.WalkO q loose XP YP l.row.toRowW d [] (fun f vs => PySem.call f vs) := by
  refine Att.attach_call hn hdf ?_
  intro w s₀ s₁ mg mb fa o pm cd doc a vs ns G Y ho hd hcd hmg hobj hints hlen hg
  have KX := hY w _ Y
  obtain ⟨fd, hb, hF⟩ := F w mg fa _ KX G.T.g hmg
  exact law_go KX G.T.g G.T.b G.T.builtins G.T.nolimit hg hobj hints (Nat.le_trans hlen hn2) hr hF hb
    fun H hO hS => hsp w H a ns hlen hO hS
/-- what a law promises: True, whatever the script -/
def spLaw (K : PySem.W.Frag) : Sp := fun vs H Q _ => ∃ (s : Addr) (ns : List Int), vs = [.ref s] ∧
  SqL K H s (ns.map V.int) ∧ ns.length ≤ 63 ∧ ∀ H', Q (.bl true) H'
/-- the goal that the head leaves, from such a def -/
theorem walk_law {l : PySem.W.OpenLaw} {k : Nat} {q : Program} {loose : List Str}
    {XP : (Str → Option Value) → Heap → Prop} {YP : World → Heap → Prop} {d : DefRec}
    {K : Params → PySem.W.Frag} (hn : l.most = some 63) (hdf : d.params.defaults = []) (hr : Room k callerA)
    (hY : ∀ (w : World) (h : Heap), YP w h → (K w.params).In h)
    (F : ∀ (w : World) (mg : Str → Option Value) (fa : Addr) (h : Heap), (K w.params).In h →
      h.Ns mainGlobals mg → mg d.name = some (.ref fa) →
      ∃ fd : FuncData, (∀ (s : Shared) (u : Value), BindsTo s fd ⟨[u], []⟩ [("script", u)]) ∧
        ∀ base : Heap, (K w.params).In base → base.Ns mainGlobals mg →
          GOk l.prog w (K w.params) mg base CX0 k fa fd ["script"] (spLaw (K w.params))) :
    PySem.W.WalkO q loose XP YP l.row.toRowW d [] (fun f vs => PySem.call f vs) :=
  walk_go (n := 63) (k := k) (x := "script") (sp := fun w => spLaw (K w.params)) hn (by decide) hdf hr hY F
    fun w H a ns hl _ hS => ⟨a, ns, rfl, hS, hl, fun _ => rfl⟩
/-- how the law's one argument binds -/
theorem bind_script {K : PySem.W.Frag} {x qual : Str} {st : Stmt} {f : Addr} {fd : FuncData} (F : Fun K x qual st f fd)
    (h : ∀ (kV doc pm : Value) (an : Option Addr) (cdv ct u : Value),
      bindArgs (PySem.W.fnOf x qual (defArgs st) (defBody st) (defScope st) .none kV doc pm an cdv ct) ⟨[u], []⟩ = pure [((Str.ofString "script"), u)])
    (s : Shared) (u : Value) : BindsTo s fd ⟨[u], []⟩ [(Str.ofString "script", u)] := by
  obtain ⟨oc, od, kV, doc, pm, an, cdv, ct, osl, rfl, _, _⟩ := F.ex
  exact .of_eq (h kV doc pm an cdv ct u)
end Ask

set_option Elab.async false
set_option linter.all false
set_option maxRecDepth 100000
set_option maxHeartbeats 2000000
/-! static methods of a class; own == with both answers, != by it -/
namespace Ask
open PySem L2
open PyProof.Rows

/-! ### C.m(e, ..), m a staticmethod -/
structure SMet (K : PySem.W.Frag) (C : Addr) (mc : Value) (m : Str) (p g : Addr) : Prop where
  at_ : PySem.W.findCls K (.ref C) mc m = some (.get (.builtin "staticmethod.__get__") (.ref p) .none (.ref C))
  rc : ∃ rest, PySem.W.recIn K p "staticmethod" = some (.ref g :: rest)
  kp : PySem.W.keepIn K (.ref g) = true
def tSMeth (C : Addr) (sp : Sp) (E : XK) (ta : TE) (t : TA) : TE := fun σ H Q =>
  ta σ H fun x H1 => x = .ref C ∧ t σ H1 fun vs H2 => sp vs H2 Q E
section
variable {X : Cx} {CX : CXT} {k : Nat} {C p g : Addr} {mc : Value} {sp : Sp} {E : XK} {o e : Expr}
  {es : List Expr} {m : Str} {pos apos : Pos} {ta : TE} {t : TA} {pl : Sem Bool} {fd : FuncData} {ps : List Str}
theorem pe_smeth (he : PE X o ta) (r : ClX.CRead X.K C mc) (c : SMet X.K C mc m p g)
    (F : FnOk X.prog X.w X.K X.mg X.base CX k g fd ps sp) (hr : Room k X.A) (hb : Binds X.K fd ps [])
    (hx : Passes CX X E) (ha : PA X (e :: es) t)
    (hst : starEach (e :: es) X.env = (false, eval e X.env) :: starEach es X.env := by rfl)
    (hpl : (backTo pos (starEach es X.env)).any (·.1) = false := by rfl)
    (ht : eval (.Call (.Attribute o m apos) (e :: es) [] pos) X.env = (do
      let ov ← eval o X.env; standAt apos.atName
      let (f, first) ← holding [ov] (getMethod ov m pl)
      callWith pos f first (backTo pos (starEach (e :: es) X.env)) (backToKw pos (keywordEach [] X.env))) := by rfl) :
    PE X (.Call (.Attribute o m apos) (e :: es) [] pos) (tSMeth C sp E ta t) := by
  refine ⟨fun pins s σ H Q I h => ?_⟩
  refine PySem.W.methodCall_KW (pl := pl) (thn (he.run pins s σ H _ I h) ?_) ht
  rintro u s1 ⟨x, H1, I1, rx, ex, q⟩
  subst ex
  obtain rfl : u = Value.ref C := rx
  obtain ⟨rest, hp⟩ := c.rc
  refine PySem.W.method_cls I1.kIn r.ga (PySem.W.cls_bind I1.kIn r.rd c.at_ ?_)
  have I2 := I1.tok (s1.toks + 1)
  refine wpAny_call (PySem.W.sm_get (s := { s1 with toks := s1.toks + 1 }) I2.kIn hp (PySem.W.handed_on rfl ?_))
  refine PySem.W.callWith_K (h₀ := X.base) I2.ok.mod.kin c.kp (thn (ha.run pos pins _ σ H1 _ I2 q) ?_) hst hpl
  rintro us s2 ⟨vs, H2, I3, rv, q2⟩
  refine ⟨I3.kIn, ?_⟩
  exact run_fn (us := us) F hr hb .nil hx I3 rv (by rw [List.append_nil]; exact q2)
end

/-! ### own == and != -/
/-- the class at C (of object alone) has its own __eq__, the def at f, and no own __ne__ -/
structure EqCls (K : PySem.W.Frag) (C f : Addr) : Prop where
  cls : ∃ (nm q : Str) (N : Addr) (bs : List Value) (hdct : Bool) (sn : List Str) (sub : List Value) (ab : Bool)
    (col : Option Bool) (dd : Option Addr) (k0 k1 k2 k3 k5 : Option Value) (newId : String),
    K.lookup C = some (excClassObj nm q C N bs [.type "object"] hdct sn sub ab col dd k0 k1 k2 k3 k5 newId) ∧
    PySem.W.nsOkIn K N = true ∧ PySem.W.nsIn K N "__eq__" = some (some (.ref f)) ∧ PySem.W.nsIn K N "__ne__" = some none
  at_ : PySem.W.findIn K (.ref C) "__eq__" = some (some (.ref f))
  fn : PySem.W.isFn K (.ref f) = true

/-- kinds of the right side: what == asks of its type -/
def Kind (K : PySem.W.Frag) (C : Addr) (x : V) (H : Hp) : Prop :=
  (x = .non ∧ PySem.W.notFirst K C (.type "NoneType") = true) ∨ (∃ b, x = .bl b ∧ PySem.W.notFirst K C (.type "bool") = true) ∨
  (∃ i, x = .int i ∧ PySem.W.notFirst K C (.type "int") = true) ∨ (∃ t, x = .str t ∧ PySem.W.notFirst K C (.type "str") = true) ∨
  (∃ a xs, x = .ref a ∧ H a = some (.lst xs) ∧ PySem.W.notFirst K C (.type "list") = true) ∨
  (∃ a xs, x = .ref a ∧ H a = some (.tup xs) ∧ PySem.W.notFirst K C (.type "tuple") = true) ∨
  (∃ a xs, x = .ref a ∧ H a = some (.dK xs) ∧ PySem.W.notFirst K C (.type "dict") = true) ∨
  (∃ a D dx fs, x = .ref a ∧ H a = some (.ins D dx fs) ∧ PySem.W.notFirst K C (.ref D) = true)
section
variable {X : Cx} {pins : List (Addr × Obj)} {σ : L2.St} {H : Hp} {s : Shared} {C : Addr}
theorem looks_kind {x : V} {u : Value} (I : Inv X pins σ H s) (rx : RelV x u) (k : Kind X.K C x H) :
    ∃ tb, (∀ M, PySem.W.Looks M s.heap (typeOf u) tb) ∧ PySem.W.notFirst X.K C tb = true := by
  have of_obj : ∀ {a : Addr} {o : Obj}, s.heap.get? a = some o → ∀ M, PySem.W.Looks M s.heap (typeOf (.ref a)) o.cls := by
    intro a o e M
    exact (PySem.W.Looks.ld e).andThen .now
  rcases k with ⟨rfl, n⟩ | ⟨b, rfl, n⟩ | ⟨i, rfl, n⟩ | ⟨t, rfl, n⟩ | ⟨a, xs, rfl, e, n⟩ | ⟨a, xs, rfl, e, n⟩ | ⟨a, xs, rfl, e, n⟩ | ⟨a, D, dx, fs, rfl, e, n⟩
  · cases rx
    exact ⟨_, fun M => PySem.W.Looks.of_pure rfl, n⟩
  · cases rx
    exact ⟨_, fun M => PySem.W.Looks.of_pure rfl, n⟩
  · obtain ⟨t, rfl⟩ := rx
    exact ⟨_, fun M => PySem.W.Looks.of_pure rfl, n⟩
  · obtain ⟨t', rfl⟩ := rx
    exact ⟨_, fun M => PySem.W.Looks.of_pure rfl, n⟩
  · cases rx
    obtain ⟨_, its, m, _, e1⟩ := I.hok a _ e
    exact ⟨_, of_obj e1, n⟩
  · cases rx
    obtain ⟨_, its, _, ob, e1, c, _⟩ := I.hok a _ e
    have z := of_obj e1
    rw [c] at z
    exact ⟨_, z, n⟩
  · cases rx
    obtain ⟨_, _, vs, _, ob, es, ep, e1, c, _⟩ := I.hok a _ e
    have z := of_obj e1
    rw [c.1] at z
    exact ⟨_, z, n⟩
  · cases rx
    obtain ⟨mA, J, _⟩ := ins_get I.hok e
    obtain ⟨od, J, _⟩ := J.look
    exact ⟨_, fun M => J.type, n⟩

/-- x == y, x an instance of the class at C -/
def rEqO (C : Addr) (sp : Sp) (K : PySem.W.Frag) : R2 := fun x y H Q => ∃ a dx fs, x = .ref a ∧ H a = some (.ins C dx fs) ∧ Kind K C y H ∧
  sp [x, y] H (fun v H' => ∃ b, v = .bl b ∧ Q (.bl b) H') E0
def rNeO (C : Addr) (sp : Sp) : R2 := fun x y H Q => ∃ a b dx dy fs gs, x = .ref a ∧ y = .ref b ∧ H a = some (.ins C dx fs) ∧
  H b = some (.ins C dy gs) ∧ sp [x, y] H (fun v H' => ∃ b, v = .bl b ∧ Q (.bl (!b)) H') E0
variable {k : Nat} {f : Addr} {fd : FuncData} {ps : List Str} {sp : Sp}
/-- the call of the own __eq__ -/
theorem run_eq (F : FnOk X.prog X.w X.K X.mg X.base CX0 k f fd ps sp) {A : Around} (hr : Room k A) (hf : A.frames = X.A.frames)
    (hb : Binds X.K fd ps []) (I : Inv X pins σ H s) {x y : V} {u v : Value} (rx : RelV x u) (ry : RelV y v) {Q : VK} {E : Value → Shared → Prop}
    (h : sp [x, y] H Q E0) : wpAny (model X.prog X.w) A (call (.ref f) [u, v]) (EP X pins σ Q) E s := by
  have e0 : Env0 X.prog X.w X.K X.mg X.base A X.stack s H := by
    have e := I.env0
    exact ⟨hf.trans e.frames, e.mod, e.bs, e.bsz, e.funs, e.frf, e.hok, e.bare⟩
  have hl := F.len _ _ _ _ h
  have hbd := hb s [u, v] I.kIn hl
  refine wpAny_call (codeAny_mono (F.run A X.stack s H ⟨[u, v], []⟩ [u, v] [x, y] _ E0 hr e0 hbd (.cons rx (.cons ry .nil)) h) ?_)
  intro r s' hq
  cases r with
  | error e => exact hq.elim
  | ok fl =>
    cases fl with
    | ret w => exact I.after hq
    | next => exact False.elim hq
    | brk => exact False.elim hq
    | cont => exact False.elim hq
theorem op_eqO (F : FnOk X.prog X.w X.K X.mg X.base CX0 k f fd ps sp) (hr : Room k X.A) (c : EqCls X.K C f) (hb : Binds X.K fd ps []) :
    OpR X (compareOp .Eq) (rEqO C sp X.K) := by
  intro pins s σ H x y v u Q I rx ry hq
  obtain ⟨a, dx, fs, rfl, ha, hk, h⟩ := hq
  cases rx
  obtain ⟨tb, ht, hn⟩ := looks_kind I ry hk
  obtain ⟨mA, J, _⟩ := ins_get I.hok ha
  obtain ⟨od, J, _⟩ := J.look
  obtain ⟨m, hF⟩ := I.fr
  show wpAny (model X.prog X.w) X.A (richCompare .Eq (.ref a) u) (EP X pins σ Q) X.xe s
  refine PySem.W.cmp_K (op := .Eq) hr.units0 hF I.ok.mod.kin J (ht _) hn c.at_ c.fn ?_
  refine thn (run_eq F hr rfl hb I (x := .ref a) rfl ry h) ?_
  rintro w s' ⟨z, H', I', rz, b, ez, q⟩
  subst ez
  cases rz
  exact ⟨.bl b, H', I', rfl, q⟩
theorem op_neO (F : FnOk X.prog X.w X.K X.mg X.base CX0 k f fd ps sp) (hr : Room (k + 1) X.A) (c : EqCls X.K C f) (hb : Binds X.K fd ps []) :
    OpR X (compareOp .NotEq) (rNeO C sp) := by
  intro pins s σ H x y v u Q I rx ry hq
  obtain ⟨a, b, dx, dy, fs, gs, rfl, rfl, ha, hb', h⟩ := hq
  cases rx
  cases ry
  obtain ⟨nm, q, N, bs, hdct, sn, sub, ab, col, dd, k0, k1, k2, k3, k5, newId, hC, hN, he, hne⟩ := c.cls
  have KX := I.kIn
  obtain ⟨_, _, _, oa, _⟩ := I.hok a _ ha
  obtain ⟨_, _, _, ob, _⟩ := I.hok b _ hb'
  have hns : s.heap.Ns N (s.heap.nsMap N) := .of_isNs (PySem.W.isNs_of_in KX hN)
  have me : s.heap.nsMap N "__eq__" = some (.ref f) := by
    obtain ⟨o, es, ep, ho, hd, _, hf⟩ := hns
    have z := he
    unfold PySem.W.nsIn at z
    split at z
    · rename_i c' d' es' n' sl' q'
      have w := KX _ _ q'
      rw [ho] at w
      cases w
      cases hd
      split at z
      · rename_i e' he'
        rw [← hf]
        unfold nsFind findBy
        rw [← Array.find?_toList, he']
        exact (Option.some.inj z)
      · split at z <;> cases z
    · cases z
  have mn : s.heap.nsMap N "__ne__" = none := PySem.W.nsMap_none_of_in KX hN hne
  have hfo : ∃ of, s.heap.get? f = some of ∧ of.cls = .type "function" := by
    have z : (X.K.lookup f).map (·.cls) = some (Value.type "function") := beq_iff_eq.mp c.fn
    cases q : X.K.lookup f with
    | none =>
      rw [q] at z
      cases z
    | some o =>
      rw [q] at z
      exact ⟨o, KX _ _ q, Option.some.inj z⟩
  obtain ⟨of, hof, hoc⟩ := hfo
  have OE : s.heap.OwnEqNoNe a C f "object" [.type "object"] :=
    ⟨_, of, nm, q, N, bs, hdct, sn, sub, ab, col, dd, k0, k1, k2, k3, k5, newId, _, _, oa, rfl, KX _ _ hC, hns, me, hof, hoc, PySem.F.cmp_object.mro, PySem.F.cmp_object.eq.lookup, mn⟩
  obtain ⟨hh, g, d, t, os⟩ := s
  refine compareOp_ne_ownEq PySem.F.cmp_object OE ob rfl (by have := hr.un; omega) ?_
  refine wpAny_mono (run_eq F hr.in1 rfl hb I (x := .ref a) (y := .ref b) rfl rfl h) ?_ (fun _ _ e => e)
  rintro w s' ⟨z, H', I', rz, c', ez, q'⟩
  subst ez
  cases rz
  exact ⟨c', rfl, .bl _, H', I', rfl, q'⟩
end
end Ask

set_option Elab.async false
set_option linter.all false
set_option maxRecDepth 100000
set_option maxHeartbeats 2000000
/-! what the written part holds of a def, a method, a class -/
namespace Ask
open PySem L2
open PyProof.Rows
def kinds : List String := ["NoneType", "bool", "int", "str", "list", "tuple", "dict"]
/-- what isinstance asks of the class of an instance, and of other kinds beside it -/
structure InsTy (K : PySem.W.Frag) (C : Addr) : Prop where
  ha : PySem.W.findIn K (.ref C) "__class__" = some (some (.builtin "object.__class__"))
  hn : PySem.W.specialIn K (.builtin "object.__class__") "__get__" = some (some (.builtin "getset_descriptor.__get__"))
  ht : PySem.W.takesIn K (.builtin "object.__class__") = some true
  hm : PySem.W.mroIn K C (.type "object") = some true
  kt : ∀ t ∈ kinds, PySem.W.kitOne K (.type t) (.ref C) = some false
theorem InsTy.of {K : PySem.W.Frag} {C a dx : Addr} {fs : List (Str × V)} {H : Hp} (i : InsTy K C) (c : Cls K C) (e : H a = some (.ins C dx fs)) :
    TyX K H (.ref a) (.ref C) := .base (.ins e c i.ha i.hn i.ht i.hm)
theorem pe_gi {X : Cx} {x : Str} {pos : Pos} {v : V} (hg : Gl X x) (h : ∃ u, X.mg x = some u ∧ RelV v u)
    (hd : (x == ("__debug__" : Str)) = false := by decide) : PE X (.Name x pos) (tC v) := by
  obtain ⟨u, hm, r⟩ := h
  exact pe_glob hg hm r hd
theorem nsOk_of {K : PySem.W.Frag} {N : Addr} {oc : Value} {od : Option Addr} {es : Array DictEntry} {n : Nat} {sl : Array (Option Value)}
    (l : K.lookup N = some ⟨oc, od, .dict es n, sl⟩) (r : (es.toList.all fun e => match e.key with | .str _ _ => true | _ => false) = true) : PySem.W.nsOkIn K N = true := by
  unfold PySem.W.nsOkIn
  rw [l]
  rw [Array.all_toList] at r
  exact r
theorem kit_not {K : PySem.W.Frag} {C : Addr} {t : String} (i : PySem.W.isClsIn K C = true) (ty : PySem.W.typeIn K (.ref C) = some (.type "type"))
    (s : PySem.W.subIn K (.type t) (.ref C) = some false) : PySem.W.kitOne K (.type t) (.ref C) = some false := by
  have i' : (PySem.W.clsIn K C).isSome = true := i
  unfold PySem.W.kitOne
  rw [if_neg (by simp)]
  show (if ((PySem.W.clsIn K C).isSome && PySem.W.typeIn K (.ref C) == some (.type "type")) = true then _ else _) = _
  rw [i', ty]
  exact s
theorem kit_self {K : PySem.W.Frag} {C : Addr} : PySem.W.kitOne K (.ref C) (.ref C) = some true := by
  unfold PySem.W.kitOne
  rw [if_pos (by simp)]
section
variable {K : PySem.W.Frag} {h : Heap} {mg : Str → Option Value} {x qual : Str} {st : Stmt} {f p C : Addr}
  {oc kV doc pm cdv ct mc : Value} {od an : Option Addr} {osl : Array (Option Value)} {rest : List Value}
/-- the def st, with no positional defaults, as the object of K -/
def DefAt (K : PySem.W.Frag) (x qual : Str) (st : Stmt) (f : Addr) (oc : Value) (od : Option Addr) (kV doc pm : Value)
    (an : Option Addr) (cdv ct : Value) (osl : Array (Option Value)) : Prop :=
  K.lookup f = some ⟨oc, od, .func (PySem.W.fnOf x qual (defArgs st) (defBody st) (defScope st) .none kV doc pm an cdv ct), osl⟩
theorem fun_get (X : K.In h) (G : h.Ns mainGlobals mg) (a : PySem.W.nsIn K mainGlobals x = some (some (.ref f)))
    (l : K.lookup f = some ⟨oc, od, .func (PySem.W.fnOf x qual (defArgs st) (defBody st) (defScope st) .none kV doc pm an cdv ct), osl⟩)
    (c : PySem.W.codeIn K cdv qual = true) (k : PySem.W.keepIn K (.ref f) = true) :
    ∃ f fd, Fun K x qual st f fd ∧ mg x = some (.ref f) := ⟨f, _, fun_mk l c k, PySem.W.mg_of X G a⟩
theorem meth_get (X : K.In h) (a : PySem.W.findIn K (.ref C) x = some (some (.ref f))) (i : PySem.W.isFn K (.ref f) = true)
    (l : K.lookup f = some ⟨oc, od, .func (PySem.W.fnOf x qual (defArgs st) (defBody st) (defScope st) .none kV doc pm an cdv ct), osl⟩)
    (c : PySem.W.codeIn K cdv qual = true) (k : PySem.W.keepIn K (.ref f) = true) :
    ∃ f fd, Fun K x qual st f fd ∧ Meth K C x f := ⟨f, _, fun_mk l c k, ⟨a, i, k⟩⟩
theorem prop_get (X : K.In h) (a : PySem.W.findIn K (.ref C) x = some (some (.ref p)))
    (g : PySem.W.specialIn K (.ref p) "__get__" = some (some (.builtin "property.__get__"))) (t : PySem.W.takesIn K (.ref p) = some true)
    (r : PySem.W.recIn K p "property" = some (.ref f :: rest))
    (l : K.lookup f = some ⟨oc, od, .func (PySem.W.fnOf x qual (defArgs st) (defBody st) (defScope st) .none kV doc pm an cdv ct), osl⟩)
    (c : PySem.W.codeIn K cdv qual = true) (k : PySem.W.keepIn K (.ref f) = true) :
    ∃ f fd p, Fun K x qual st f fd ∧ PropOf K C x p f := ⟨f, _, p, fun_mk l c k, ⟨a, g, t, rest, r⟩⟩
theorem stat_get (X : K.In h) (a : PySem.W.findCls K (.ref C) mc x = some (.get (.builtin "staticmethod.__get__") (.ref p) .none (.ref C)))
    (r : PySem.W.recIn K p "staticmethod" = some (.ref f :: rest))
    (l : K.lookup f = some ⟨oc, od, .func (PySem.W.fnOf x qual (defArgs st) (defBody st) (defScope st) .none kV doc pm an cdv ct), osl⟩)
    (c : PySem.W.codeIn K cdv qual = true) (k : PySem.W.keepIn K (.ref f) = true) :
    ∃ f fd p, Fun K x qual st f fd ∧ SMet K C mc x p f := ⟨f, _, p, fun_mk l c k, ⟨a, ⟨rest, r⟩, k⟩⟩
/-- __init__ with one keyword-only parameter of a default that is an int -/
theorem init_get {D : Addr} {y : Str} {i : Int} {t : Tok} (X : K.In h) (mk : PySem.W.makesIn K C = true) (kc : PySem.W.keepIn K (.ref C) = true)
    (a : PySem.W.findIn K (.ref C) "__init__" = some (some (.ref f))) (i1 : PySem.W.isFn K (.ref f) = true)
    (l : K.lookup f = some ⟨oc, od, .func (PySem.W.fnOf "__init__" qual (defArgs st) (defBody st) (defScope st) .none (.ref D) doc pm an cdv ct), osl⟩)
    (c : PySem.W.codeIn K cdv qual = true) (k : PySem.W.keepIn K (.ref f) = true)
    (q : PySem.W.nsIn K D y = some (some (.int i t))) :
    ∃ f fd, FunD K "__init__" qual (defArgs st) (defBody st) (defScope st) [] [(y, V.int i)] f fd ∧ Mk K C f := by
  refine ⟨f, _, ⟨⟨oc, od, .none, .ref D, doc, pm, an, cdv, ct, osl, rfl, l, c, .inl ⟨rfl, rfl⟩, .inr ⟨D, rfl, ?_⟩⟩, k⟩, ⟨mk, a, i1, kc⟩⟩
  intro z hz
  obtain rfl := List.mem_singleton.mp hz
  exact ⟨_, q, t, rfl⟩
theorem init_get0 (X : K.In h) (mk : PySem.W.makesIn K C = true) (kc : PySem.W.keepIn K (.ref C) = true)
    (a : PySem.W.findIn K (.ref C) "__init__" = some (some (.ref f))) (i1 : PySem.W.isFn K (.ref f) = true)
    (l : K.lookup f = some ⟨oc, od, .func (PySem.W.fnOf "__init__" qual (defArgs st) (defBody st) (defScope st) .none kV doc pm an cdv ct), osl⟩)
    (c : PySem.W.codeIn K cdv qual = true) (k : PySem.W.keepIn K (.ref f) = true) :
    ∃ f fd, Fun K "__init__" qual st f fd ∧ Mk K C f := ⟨f, _, fun_mk l c k, ⟨mk, a, i1, kc⟩⟩
theorem cls_get (X : K.In h) (G : h.Ns mainGlobals mg) (a : PySem.W.nsIn K mainGlobals x = some (some (.ref C)))
    (pg : PySem.W.plainGet K C Str.empty = true) (hd : PySem.W.hasDictIn K C = true) (po : PySem.W.plainOver K C = true)
    (sa : PySem.W.findIn K (.ref C) "__setattr__" = some (some (.builtin "object.__setattr__")))
    (rd : PySem.W.readsIn K C (.type "type") = true) (ga : PySem.W.specialIn K (.ref C) "__getattribute__" = some (some (.builtin "type.__getattribute__"))) :
    ∃ C, mg x = some (.ref C) ∧ Cls K C ∧ ClX.CRead K C (.type "type") ∧ PySem.W.nsIn K mainGlobals x = some (some (.ref C)) :=
  ⟨C, PySem.W.mg_of X G a, ⟨pg, hd, po, sa⟩, ⟨rd, ga⟩, a⟩
theorem eq_get {nm q : Str} {N : Addr} {bs : List Value} {hdct : Bool} {sn : List Str} {sub : List Value} {ab : Bool}
    {col : Option Bool} {dd : Option Addr} {k0 k1 k2 k3 k5 : Option Value} {newId : String}
    (l : K.lookup C = some (excClassObj nm q C N bs [.type "object"] hdct sn sub ab col dd k0 k1 k2 k3 k5 newId))
    (n : PySem.W.nsOkIn K N = true) (e : PySem.W.nsIn K N "__eq__" = some (some (.ref f))) (ne : PySem.W.nsIn K N "__ne__" = some none)
    (a : PySem.W.findIn K (.ref C) "__eq__" = some (some (.ref f))) (i : PySem.W.isFn K (.ref f) = true) : EqCls K C f :=
  ⟨⟨nm, q, N, bs, hdct, sn, sub, ab, col, dd, k0, k1, k2, k3, k5, newId, l, n, e, ne⟩, a, i⟩
theorem glob_get {v : V} {u : Value} (X : K.In h) (G : h.Ns mainGlobals mg) (a : PySem.W.nsIn K mainGlobals x = some (some u)) (r : RelV v u) :
    ∃ u, mg x = some u ∧ RelV v u := ⟨u, PySem.W.mg_of X G a, r⟩
/-- the globals that are not bound: built-in names -/
theorem blt_get (X : K.In h) (G : h.Ns mainGlobals mg) (a : PySem.W.nsIn K mainGlobals x = some none) : mg x = none := PySem.W.mg_none_of X G a
end
end Ask

set_option Elab.async false
set_option linter.all false
set_option maxRecDepth 100000
set_option maxHeartbeats 2000000
/-! the pen of a law: its promises; ints as data -/
namespace Ask
open PySem L2
open PyProof.Rows
/-! ### the pen: a list of a list of ints, a place and what is left of the last cell -/
/-- at p stands a pen over the list at l, that has been at i places -/
def Pen (H : Hp) (p : Addr) (n : Nat) : Prop :=
  ∃ (l : Addr) (i v : Int) (ns : List Int), H p = some (.lst [.ref l, .int i, .int v]) ∧
    H l = some (.lst (ns.map V.int)) ∧ 0 ≤ i ∧ i ≤ (n : Int) ∧ 0 ≤ v ∧ ns.length ≤ 100000

/-- all but what stands at p is as it was -/
def But (p : Addr) (H H' : Hp) : Prop := ∀ b o, b ≠ p → H b = some o → H' b = some o
theorem But.refl (p : Addr) (H : Hp) : But p H H := fun _ _ _ e => e
theorem But.trans {p : Addr} {H H1 H2 : Hp} (a : But p H H1) (b : But p H1 H2) : But p H H2 :=
  fun c o h e => b c o h (a c o h e)
theorem But.upd {p : Addr} {H : Hp} {o : HO} : But p H (upd H p o) := fun b u h e => by
  rw [upd_ne h]
  exact e
theorem But.new {p q : Addr} {H : Hp} {o : HO} (h : H q = none) : But p H (L2.upd H q o) := fun b u _ e => by
  rw [upd_ne (ne_of_none e h)]
  exact e
theorem But.seq {K : PySem.W.Frag} {p a : Addr} {H H' : Hp} {xs : List V} (e : But p H H') (hp : a ≠ p)
    (h : SqL K H a xs) : SqL K H' a xs := by
  rcases h with (h | ⟨o, h⟩) | h
  · exact .inl (.inl (e _ _ hp h))
  · exact .inl (.inr ⟨o, e _ _ hp h⟩)
  · exact .inr h

/-- _law_pen(script) -/
def spPen (K : PySem.W.Frag) : Sp := fun vs H Q _ => ∃ (a : Addr) (ns : List Int), vs = [.ref a] ∧
  SqL K H a (ns.map V.int) ∧ ns.length ≤ 63 ∧ ∀ p H', H p = none → But p H H' → Pen H' p 0 → Q (.ref p) H'
/-- _law_next(pen) -/
def spNext : Sp := fun vs H Q _ => ∃ (p : Addr) (n : Nat) (l : Addr) (i v : Int) (ns : List Int), vs = [.ref p] ∧
  H p = some (.lst [.ref l, .int i, .int v]) ∧ H l = some (.lst (ns.map V.int)) ∧ 0 ≤ i ∧ i ≤ (n : Int) ∧ n ≤ 1000000 ∧ ns.length ≤ 100000 ∧
  ∀ z : Int, 0 ≤ z → ∀ H', But p H H' → H' p = some (.lst [.ref l, .int (i + 1), .int v]) → Q (.int z) H'
/-- _law_draw(pen, below) -/
def spDraw : Sp := fun vs H Q _ => ∃ (p : Addr) (n : Nat) (b : Int), vs = [.ref p, .int b] ∧ Pen H p n ∧ n ≤ 1000000 ∧
  0 < b ∧ b < 2 ^ 200 ∧ ∀ (z : Int) H', 0 ≤ z → z < b → But p H H' → Pen H' p (n + 1) → Q (.int z) H'

theorem cut_ints (ns : List Int) (k : Nat) : cutV (ns.map V.int) none (some (k : Int)) = (ns.take k).map V.int := by
  unfold cutV
  rw [HT.sIx_none, HT.sIx_nat, List.drop_zero, List.length_map, Nat.sub_zero, ← List.map_take]
  congr 1
  by_cases h : k ≤ ns.length
  · rw [Nat.min_eq_left h]
  · rw [Nat.min_eq_right (by omega), List.take_of_length_le (Nat.le_refl _), List.take_of_length_le (by omega)]
theorem But.of {p q : Addr} {H H' : Hp} {o : HO} (h : But p H H') (n : H q = none) : But p H (L2.upd H' q o) := fun b u hb e => by
  rw [upd_ne (ne_of_none e n)]
  exact h b u hb e
theorem But.same {p : Addr} {H H' : Hp} (h : But p H H') (n : H p = none) : Same H H' := fun b u e => h b u (ne_of_none e n) e
theorem Same.new {q : Addr} {H : Hp} {o : HO} (h : H q = none) : Same H (L2.upd H q o) := fun b u e => by
  rw [upd_ne (ne_of_none e h)]
  exact e
theorem Same.of {q : Addr} {H H' : Hp} {o : HO} (h : Same H H') (n : H q = none) : Same H (L2.upd H' q o) := fun b u e => by
  rw [upd_ne (ne_of_none e n)]
  exact h b u e
theorem Same.grow {q : Addr} {H H' : Hp} {o : HO} (h : Same H H') (n : H' q = none) : Same H (L2.upd H' q o) := Same.of h (h.free n)
theorem Same.but {p : Addr} {H H' : Hp} (h : Same H H') : But p H H' := fun b u _ e => h b u e
theorem dp_ints {K : PySem.W.Frag} {H : Hp} : ∀ ns : List Int, DpAll K H (ns.map V.int) (ns.map PyData.int)
  | [] => .nil
  | n :: ns => .cons (.int n) (dp_ints ns)
theorem lay_ints : ∀ ns : List Int, PyData.canLayAll0 (ns.map PyData.int) = true
  | [] => rfl
  | n :: ns => by
    rw [List.map_cons]
    unfold PyData.canLayAll0
    rw [lay_ints ns]
    rfl
theorem dep_ints : ∀ ns : List Int, PyData.depthAll (ns.map PyData.int) ≤ 1
  | [] => by decide
  | n :: ns => by
    have := dep_ints ns
    rw [List.map_cons]
    unfold PyData.depthAll
    unfold PyData.depth
    omega
theorem shaped_ints (ns : List Int) : SeqAt.shaped (.list (ns.map PyData.int)) = true := by
  unfold SeqAt.shaped
  unfold PyData.canLay0
  rw [lay_ints]
  have := dep_ints ns
  unfold PyData.depth
  rw [decide_eq_true (by omega)]
  rfl
theorem ne_nil (ns : List Int) : (!PyData.eqv (.list (ns.map PyData.int)) (.list [])) = !ns.isEmpty := by
  cases ns with
  | nil => rfl
  | cons n ns => rfl
theorem ints_at {ns : List Int} {j : Nat} (h : j < ns.length) : ∃ c, (ns.map V.int)[j]? = some (.int c) :=
  ⟨ns[j], by rw [List.getElem?_map, List.getElem?_eq_getElem h]; rfl⟩
theorem mod_below (i : Int) {n : Nat} (hn : 0 < n) : ∃ j : Nat, i % (n : Int) = (j : Int) ∧ j < n := by
  have h1 := Int.emod_nonneg i (show (n : Int) ≠ 0 by omega)
  have h2 := Int.emod_lt_of_pos i (show (0 : Int) < (n : Int) by omega)
  exact ⟨(i % (n : Int)).toNat, by omega, by omega⟩

theorem rd_ixL {K : PySem.W.Frag} {H : Hp} {p : Addr} {xs : List V} {v : V} {R : V → Prop} (j : Nat) (h : H p = some (.lst xs)) (hx : xs[j]? = some v) (k : R v) :
    ∃ p' xs' i v', V.ref p = V.ref p' ∧ V.int (j : Int) = V.int i ∧ SqL K H p' xs' ∧ atI xs' i = some v' ∧ R v' :=
  ⟨p, xs, _, v, rfl, rfl, SqL.of h, atI_nat hx, k⟩
end Ask

set_option Elab.async false
set_option linter.all false
set_option maxRecDepth 100000
set_option maxHeartbeats 2000000
/-! data whose text is short -/
namespace Ask
open PySem L2
open PyProof.Rows
/-- data that can be shown, with a text of at most n signs -/
structure Shows (n : Nat) (d : PyData) : Prop where
  can : d.showable = true
  nod : d.hasDict = false
  dep : d.depth ≤ 20
  len : d.shown.length ≤ n
theorem showAll : ∀ ds : List PyData, (∀ d ∈ ds, d.showable = true) → PyData.showableAll ds = true
  | [], _ => rfl
  | d :: ds, h => by
    unfold PyData.showableAll
    rw [h d List.mem_cons_self, showAll ds fun x hx => h x (List.mem_cons_of_mem _ hx)]
    rfl
theorem nodAll : ∀ ds : List PyData, (∀ d ∈ ds, d.hasDict = false) → PyData.hasDictAll ds = false
  | [], _ => rfl
  | d :: ds, h => by
    unfold PyData.hasDictAll
    rw [h d List.mem_cons_self, nodAll ds fun x hx => h x (List.mem_cons_of_mem _ hx)]
    rfl
theorem depAll {k : Nat} : ∀ ds : List PyData, (∀ d ∈ ds, d.depth ≤ k) → PyData.depthAll ds ≤ k
  | [], _ => by
    unfold PyData.depthAll
    exact Nat.zero_le _
  | d :: ds, h => by
    have h1 := h d List.mem_cons_self
    have h2 := depAll ds fun x hx => h x (List.mem_cons_of_mem _ hx)
    unfold PyData.depthAll
    omega
theorem lenAll {n : Nat} : ∀ ds : List PyData, (∀ d ∈ ds, d.shown.length ≤ n) → ((PyData.shownAll ds).map (·.length)).sum ≤ n * ds.length ∧ (PyData.shownAll ds).length = ds.length
  | [], _ => by
    unfold PyData.shownAll
    exact ⟨Nat.zero_le _, rfl⟩
  | d :: ds, h => by
    have h1 := h d List.mem_cons_self
    have h2 := lenAll ds fun x hx => h x (List.mem_cons_of_mem _ hx)
    unfold PyData.shownAll
    rw [List.map_cons, List.sum_cons, List.length_cons, List.length_cons, Nat.mul_succ]
    exact ⟨by omega, by omega⟩
/-- a list of such -/
theorem shows_list {n k : Nat} {ds : List PyData} (h : ∀ d ∈ ds, Shows n d) (hd : ∀ d ∈ ds, d.depth ≤ 18) (hn : ds.length ≤ k) : Shows (n * k + 2 * k + 3) (.list ds) where
  can := by
    unfold PyData.showable
    exact showAll ds fun d hx => (h d hx).can
  nod := by
    unfold PyData.hasDict
    exact nodAll ds fun d hx => (h d hx).nod
  dep := by
    have z := depAll ds hd
    unfold PyData.depth
    omega
  len := by
    have z := lenAll ds fun d hx => (h d hx).len
    have y := listText_len_le (PyData.shownAll ds)
    have m : n * ds.length ≤ n * k := Nat.mul_le_mul_left n hn
    unfold PyData.shown
    omega
theorem shows_bool (b : Bool) : Shows 5 (.bool b) := by
  refine ⟨rfl, rfl, ?_, ?_⟩
  · unfold PyData.depth
    omega
  · cases b <;> decide +kernel
theorem dp_bls {K : PySem.W.Frag} {H : Hp} : ∀ bs : List Bool, DpAll K H (bs.map V.bl) (bs.map PyData.bool)
  | [] => .nil
  | b :: bs => .cons (.bl b) (dp_bls bs)
theorem dep_bools (bs : List Bool) : ∀ d ∈ bs.map PyData.bool, d.depth ≤ 18 := fun d hd => by
  obtain ⟨b, _, rfl⟩ := List.mem_map.mp hd
  unfold PyData.depth
  omega
theorem shows_bools {k : Nat} (bs : List Bool) (h : bs.length ≤ k) : Shows (5 * k + 2 * k + 3) (.list (bs.map PyData.bool)) :=
  shows_list (fun d hd => by
    obtain ⟨b, _, rfl⟩ := List.mem_map.mp hd
    exact shows_bool b) (dep_bools bs) (by rw [List.length_map]; exact h)
/-- repr of such, as a call asks it -/
theorem repr_ask {K : PySem.W.Frag} {H : Hp} {v : V} {d : PyData} {n : Nat} {Q : VK} (s : Shows n d) (hn : n ≤ sizeLine) (h : Dp K H v d) (q : Q (.str d.shown) H) : rRepr K [v] H Q :=
  ⟨v, d, rfl, h, s.can, s.nod, Nat.le_trans s.dep (by decide), Nat.le_trans s.len hn, q⟩
theorem repr_bools {K : PySem.W.Frag} {H : Hp} {t : Addr} {xs : List V} {R : PyData → Prop} (bs : List Bool) (h : H t = some (.lst xs)) (e : xs = bs.map V.bl) (n : bs.length ≤ 100)
    (q : R (PyData.list (bs.map PyData.bool))) :
    ∃ (v : V) (d : PyData), [V.ref t] = [v] ∧ Dp K H v d ∧ d.showable = true ∧ d.hasDict = false ∧ d.depth ≤ 60 ∧ d.shown.length ≤ sizeLine ∧ R d := by
  subst e
  have s := shows_bools bs n
  exact ⟨_, _, rfl, .lst (SqL.of h) (dp_bls bs), s.can, s.nod, Nat.le_trans s.dep (by decide), Nat.le_trans s.len (by decide), q⟩
end Ask

set_option Elab.async false
set_option linter.all false
set_option maxRecDepth 100000
set_option maxHeartbeats 2000000
/-! a class that a local name holds, made; a classmethod called by keywords -/
namespace Ask
open PySem L2
open PyProof.Rows
/-- the i-th slot holds the class at C -/
def tMakeL (i : Nat) (C : Addr) (sp : Sp) (dvs : List V) (E : XK) (t : TA) : TE := fun σ H Q =>
  σ[i]? = some (some (.ref C)) ∧ tMake C sp dvs E t σ H Q
section
variable {X : Cx} {CX : CXT} {k i : Nat} {C f p q g : Addr} {fd : FuncData} {ps ks : List Str} {sp : Sp} {dvs : List V}
  {ds : List Value} {E : XK} {x m : Str} {pos apos : Pos} {ppos : Pos} {e o : Expr} {es : List Expr} {t tk : TA} {ta : TE}
  {kws : List Keyword} {mc : Value} {pl : Sem Bool} {gg : List Value → List Value → List Value} {gV : List V → List V → List V}
theorem pe_makeL (M : Mk X.K C f) (F : FnOk X.prog X.w X.K X.mg X.base CX k f fd ps sp) (hr : Room (k + 1) X.A)
    (hN : X.N[i]? = some x) (hv : Vis X.env.scope x) (hb : Binds X.K fd ps ds) (hd : Vals dvs ds) (hx : Passes CX X E)
    (ha : PA X (e :: es) t) (hdb : (x == ("__debug__" : Str)) = false := by decide)
    (hcd : (x == ("__classdict__" : Str)) = false := by decide)
    (he : starEach (e :: es) X.env = (false, eval e X.env) :: starEach es X.env := by rfl)
    (hpl : (backTo pos (starEach es X.env)).any (·.1) = false := by rfl) :
    PE X (.Call (.Name x ppos) (e :: es) [] pos) (tMakeL i C sp dvs E t) := by
  refine ⟨fun pins s σ H Q I h => ?_⟩
  obtain ⟨hs, ht⟩ := h
  have hv' := (pe_var (pos := ppos) hN hv hdb hcd).run pins s σ H (fun v H1 => v = .ref C ∧ H1 = H) I ⟨.ref C, hs, rfl, rfl⟩
  refine wpAny_Call_Name_kw (thn hv' ?_)
  rintro u s1 ⟨v, H1, I1, r1, rfl, rfl⟩
  cases r1
  refine PySem.W.callWith_K (h₀ := X.base) I.ok.mod.kin M.kp (thn (ha.run pos pins s1 σ _ _ I1 ht) ?_) he hpl
  rintro us s2 ⟨vs, H2, I2, r, q⟩
  exact ⟨I2.kIn, run_make M F hr hb hd hx I2 r q⟩

/-- o.m(k = v, ..), m a classmethod of the class at C, by keywords alone -/
def tCMethK (C : Addr) (n : Nat) (sp : Sp) (gV : List V → List V → List V) (E : XK) (ta : TE) (tk : TA) : TE := fun σ H Q =>
  ta σ H fun x H1 => x = .ref C ∧ tk σ H1 fun zs H2 => zs.length = n ∧ sp (gV [.ref C] zs) H2 Q E
theorem pe_cmethK (he : PE X o ta) (r : ClX.CRead X.K C mc) (c : ClX.CMet X.K C mc m p g)
    (F : FnOk X.prog X.w X.K X.mg X.base CX k g fd ps sp) (hr : Room k X.A) (hb : KBn X.K fd ps 1 ks gg gV)
    (hx : Passes CX X E) (hkw : PK X kws tk)
    (hall : (backToKw pos (keywordEach kws X.env)).all (·.1.isSome) = true := by rfl)
    (hks : (backToKw pos (keywordEach kws X.env)).filterMap (·.1) = ks := by rfl)
    (hpl : ((backTo pos (starEach [] X.env)).any (·.1) || (backToKw pos (keywordEach kws X.env)).any (·.1.isNone)) = false := by rfl)
    (ht : eval (.Call (.Attribute o m apos) [] kws pos) X.env = (do
      let ov ← eval o X.env; standAt apos.atName
      let (f, first) ← holding [ov] (getMethod ov m pl)
      callWith pos f first (backTo pos (starEach [] X.env)) (backToKw pos (keywordEach kws X.env))) := by rfl) :
    PE X (.Call (.Attribute o m apos) [] kws pos) (tCMethK C ks.length sp gV E ta tk) := by
  refine ⟨fun pins s σ H Q I h => ?_⟩
  refine PySem.W.methodCall_KW (pl := pl) (thn (he.run pins s σ H _ I h) ?_) ht
  rintro u s1 ⟨x, H1, I1, rx, ex, q⟩
  subst ex
  obtain rfl : u = Value.ref C := rx
  refine ClX.getmethcm_ok I1 r c fun s2 I2 => ?_
  have hM : PySem.W.MethP X.K s1.heap.objs.size g (.ref C) s2.heap := ⟨ClX.pin_at I2, I2.kIn⟩
  refine PySem.W.callWith_of (P := PySem.W.MethP X.K s1.heap.objs.size g (.ref C)) hpl (PySem.W.keeps_M c.fi) (PyProof.Rows.evalArgs_kw2_nil hall (thn (hkw.run pos _ s2 σ H1 _ I2 q) ?_))
  rintro ws s3 ⟨zs, H2, I3, rz, l2, q2⟩
  refine ⟨⟨ClX.pin_at I3, I3.kIn⟩, ?_⟩
  rw [hks]
  have r2 : Vals (gV [.ref C] zs) (gg [.ref C] ws) := hb.rel (.cons rfl .nil) rz
  have run := F.run X.A X.stack s3 H2 ⟨[.ref C], ks.zip ws⟩ (gg [.ref C] ws) (gV [.ref C] zs) Q E hr I3.env0
    (hb.to s3 [.ref C] ws I3.kIn rfl (rz.length.symm.trans l2)) r2 q2
  refine wpAny_call (PySem.W.method_call (ClX.pin_at I3) (codeAny_mono run ?_))
  intro r s' hq
  have I4 := ClX.unpin I3
  cases r with
  | error e => exact hx pins σ H2 s3 e s' I4 hq
  | ok fl =>
    cases fl with
    | ret u => exact I4.after hq
    | next => exact False.elim hq
    | brk => exact False.elim hq
    | cont => exact False.elim hq
end
end Ask

set_option Elab.async false
set_option linter.all false
set_option maxRecDepth 100000
set_option maxHeartbeats 2000000
/-! the pen beside other objects; data whose text is short -/
namespace Ask
open PySem L2
open PyProof.Rows
theorem Pen.mono {H : Hp} {p : Addr} {n m : Nat} (h : Pen H p n) (e : n ≤ m) : Pen H p m := by
  obtain ⟨l, i, v, ns, h1, h2, h3, h4, h5⟩ := h
  exact ⟨l, i, v, ns, h1, h2, h3, by omega, h5⟩
/-- a new object beside the pen -/
theorem Pen.new {H : Hp} {p q : Addr} {n : Nat} {o : HO} (h : Pen H p n) (e : H q = none) : Pen (upd H q o) p n := by
  obtain ⟨l, i, v, ns, h1, h2, h3⟩ := h
  exact ⟨l, i, v, ns, by rw [upd_ne (ne_of_none h1 e)]; exact h1, by rw [upd_ne (ne_of_none h2 e)]; exact h2, h3⟩
/-- all kept -/
theorem Pen.same {H H' : Hp} {p : Addr} {n : Nat} (h : Pen H p n) (s : Same H H') : Pen H' p n := by
  obtain ⟨l, i, v, ns, h1, h2, h3⟩ := h
  exact ⟨l, i, v, ns, s _ _ h1, s _ _ h2, h3⟩
theorem Pen.ne {H : Hp} {p q : Addr} {n : Nat} {o : HO} (h : Pen H p n) (e : H q = some o) (ho : ∀ l i v, o ≠ .lst [.ref l, .int i, .int v]) : q ≠ p := by
  obtain ⟨l, i, v, ns, h1, _⟩ := h
  exact ne_of e h1 (ho l i v)
theorem Pen.ne0 {H : Hp} {p q : Addr} {n : Nat} (h : Pen H p n) (e : H q = none) : p ≠ q := by
  obtain ⟨l, i, v, ns, h1, _⟩ := h
  exact ne_of_none h1 e
/-- what stands where the pen does not, is where a new object cannot be -/
theorem But.free {H H' : Hp} {p q : Addr} {n : Nat} (h : But p H H') (hp : Pen H' p n) (e : H' q = none) : H q = none := by
  cases z : H q with
  | none => rfl
  | some o =>
    have y := h q o (Ne.symm (hp.ne0 e)) z
    rw [e] at y
    cases y
/-- an item of a written list at a drawn place -/
theorem at_drawn {xs : List V} {z : Int} {n : Int} (h0 : 0 ≤ z) (h1 : z < n) (hn : n = (xs.length : Int)) : ∃ v, atI xs z = some v ∧ v ∈ xs := by
  obtain ⟨j, rfl⟩ := Int.eq_ofNat_of_zero_le h0
  have hj : j < xs.length := by omega
  exact ⟨xs[j], atI_nat (List.getElem?_eq_getElem hj), List.getElem_mem hj⟩
/-- [e, ..][digit]: the list new at q, one draw, the digit's item -/
theorem Pen.pick {K : PySem.W.Frag} {H0 H H' : Hp} {p q : Addr} {n : Nat} {xs : List V} {z b : Int} (hp : Pen H p n) (hq : H q = none) (bb : But p (upd H q (.lst xs)) H')
    (z0 : 0 ≤ z) (z1 : z < b) (hb : b = (xs.length : Int)) (B : But p H0 H) : ∃ v, atI xs z = some v ∧ v ∈ xs ∧ SqL K H' q xs ∧ But p H0 H' := by
  obtain ⟨v, hv, hm⟩ := at_drawn z0 z1 hb
  exact ⟨v, hv, hm, SqL.of (bb q _ (Ne.symm (hp.ne0 hq)) upd_same), B.trans ((But.new hq).trans bb)⟩
theorem Shows.up {n m : Nat} {d : PyData} (s : Shows n d) (h : n ≤ m) : Shows m d := ⟨s.can, s.nod, s.dep, Nat.le_trans s.len h⟩
theorem shows_int {i : Int} (h : i.natAbs < 10 ^ 12) : Shows 13 (.int i) := by
  refine ⟨?_, rfl, ?_, PyData.shown_int_le h⟩
  · unfold PyData.showable
    exact decide_eq_true (Nat.lt_of_lt_of_le (PySem.Flt.log2_lt_of (by decide : 0 < 40) (Nat.lt_of_lt_of_le h (by decide))) (by decide))
  · unfold PyData.depth
    omega
theorem shows_none : Shows 4 .none := by
  refine ⟨rfl, rfl, ?_, by decide +kernel⟩
  unfold PyData.depth
  omega
/-- the data of a flat value -/
def flatD : V → PyData
  | .bl b => .bool b
  | .int i => .int i
  | .str x => .str x
  | _ => .none
def Flat : V → Prop
  | .non => True
  | .bl _ => True
  | .int i => i.natAbs < 10 ^ 12
  | .str x => Shows 20 (.str x)
  | _ => False
theorem Flat.shows : ∀ {v : V}, Flat v → Shows 20 (flatD v)
  | .non, _ => shows_none.up (by decide)
  | .bl b, _ => (shows_bool b).up (by decide)
  | .int i, h => (shows_int h).up (by decide)
  | .str x, h => h
theorem Flat.dep : ∀ {v : V}, Flat v → (flatD v).depth ≤ 18
  | .non, _ => by
    show PyData.depth _ ≤ 18
    unfold flatD PyData.depth
    omega
  | .bl b, _ => by
    unfold flatD PyData.depth
    omega
  | .int i, h => by
    unfold flatD PyData.depth
    omega
  | .str x, h => by
    unfold flatD PyData.depth
    omega
theorem Flat.dp {K : PySem.W.Frag} {H : Hp} : ∀ {v : V}, Flat v → Dp K H v (flatD v)
  | .non, _ => .non
  | .bl b, _ => .bl b
  | .int i, _ => .int i
  | .str x, _ => .str x
theorem dp_flats {K : PySem.W.Frag} {H : Hp} : ∀ {vs : List V}, (∀ v ∈ vs, Flat v) → DpAll K H vs (vs.map flatD)
  | [], _ => .nil
  | v :: vs, h => .cons (h v List.mem_cons_self).dp (dp_flats fun x hx => h x (List.mem_cons_of_mem _ hx))
theorem repr_flats {K : PySem.W.Frag} {H : Hp} {t : Addr} {R : PyData → Prop} {xs : List V} (h : H t = some (.lst xs)) (hf : ∀ v ∈ xs, Flat v) (n : xs.length ≤ 100)
    (q : R (PyData.list (xs.map flatD))) :
    ∃ (v : V) (d : PyData), [V.ref t] = [v] ∧ Dp K H v d ∧ d.showable = true ∧ d.hasDict = false ∧ d.depth ≤ 60 ∧ d.shown.length ≤ sizeLine ∧ R d := by
  have s := shows_list (n := 20) (k := 100) (ds := xs.map flatD) (fun d hd => by
    obtain ⟨v, hv, rfl⟩ := List.mem_map.mp hd
    exact (hf v hv).shows) (fun d hd => by
    obtain ⟨v, hv, rfl⟩ := List.mem_map.mp hd
    exact (hf v hv).dep) (by rw [List.length_map]; exact n)
  exact ⟨_, _, rfl, .lst (SqL.of h) (dp_flats hf), s.can, s.nod, Nat.le_trans s.dep (by decide), Nat.le_trans s.len (by decide), q⟩
/-- a call by keywords of a def without defaults -/
theorem Fun.kb {K : PySem.W.Frag} {x qual : Str} {st : Stmt} {f : Addr} {fd : FuncData} {ps : List Str} (F : L2.Fun K x qual st f fd) (n : Nat) (ks : List Str) (g : {α : Type} → List α → List α → List α)
    (hrel : ∀ {vs zs : List V} {us ws : List Value}, Vals vs us → Vals zs ws → Vals (g vs zs) (g us ws))
    (h : ∀ (kV doc pm : Value) (an : Option Addr) (cdv ct : Value) (us ws : List Value), us.length = n → ws.length = ks.length →
      bindArgs (PySem.W.fnOf x qual (defArgs st) (defBody st) (defScope st) .none kV doc pm an cdv ct) ⟨us, ks.zip ws⟩ = pure (ps.zip (g us ws))) :
    KBn K fd ps n ks (fun us ws => g us ws) (fun vs zs => g vs zs) := by
  obtain ⟨oc, od, kV, doc, pm, an, cdv, ct, osl, rfl, lk, hcd⟩ := F.ex
  exact ⟨fun s us ws X l1 l2 => BindsTo.of_looks fun M => PySem.W.Looks.of_pure (h kV doc pm an cdv ct us ws l1 l2), fun r1 r2 => hrel r1 r2⟩
theorem vals_drop : ∀ (j : Nat) {vs : List V} {us : List Value}, Vals vs us → Vals (vs.drop j) (us.drop j)
  | 0, _, _, h => h
  | _ + 1, _, _, .nil => .nil
  | j + 1, _, _, .cons _ h => vals_drop j h
theorem vals_take : ∀ (j : Nat) {vs : List V} {us : List Value}, Vals vs us → Vals (vs.take j) (us.take j)
  | 0, _, _, _ => .nil
  | _ + 1, _, _, .nil => .nil
  | j + 1, _, _, .cons a h => .cons a (vals_take j h)
end Ask

set_option Elab.async false
set_option linter.all false
set_option maxRecDepth 100000
set_option maxHeartbeats 2000000
/-! try: .. except x as n: .. n is kept in another name: behind the suite the error is an object of the heap -/
namespace Ask
open PySem PySem.Spec L2
open PyProof.Rows
/-- at a: an error of the class cls, its dict at d -/
def ExK (cls : Value) (d : Option Addr) (a : Addr) : HO := .ext fun h => ∃ (o : Obj) (vs : Array Value),
  h.get? a = some o ∧ Zc cls d o ∧ o.data = .fields vs
theorem exK_ok {P : Program} {w : World} {H : Hp} {h : Heap} {a : Addr} {cls : Value} {d : Option Addr} {o : Obj} {vs : Array Value}
    (e : h.get? a = some o) (z : Zc cls d o) (f : o.data = .fields vs) : ObjOk P w H h a (ExK cls d a) :=
  ⟨⟨o, vs, e, z, f⟩, ⟨o, e⟩, fun _ _ ⟨o1, v1, q, r⟩ k => ⟨o1, v1, k o1 q, r⟩⟩
theorem exK_at {P : Program} {w : World} {H : Hp} {h : Heap} {a : Addr} {cls : Value} {d : Option Addr} (x : ObjOk P w H h a (ExK cls d a)) :
    ∃ (o : Obj) (vs : Array Value), h.get? a = some o ∧ Zc cls d o ∧ o.data = .fields vs := x.1
section
variable {X : Cx} {pins : List (Addr × Obj)} {σ : L2.St} {H : Hp} {s sI s' : Shared} {B : Heap} {a : Addr} {o : HO}
/-- landed, and one new object of it tracked -/
theorem landedK (I : Inv X pins σ H sI) (nb : ∀ b ob, sI.heap.get? b = some ob → b ∉ frs X.stack → B.get? b = some ob)
    (st : B.StaysIn s'.heap) (up : sI.heap.UpToSlots s'.heap) (os : s'.os = sI.os) (ag : AllBare s'.gens)
    (na : H a = none) (nw : sI.heap.get? a = none) (new : ObjOk X.prog X.w (upd H a o) s'.heap a o) : Inv X pins σ (upd H a o) s' := by
  have slot : ∀ b ob, sI.heap.get? b = some ob → b ∈ frs X.stack → ∃ sl, s'.heap.get? b = some { ob with slots := sl } := by
    intro b ob e hm
    obtain ⟨_, o', e', nf⟩ := I.stack.mem hm
    obtain rfl : ob = o' := Option.some.inj (e.symm.trans e')
    exact up b ob e nf
  have U : Un (frs X.stack) [] H (upd H a o) sI.heap s'.heap := by
    refine ⟨fun b ob e _ hm _ => st b ob (nb b ob e hm), fun b ob e _ hm _ => slot b ob e hm, fun b ob e n _ => ?_, fun b ob e _ => ?_, fun b xs e => ?_, fun b u v e => ?_, fun b ps e => ⟨#[], ?_⟩⟩
    · rw [upd_ne (fun z => by rw [z, nw] at e; cases e)]
      exact n
    · by_cases hm : b ∈ frs X.stack
      · obtain ⟨sl, q⟩ := slot b ob e hm
        exact ⟨_, q⟩
      · exact ⟨ob, st b ob (nb b ob e hm)⟩
    · rw [upd_ne (ne_of_none e na)]
      exact e
    · rw [upd_ne (ne_of_none e na)]
      exact e
    · rw [upd_ne (ne_of_none e na), e]
      simp
  have J := I.call (ch := []) (h' := s'.heap) (g' := s'.gens) (t' := s'.toks) (d' := s'.drawn) U
    (HOk.laidN ((I.inGround nb).kept st) (fun _ _ z => z) na new) ag (fun _ z => nomatch z)
  have e : s' = { sI with heap := s'.heap, gens := s'.gens, drawn := s'.drawn, toks := s'.toks } := by
    cases s'
    cases os
    rfl
  rw [e]
  exact J
theorem Inv.inSuite (I : L2.Inv X pins σ H s) (b : Addr) : L2.Inv (X.suite b (X.pn ++ pins)) [] σ H s where
  ok := I.ok.suite b _
  os := I.os
  bare := I.bare
  base := I.base
  loc := I.loc
  cell := I.cell
  free := I.free
  freeC := I.freeC
  pin := fun p hp => I.pin p (by
    have hp' : p ∈ (X.pn ++ pins) ++ [] := hp
    rwa [List.append_nil] at hp')
  hok := I.hok
  len := I.len
theorem Inv.outSuite {b : Addr} {q : List (Addr × Obj)} (ok : X.Ok) (I : L2.Inv (X.suite b (X.pn ++ pins)) q σ H s) : L2.Inv X pins σ H s where
  ok := ok
  os := I.os
  bare := I.bare
  base := I.base
  loc := I.loc
  cell := I.cell
  free := I.free
  freeC := I.freeC
  pin := fun p hp => I.pin p (List.mem_append_left q hp)
  hok := I.hok
  len := I.len
end
/-- the wish of an except clause whose error is tracked from then on -/
def wKeep (K : PySem.W.Frag) (c : Value) (i : Nat) (ts : TS) (W : WX) (D : Ends) : WX := fun cls d σ H => ∃ b, PySem.W.exmOne K cls c = some b ∧ (b = false → W cls d σ H) ∧
  (b = true → ∀ a, H a = none → ts { nx := fun τ G => D.nx (τ.set i none) G, rt := D.rt, bk := fun τ G => D.bk (τ.set i none) G, ct := fun τ G => D.ct (τ.set i none) G } (σ.set i (some (.ref a))) (upd H a (ExK cls d a)))
section
variable {X : Cx} {x n : Str} {c : Value} {i : Nat} {body suite : List Stmt} {b₀ : Stmt} {np pos pos' : Pos} {tb : WX → TS} {ts : TS} {Wout : WX}
theorem ps_try_keep (hs : X.stack = X.env :: X.outer) (hf : X.env.frame = some X.env.locals) (hN : X.N.Nodup) (hi : X.N[i]? = some n)
    (hln : X.env.kindOf n = some .local) (hc : Names X x c) (tk : Takes X Wout)
    (hb : ∀ (W : WX) (pn : List (Addr × Obj)) (xe : Value → Shared → Prop), Takes (X.tr pn xe) W →
      PassesOwn (model X.prog X.w) X.A X.env xe → PSs (X.tr pn xe) body (tb W))
    (hsu : ∀ (a : Addr) (pn : List (Addr × Obj)), PSs (X.suite a pn) (b₀ :: suite) ts) :
    PS X (.Try body [.ExceptHandler (some (.Name x np)) (some n) (b₀ :: suite) pos'] [] [] pos)
      (fun D σ H => tb (wKeep X.K c i ts Wout D) D σ H) := by
  constructor
  intro pins s σ H D I h
  have ok := I.ok
  have hfr : X.A.frames = some (X.env :: X.outer) := ok.frames.trans (congrArg some hs)
  refine wpAny_Try_except ?_
  let hd := [ExceptHandler.ExceptHandler (some (.Name x np)) (some n) (b₀ :: suite) pos']
  let K2 : Value → Shared → Prop := fun e s2 => wpAny (model X.prog X.w) X.A (setFlight e none)
    (fun _ s3 => wpAny (model X.prog X.w) X.A (handleBy e X.env hd) (SP X pins D) X.xe s3) X.xe s2
  let K1 : Value → Shared → Prop := fun e s1 => wpAny (model X.prog X.w) X.A (noteFrame e X.env) (fun _ s2 => K2 e s2) X.xe s1
  have catch_ : Takes (X.tr (X.pn ++ pins) K1) (wKeep X.K c i ts Wout D) := by
    intro u s' xx
    obtain ⟨a, B, sI, pins', σ', H', cls, d, rfl, J', nb, up, sky, na, os, ag, b, hb1, hno, hyes⟩ := xx
    have J : L2.Inv X pins σ' H' sI := J'.ofTry ok
    have sky' : Sky B (X.env :: X.outer) a (Zc cls d) X.env.locals s'.heap := hs ▸ sky
    refine Sky.land Zc.steady hfr hf sky' fun h3 fl3 up3 => ?_
    have J3 : L2.Inv X pins σ' H' { s' with heap := h3 } := J.landed nb fl3.1 (up.trans up3) os ag
    obtain ⟨o3, v3, g3, z3, d3⟩ := fl3.there
    -- a is no frame's
    have noFrame : a ∉ frs (X.env :: X.outer) := by
      intro hm
      obtain ⟨_, o', e', nf⟩ := fl3.2.2.1.mem hm
      obtain rfl : o3 = o' := Option.some.inj (g3.symm.trans e')
      exact nf _ d3
    have nw : sI.heap.get? a = none := by
      cases e : sI.heap.get? a with
      | none => rfl
      | some ob =>
        have q := nb a ob e (hs.symm ▸ noFrame)
        rw [fl3.2.1] at q
        cases q
    have S3 := Ask.Inv.inSuite J3 a
    refine wpAny_handleBy_cons (codeAny_handlers_test ?_) (fun q => by cases q)
    have LT : PySem.W.Looks (model X.prog X.w) h3 (typeOf (.ref a)) cls := fun A' Q' E' s2 k q => wpAny_typeOf_ref (k _ _ g3) (by rw [z3.1]; exact q)
    have LM := PySem.W.exm_one (M := model X.prog X.w) J3.kIn LT hb1
    have clause : ∀ {Q' : Value → Shared → Prop} {E' : Value → Shared → Prop}, Q' c { s' with heap := h3 } →
        wpAny (model X.prog X.w) (X.A.mark (some (.ref a))) (eval (.Name x np) X.env) Q' E' { s' with heap := h3 } := by
      intro Q' E' q
      obtain ⟨hg, hdb, hm | ⟨hm, hv, hn⟩⟩ := hc
      · exact ld_glob (X := X.suite a (X.pn ++ pins)) S3 hg hm q hdb
      · exact ld_blt (X := X.suite a (X.pn ++ pins)) S3 hg hm hv q hn hdb
    refine clause (LM.here ?_)
    cases b with
    | false =>
      show wpAny _ X.A (handleBy (.ref a) X.env []) _ _ _
      refine wpAny_handleBy_nil ?_
      obtain ⟨_, _, _, o5, v5, T5, oT, t5, g5, _, d5, h5, _⟩ := id fl3
      unfold PySem.passOn
      refine wpAny_bind (wpAny_field g5 d5 h5 ?_)
      rw [if_neg (by simp)]
      have fin : wpAny (model X.prog X.w) X.A (setFlight (.ref a) X.env.frame)
          (fun _ s4 => wpAny (model X.prog X.w) X.A (throw (.ref a) : Sem Flow) (SP X pins D) X.xe s4) X.xe { s' with heap := h3 } := by
        rw [hf]
        refine HandSPX.setFlight_upZ fl3 fun h4 hh4 up4 => wpAny_throw (tk _ _ ?_)
        exact ⟨a, B, sI, pins, σ', H', cls, d, rfl, J, nb, (up.trans up3).trans up4, .inr (.inr (hs ▸ hh4)), na, os, ag, hno rfl⟩
      first
        | exact wpAny_bind (wpAny_pure (wpAny_bind fin))
        | exact wpAny_bind fin
    | true =>
      refine codeAny_handlers_suite_as ?_
      refine HandSPX.lands_againZ fl3 fun h4 fl4 up4 => ?_
      obtain ⟨o4, v4, g4, z4, d4⟩ := fl4.there
      have J4 : L2.Inv X pins σ' (upd H' a (ExK cls d a)) { s' with heap := h4 } :=
        landedK J nb fl4.1 ((up.trans up3).trans up4) os ag na nw (exK_ok g4 z4 d4)
      refine store_ok (X := X.suite a (X.pn ++ pins)) (v := .ref a) (Ask.Inv.inSuite J4 a) hN hi (.inl hln) rfl (fun s5 S5 => ?_) (.inr hln)
      refine wpAny_mono ((hsu a (X.pn ++ pins)).run [] s5 _ _ _ S5 (hyes rfl a na)) (fun f s6 hsp => ?_) (fun _ _ z => False.elim z)
      have away : ∀ {τ : L2.St} {G : Hp} {Q' : Shared → Prop}, L2.Inv (X.suite a (X.pn ++ pins)) [] τ G s6 →
          (∀ s7, L2.Inv X pins (τ.set i none) G s7 → Q' s7) →
          wpAny (model X.prog X.w) X.A (do bindName X.env n .none; unbindBehindTheSuite X.env n pos') (fun _ s7 => Q' s7) X.xe s6 :=
        fun S6 q => gone_ok (Ask.Inv.outSuite ok S6) hN hi hln q
      cases f with
      | ret u =>
        obtain ⟨v6, τ, G, S6, r6, q6⟩ := hsp
        exact away S6 fun s7 J7 => ⟨_, _, _, J7, r6, q6⟩
      | next =>
        obtain ⟨τ, G, S6, q6⟩ := hsp
        exact away S6 fun s7 J7 => ⟨_, _, J7, q6⟩
      | brk =>
        obtain ⟨τ, G, S6, q6⟩ := hsp
        exact away S6 fun s7 J7 => ⟨_, _, J7, q6⟩
      | cont =>
        obtain ⟨τ, G, S6, q6⟩ := hsp
        exact away S6 fun s7 J7 => ⟨_, _, J7, q6⟩
  have run := (hb (wKeep X.K c i ts Wout D) (X.pn ++ pins) K1 catch_ PassesOwn.looking).run [] s σ H D (I.toTry _) h
  refine wpAny_mono run (fun f s1 hsp => ?_) (fun e s1 he => he)
  cases f with
  | next =>
    obtain ⟨τ, G, J', q⟩ := hsp
    exact wpAny_execs_nil ⟨τ, G, J'.ofTry ok, q⟩
  | ret u =>
    obtain ⟨v, τ, G, J', r, q⟩ := hsp
    exact ⟨v, τ, G, J'.ofTry ok, r, q⟩
  | brk =>
    obtain ⟨τ, G, J', q⟩ := hsp
    exact ⟨τ, G, J'.ofTry ok, q⟩
  | cont =>
    obtain ⟨τ, G, J', q⟩ := hsp
    exact ⟨τ, G, J'.ofTry ok, q⟩
end
/-! what is asked of such an object -/
theorem instK {X : Cx} {pins : List (Addr × Obj)} {σ : L2.St} {H : Hp} {s : Shared} {a D : Addr} {d : Option Addr} (I : L2.Inv X pins σ H s)
    (ha : H a = some (ExK (.ref D) d a)) (hd : ∀ e, d = some e → ∃ fs, H e = some (.xd fs)) : ∃ (o : Obj) (od : Option Obj), PySem.W.InstAt s.heap a o D od := by
  obtain ⟨⟨oc, od, oda, osl⟩, vs, g, ⟨z1, z2⟩, f⟩ := exK_at (I.hok a _ ha)
  dsimp only at z1 z2 f
  subst z1 z2 f
  cases od with
  | none => exact ⟨_, none, g, rfl, rfl, trivial⟩
  | some e =>
    obtain ⟨fs, he⟩ := hd e rfl
    obtain ⟨mA, hns, _⟩ := (show ObjOk X.prog X.w H s.heap e (.xd fs) from I.hok e _ he)
    obtain ⟨o2, ho2, _⟩ := lookIn_ns hns
    exact ⟨_, some o2, g, rfl, rfl, ho2⟩
/-- isinstance(e, c), e an error kept -/
def rIsK (K : PySem.W.Frag) : List V → Hp → VK → Prop := fun xs H Q => ∃ (a D : Addr) (d : Option Addr) (c : V) (cv : Value) (b : Bool), xs = [.ref a, c] ∧
  H a = some (ExK (.ref D) d a) ∧ (∀ e, d = some e → ∃ fs, H e = some (.xd fs)) ∧ ExcC K D ∧ ClsV c cv ∧ PySem.W.kitOne K (.ref D) cv = some b ∧ Q (.bl b) H
theorem call_isK {X : Cx} : CallR X (.builtin "isinstance") (rIsK X.K) := by
  intro pins s σ H xs us Q I r h
  obtain ⟨a, D, d, c, cv, b, rfl, ha, hd, C, k, e, q⟩ := h
  obtain ⟨u1, u2, rfl, r1, r2⟩ := vals2 r
  obtain rfl : u1 = Value.ref a := r1
  obtain rfl := k.eq r2
  obtain ⟨o, od, J⟩ := instK I ha hd
  have hcl : (PySem.W.clsIn X.K D).isSome = true := by
    obtain ⟨cd, hc, _⟩ := PySem.W.any_some C.hd
    rw [hc]
    rfl
  exact PySem.W.kia_one (PySem.W.kitx_exc (od := od) hcl C.hg C.hk C.hs C.ha C.hn C.ht C.hm) I.kIn J e (fun z => nomatch z) fun tk => ⟨.bl b, H, I.tok tk, rfl, q⟩
/-- e.n, e an error kept: its field -/
def tXk (K : PySem.W.Frag) (n : Str) (te : TE) : TE := fun σ H Q => te σ H fun x H1 => ∃ (a C d : Addr) (fs : List (Str × V)) (v : V), x = .ref a ∧
  H1 a = some (ExK (.ref C) (some d) a) ∧ H1 d = some (.xd fs) ∧ XfC K C ∧ PySem.W.findIn K (.ref C) n = some none ∧ fs.lookup n = some v ∧ Q v H1
theorem pe_xk {X : Cx} {e : Expr} {te : TE} {pos : Pos} {n : Str} (he : PE X e te) (hb : attributeBase e n X.env (eval e X.env) = eval e X.env := by rfl) :
    PE X (.Attribute e n pos) (tXk X.K n te) := by
  refine ⟨fun pins s σ H Q I h => ?_⟩
  refine attr_of hb (thn (he.run pins s σ H _ I h) ?_)
  rintro u s1 ⟨x, H1, I1, rx, a, C, d, fs, v, ex, ha, hd, T, hno, l, q⟩
  subst ex
  obtain rfl : u = Value.ref a := rx
  obtain ⟨⟨oc, od, oda, osl⟩, vs, g, ⟨z1, z2⟩, f⟩ := exK_at (I1.hok a _ ha)
  dsimp only at z1 z2 f
  subst z1 z2 f
  obtain ⟨mA, hns, hr⟩ := (show ObjOk X.prog X.w H1 s1.heap d (.xd fs) from I1.hok d _ hd)
  obtain ⟨o2, ho, hl⟩ := lookIn_ns hns
  obtain ⟨w, hw, rw'⟩ := RelO.some_of (v := v) (o := mA n) (by rw [← l]; exact hr n)
  have J : PySem.W.InstAt s1.heap a ⟨.ref C, some d, .fields vs, osl⟩ C (some o2) := ⟨g, rfl, rfl, ho⟩
  exact HandSPX.exc_get I1.kIn J T.ga T.gg T.exC (PySem.W.findObj_own T.hdC hno rfl (by rw [hl, hw])) (handed_of rw') ⟨v, H1, I1.tok _, rw', q⟩
end Ask

set_option Elab.async false
set_option linter.all false
set_option maxRecDepth 100000
set_option maxHeartbeats 2000000
/-! data with dicts in it: their text; the law's own def where sys.modules is known to stand apart -/
namespace Ask
open PySem PySem.Spec L2
open PyProof.Rows
/-- a flat value and its data -/
def FlatD : V → PyData → Prop
  | .non, d => d = .none
  | .bl b, d => d = .bool b
  | .int i, d => d = .int i
  | .str x, d => d = .str x
  | _, _ => False
def keyD : Key → PyData
  | .inl i => .int i
  | .inr x => .str x
/-- at v: the data d, nested no deeper than n, every object of it at such an address -/
def Dq (fr : Addr → Prop) (H : Hp) : Nat → V → PyData → Prop
  | 0, v, d => FlatD v d
  | n + 1, v, d => FlatD v d ∨ (∃ a xs ds, v = .ref a ∧ d = .list ds ∧ fr a ∧ H a = some (.lst xs) ∧ Paired (Dq fr H n) xs ds) ∨
    (∃ a xs ds, v = .ref a ∧ d = .tuple ds ∧ fr a ∧ H a = some (.tup xs) ∧ Paired (Dq fr H n) xs ds) ∨
    (∃ (a : Addr) (kvs : List (Key × V)) (ds : List PyData), v = .ref a ∧ d = .dict ((kvs.map fun p => keyD p.1).zip ds) ∧ fr a ∧ H a = some (.dK kvs) ∧ Paired (Dq fr H n) (kvs.map (·.2)) ds)
theorem paired_imp {α β : Type} {F G : α → β → Prop} (h : ∀ x y, F x y → G x y) : ∀ {xs : List α} {ys : List β}, Paired F xs ys → Paired G xs ys
  | _, _, .nil => .nil
  | _, _, .cons a r => .cons (h _ _ a) (paired_imp h r)
theorem Dq.imp {fr fr' : Addr → Prop} {H H' : Hp} (hf : ∀ a, fr a → fr' a) (hk : ∀ a o, fr a → H a = some o → H' a = some o) : ∀ (n : Nat) {v : V} {d : PyData}, Dq fr H n v d → Dq fr' H' n v d
  | 0, _, _, h => h
  | n + 1, _, _, h => by
    rcases h with h | ⟨a, xs, ds, e1, e2, f, e, p⟩ | ⟨a, xs, ds, e1, e2, f, e, p⟩ | ⟨a, kvs, ds, e1, e2, f, e, p⟩
    · exact .inl h
    · exact .inr (.inl ⟨a, xs, ds, e1, e2, hf a f, hk a _ f e, paired_imp (fun _ _ => Dq.imp hf hk n) p⟩)
    · exact .inr (.inr (.inl ⟨a, xs, ds, e1, e2, hf a f, hk a _ f e, paired_imp (fun _ _ => Dq.imp hf hk n) p⟩))
    · exact .inr (.inr (.inr ⟨a, kvs, ds, e1, e2, hf a f, hk a _ f e, paired_imp (fun _ _ => Dq.imp hf hk n) p⟩))
theorem Dq.flat {fr : Addr → Prop} {H : Hp} {v : V} {d : PyData} (h : FlatD v d) : ∀ n, Dq fr H n v d
  | 0 => h
  | _ + 1 => .inl h
theorem Dq.up {fr : Addr → Prop} {H : Hp} : ∀ (n : Nat) {v : V} {d : PyData}, Dq fr H n v d → Dq fr H (n + 1) v d
  | 0, _, _, h => .inl h
  | n + 1, _, _, h => by
    rcases h with h | ⟨a, xs, ds, e1, e2, f, e, p⟩ | ⟨a, xs, ds, e1, e2, f, e, p⟩ | ⟨a, kvs, ds, e1, e2, f, e, p⟩
    · exact .inl h
    · exact .inr (.inl ⟨a, xs, ds, e1, e2, f, e, paired_imp (fun _ _ => Dq.up n) p⟩)
    · exact .inr (.inr (.inl ⟨a, xs, ds, e1, e2, f, e, paired_imp (fun _ _ => Dq.up n) p⟩))
    · exact .inr (.inr (.inr ⟨a, kvs, ds, e1, e2, f, e, paired_imp (fun _ _ => Dq.up n) p⟩))
/-- the kind of a value that is data -/
inductive AnyV (H : Hp) : V → String → Prop
  | non : AnyV H .non "NoneType"
  | bl (b : Bool) : AnyV H (.bl b) "bool"
  | int (i : Int) : AnyV H (.int i) "int"
  | str (x : Str) : AnyV H (.str x) "str"
  | lst {a : Addr} {xs : List V} (e : H a = some (.lst xs)) : AnyV H (.ref a) "list"
  | tup {a : Addr} {xs : List V} (e : H a = some (.tup xs)) : AnyV H (.ref a) "tuple"
  | dct {a : Addr} {kvs : List (Key × V)} (e : H a = some (.dK kvs)) : AnyV H (.ref a) "dict"
theorem AnyV.ty {K : PySem.W.Frag} {H : Hp} {v : V} {t : String} (h : AnyV H v t) : TyX K H v (.type t) ∧ t ∈ kinds := by
  cases h with
  | non => exact ⟨.base .non, by decide⟩
  | bl b => exact ⟨.base (.bl b), by decide⟩
  | int i => exact ⟨.base (.int i), by decide⟩
  | str x => exact ⟨.base (.str x), by decide⟩
  | lst e => exact ⟨.base (.lst e), by decide⟩
  | tup e => exact ⟨.base (.tup e), by decide⟩
  | dct e => exact ⟨.base (.dK e), by decide⟩
theorem FlatD.any {H : Hp} : ∀ {v : V} {d : PyData}, FlatD v d → ∃ t, AnyV H v t
  | .non, _, _ => ⟨_, .non⟩
  | .bl b, _, _ => ⟨_, .bl b⟩
  | .int i, _, _ => ⟨_, .int i⟩
  | .str x, _, _ => ⟨_, .str x⟩
theorem Dq.any {fr : Addr → Prop} {H : Hp} : ∀ {n : Nat} {v : V} {d : PyData}, Dq fr H n v d → ∃ t, AnyV H v t
  | 0, _, _, h => FlatD.any h
  | n + 1, _, _, h => by
    rcases h with h | ⟨a, xs, ds, rfl, _, _, e, _⟩ | ⟨a, xs, ds, rfl, _, _, e, _⟩ | ⟨a, kvs, ds, rfl, _, _, e, _⟩
    · exact FlatD.any h
    · exact ⟨_, .lst e⟩
    · exact ⟨_, .tup e⟩
    · exact ⟨_, .dct e⟩
/-! ### as the heap reads it -/
section
variable {X : Cx} {pins : List (Addr × Obj)} {σ : L2.St} {H : Hp} {s : Shared} {fr : Addr → Prop}
theorem flat_reads : ∀ {v : V} {d : PyData} {u : Value}, FlatD v d → RelV v u → Reads s.heap u d []
  | .non, _, _, rfl, rfl => .none
  | .bl b, _, _, rfl, rfl => .bool b
  | .int i, _, _, rfl, ⟨t, rfl⟩ => .int i t
  | .str x, _, _, rfl, ⟨t, rfl⟩ => .str x t
theorem pairs_keys {P : Program} {w : World} : ∀ {es : List DictEntry} {kvs : List (Key × Value)}, Pairs (mixKind P w) es kvs →
    ReadsAll s.heap (es.map (·.key)) (kvs.map fun p => keyD p.1) [] ∧ es.map (·.val) = kvs.map (·.2)
  | _, _, .nil => ⟨.nil, rfl⟩
  | _, _, .cons (e := e) (kv := kv) h1 h2 r => by
    obtain ⟨i1, i2⟩ := pairs_keys (P := P) (w := w) r
    refine ⟨?_, ?_⟩
    · rw [List.map_cons, List.map_cons]
      have z : Reads s.heap e.key (keyD kv.1) [] := by
        rcases keyIs_shape h1 with ⟨i, t, e1, e2⟩ | ⟨x, t, e1, e2⟩
        · rw [e1, e2]
          exact .int i t
        · rw [e1, e2]
          exact .str x t
      exact ReadsAll.cons z i1
    · rw [List.map_cons, List.map_cons, h2, i2]
theorem kv_keys : ∀ {kvs : List (Key × V)} {ws : List (Key × Value)}, KV kvs ws → (ws.map fun p => keyD p.1) = (kvs.map fun p => keyD p.1) ∧ Vals (kvs.map (·.2)) (ws.map (·.2))
  | _, _, .nil => ⟨rfl, .nil⟩
  | _, _, .cons ⟨a, b⟩ r => by
    obtain ⟨i1, i2⟩ := kv_keys r
    refine ⟨?_, .cons b i2⟩
    rw [List.map_cons, List.map_cons, i1, a]
theorem paired_len {α β : Type} {F : α → β → Prop} : ∀ {xs : List α} {ys : List β}, Paired F xs ys → xs.length = ys.length
  | _, _, .nil => rfl
  | _, _, .cons _ r => congrArg (· + 1) (paired_len r)
theorem Dq.reads (I : L2.Inv X pins σ H s) (hfr : ∀ a, fr a → (a == sysModules) = false) : ∀ (n : Nat) {v : V} {d : PyData} {u : Value}, Dq fr H n v d → RelV v u → ∃ as, Reads s.heap u d as ∧ sysModules ∉ as := by
  intro n
  induction n with
  | zero => exact fun h r => ⟨[], flat_reads h r, by simp⟩
  | succ n ih =>
    have all : ∀ {xs : List V} {ds : List PyData} {us : List Value}, Paired (Dq fr H n) xs ds → Vals xs us → ∃ as, ReadsAll s.heap us ds as ∧ sysModules ∉ as := by
      intro xs ds us p
      induction p generalizing us with
      | nil =>
        intro r
        cases r
        exact ⟨[], .nil, by simp⟩
      | cons a _ ih2 =>
        intro r
        cases r with
        | cons r1 r2 =>
          obtain ⟨as, h1, n1⟩ := ih a r1
          obtain ⟨bs, h2, n2⟩ := ih2 r2
          exact ⟨_, ReadsAll.cons h1 h2, fun z => (List.mem_append.mp z).elim n1 n2⟩
    intro v d u h r
    rcases h with h | ⟨a, xs, ds, rfl, rfl, f, e, p⟩ | ⟨a, xs, ds, rfl, rfl, f, e, p⟩ | ⟨a, kvs, ds, rfl, rfl, f, e, p⟩
    · exact ⟨[], flat_reads h r, by simp⟩
    · obtain rfl : u = Value.ref a := r
      obtain ⟨its, rv, ⟨o, k, ho, hc, _, hd⟩, _⟩ := I.list (SqL.of e)
      obtain ⟨as, hr, hn⟩ := all p rv
      refine ⟨_, Reads.list ho hc hd hr, fun z => ?_⟩
      rcases List.mem_cons.mp z with q | q
      · have y := hfr a f
        rw [← q] at y
        simp at y
      · exact hn q
    · obtain rfl : u = Value.ref a := r
      obtain ⟨_, its, rv, o, ho, hc, k, hd⟩ := (show ObjOk X.prog X.w H s.heap a (.tup xs) from I.hok a _ e)
      obtain ⟨as, hr, hn⟩ := all p rv
      exact ⟨_, Reads.tuple ho hc hd hr, hn⟩
    · obtain rfl : u = Value.ref a := r
      obtain ⟨_, low, ws, hkv, o, es, ep, ho, hx, hd, _, hp, _⟩ := (show ObjOk X.prog X.w H s.heap a (.dK kvs) from I.hok a _ e)
      obtain ⟨k1, k2⟩ := kv_keys hkv
      obtain ⟨p1, p2⟩ := pairs_keys (s := s) hp
      obtain ⟨as, hr, hn⟩ := all p k2
      rw [k1] at p1
      rw [← p2] at hr
      have l1 : (kvs.map fun q => keyD q.1).length = ds.length := by
        rw [List.length_map, ← paired_len p, List.length_map]
      refine ⟨_, Reads.dict (as := []) (bs := as) ho hx.1 hd ?_ ?_, fun z => ?_⟩
      · rw [List.map_fst_zip (Nat.le_of_eq l1)]
        exact p1
      · rw [List.map_snd_zip (Nat.le_of_eq l1.symm)]
        exact hr
      · rcases List.mem_cons.mp z with q | q
        · rw [← q] at low
          simp at low
        · exact hn q
end
end Ask

set_option Elab.async false
set_option linter.all false
set_option maxRecDepth 100000
set_option maxHeartbeats 2000000
/-! the text of data with dicts in it; the law's own def where sys.modules is known to stand apart -/
namespace Ask
open PySem PySem.Spec L2
open PyProof.Rows
/-- data that can be shown, nested at most n deep, its text of at most L signs -/
structure Sh (n L : Nat) (d : PyData) : Prop where
  can : d.showable = true
  dep : d.depth ≤ n
  len : d.shown.length ≤ L
theorem Sh.up {n m L M : Nat} {d : PyData} (h : Sh n L d) (a : n ≤ m) (b : L ≤ M) : Sh m M d := ⟨h.can, Nat.le_trans h.dep a, Nat.le_trans h.len b⟩
theorem sh_list {n k L : Nat} {ds : List PyData} (h : ∀ d ∈ ds, Sh n L d) (hk : ds.length ≤ k) : Sh (n + 1) (L * k + 2 * k + 3) (.list ds) where
  can := by
    unfold PyData.showable
    exact showAll ds fun d hx => (h d hx).can
  dep := by
    have z := depAll ds fun d hx => (h d hx).dep
    unfold PyData.depth
    omega
  len := by
    have z := lenAll ds fun d hx => (h d hx).len
    have y := listText_len_le (PyData.shownAll ds)
    have m : L * ds.length ≤ L * k := Nat.mul_le_mul_left L hk
    unfold PyData.shown
    omega
theorem sh_tup {n k L : Nat} {ds : List PyData} (h : ∀ d ∈ ds, Sh n L d) (hk : ds.length ≤ k) : Sh (n + 1) (L * k + 2 * k + 3) (.tuple ds) where
  can := by
    unfold PyData.showable
    exact showAll ds fun d hx => (h d hx).can
  dep := by
    have z := depAll ds fun d hx => (h d hx).dep
    unfold PyData.depth
    omega
  len := by
    have z := lenAll ds fun d hx => (h d hx).len
    have y := tupleText_len_le (PyData.shownAll ds)
    have m : L * ds.length ≤ L * k := Nat.mul_le_mul_left L hk
    unfold PyData.shown
    omega
theorem kvAll {n L : Nat} : ∀ kvs : List (PyData × PyData), (∀ p ∈ kvs, Sh n L p.1 ∧ Sh n L p.2) → PyData.showableKv kvs = true ∧ PyData.depthKv kvs ≤ n ∧
    ((PyData.shownKv kvs).map (·.length)).sum ≤ (2 * L + 2) * kvs.length ∧ (PyData.shownKv kvs).length = kvs.length
  | [], _ => by
    unfold PyData.showableKv PyData.depthKv PyData.shownKv
    exact ⟨rfl, Nat.zero_le _, Nat.zero_le _, rfl⟩
  | (a, b) :: r, h => by
    obtain ⟨ha, hb⟩ := h (a, b) List.mem_cons_self
    obtain ⟨i1, i2, i3, i4⟩ := kvAll r fun p hp => h p (List.mem_cons_of_mem _ hp)
    have e : (a.shown ++ ": " ++ b.shown).length = a.shown.length + 2 + b.shown.length := by
      rw [strLen_append, strLen_append]
      rfl
    have la : a.shown.length ≤ L := ha.len
    have lb : b.shown.length ≤ L := hb.len
    have da : a.depth ≤ n := ha.dep
    have db : b.depth ≤ n := hb.dep
    unfold PyData.showableKv PyData.depthKv PyData.shownKv
    refine ⟨?_, ?_, ?_, ?_⟩
    · rw [ha.can, hb.can, i1]
      rfl
    · omega
    · rw [List.map_cons, List.sum_cons, List.length_cons, Nat.mul_succ]
      omega
    · rw [List.length_cons, List.length_cons, i4]
theorem sh_dict {n k L : Nat} {kvs : List (PyData × PyData)} (h : ∀ p ∈ kvs, Sh n L p.1 ∧ Sh n L p.2) (hk : kvs.length ≤ k) : Sh (n + 1) ((2 * L + 2) * k + 2 * k + 3) (.dict kvs) := by
  obtain ⟨i1, i2, i3, i4⟩ := kvAll kvs h
  refine ⟨?_, ?_, ?_⟩
  · unfold PyData.showable
    exact i1
  · unfold PyData.depth
    omega
  · have y := dictText_len_le (PyData.shownKv kvs)
    have m : (2 * L + 2) * kvs.length ≤ (2 * L + 2) * k := Nat.mul_le_mul_left _ hk
    unfold PyData.shown
    omega
theorem sh_int {i : Int} (h : i.natAbs < 10 ^ 12) : Sh 0 13 (.int i) := ⟨(shows_int h).can, by unfold PyData.depth; omega, (shows_int h).len⟩
theorem sh_none : Sh 0 4 .none := ⟨rfl, by unfold PyData.depth; omega, by decide +kernel⟩
theorem sh_bool (b : Bool) : Sh 0 5 (.bool b) := ⟨rfl, by unfold PyData.depth; omega, by cases b <;> decide +kernel⟩
theorem sh_str {x : Str} {L : Nat} (h : (PyData.str x).shown.length ≤ L) : Sh 0 L (.str x) := ⟨rfl, by unfold PyData.depth; omega, h⟩
/-- repr(x), x any data -/
def rReprD (K : PySem.W.Frag) : List V → Hp → VK → Prop := fun xs H Q =>
  ∃ (fr : Addr → Prop) (n : Nat) (v : V) (d : PyData), xs = [v] ∧ (∀ a, fr a → (a == sysModules) = false) ∧ Dq fr H n v d ∧ Sh 60 sizeLine d ∧ Q (.str d.shown) H
theorem cr_reprD {X : Cx} (hg : X.A.guards = some []) (hu : X.A.units + 64 < cLine) :
    CallR X (.builtin "repr") (rReprD X.K) := by
  intro pins s σ H xs us Q I r h
  obtain ⟨fr, n, v, d, rfl, hfr, hd, hs, q⟩ := h
  obtain ⟨u, rfl, rx⟩ := vals1 r
  obtain ⟨as, rd, hn⟩ := Dq.reads I hfr n hd rx
  have flat : ∀ {v : V} {d : PyData} {u : Value}, FlatD v d → RelV v u → Sh 60 sizeLine d → Q (.str d.shown) H → wpAny (model X.prog X.w) X.A (call (.builtin "repr") [u]) (EP X pins σ Q) X.xe s := by
    intro v d u hf rx hs q
    cases v with
    | non =>
      cases rx
      cases hf
      exact P.repr_of_none ⟨.str _, H, I.tok _, ⟨_, rfl⟩, q⟩
    | bl b =>
      cases rx
      cases hf
      exact P.repr_of_bool ⟨.str _, H, I.tok _, ⟨_, rfl⟩, by cases b <;> exact q⟩
    | int i =>
      obtain ⟨t, rfl⟩ := rx
      cases hf
      have hz : i.natAbs.log2 < 1920 := by
        simpa [PyData.showable] using hs.can
      exact P.repr_of_int hz ⟨.str _, H, I.tok _, ⟨_, rfl⟩, q⟩
    | str x =>
      obtain ⟨t, rfl⟩ := rx
      cases hf
      exact P.repr_of_str ⟨.str _, H, I.tok _, ⟨_, rfl⟩, q⟩ hs.len
    | _ => exact hf.elim
  have dp := hs.dep
  have boxed : ∀ {a : Addr}, v = .ref a → wpAny (model X.prog X.w) X.A (call (.builtin "repr") [u]) (EP X pins σ Q) X.xe s := by
    intro a e
    subst e
    obtain rfl : u = Value.ref a := rx
    refine repr_of_reads' rd hs.can (fun _ => hn) hg (by omega) (fun _ _ e => e) (fun h' u tk hk => ?_) hs.len
    exact ⟨.str _, H, I.kept hk, ⟨_, rfl⟩, q⟩
  cases n with
  | zero => exact flat hd rx hs q
  | succ n =>
    rcases hd with h | ⟨a, xs, ds, e1, _⟩ | ⟨a, xs, ds, e1, _⟩ | ⟨a, kvs, ds, e1, _⟩
    · exact flat h rx hs q
    · exact boxed e1
    · exact boxed e1
    · exact boxed e1
/-! ### the law, sys.modules apart -/
/-- sys.modules stands, and is never one of ours -/
def Sys (H : Hp) : Prop := ∃ o u, H sysModules = some (.frz o u)
theorem Sys.ne {H : Hp} {a : Addr} (h : Sys H) (e : H a = none) : (a == sysModules) = false := by
  obtain ⟨o, u, h⟩ := h
  exact beq_eq_false_iff_ne.mpr fun z => by rw [z, h] at e; cases e
theorem Sys.same {H H' : Hp} (h : Sys H) (s : Same H H') : Sys H' := by
  obtain ⟨o, u, h⟩ := h
  exact ⟨o, u, s _ _ h⟩
theorem Sys.but {H H' : Hp} {p : Addr} {n : Nat} (h : Sys H) (s : But p H H') (hp : Pen H p n) : Sys H' := by
  obtain ⟨o, u, h⟩ := h
  exact ⟨o, u, s _ _ (hp.ne h fun _ _ _ z => by cases z) h⟩
theorem Sys.new {H : Hp} {q : Addr} {o : HO} (h : Sys H) (e : H q = none) : Sys (upd H q o) := h.same (Same.new e)
def seenS (K : PySem.W.Frag) (o1 : Obj) (a : Addr) (vs : List Value) (ns : List Int) : Hp := fun b =>
  if b = sysModules then some (.frz o1 (.own 0)) else seen K a vs ns b
/-- what a law promises: True, whatever the script -/
def spLawS (K : PySem.W.Frag) : Sp := fun vs H Q _ => ∃ (s : Addr) (ns : List Int), vs = [.ref s] ∧
  SqL K H s (ns.map V.int) ∧ ns.length ≤ 63 ∧ Sys H ∧ ∀ H', Q (.bl true) H'
theorem law_goS {P : Program} {w : World} {K : PySem.W.Frag} {mg mb ms : Str → Option Value} {k : Nat}
    {fa a : Addr} {fd : FuncData} {x : Str} {sp : Sp} {s₁ : Shared} {vs : List Value} {ns : List Int}
    (KX : K.In s₁.heap) (hK1 : K.lookup sysModules = none) (hsm : s₁.heap.Ns sysModules ms) (hns : s₁.heap.Ns mainGlobals mg) (hb : s₁.heap.Ns builtinsNs mb)
    (hbb : ∀ x : Str, x ≠ "__name__" → mb x = bootBuiltins x) (hlim : s₁.heap.NoLimit) (hg : s₁.gens = #[])
    (ha : s₁.heap.get? a = some { cls := .type "list", data := .seq vs.toArray }) (hi : IntsAre vs ns)
    (hl : ns.length ≤ sizeLine) (hr : Room k callerA)
    (F : ∀ base : Heap, K.In base → base.Ns mainGlobals mg → GOk P w K mg base CX0 k fa fd [x] sp)
    (hbind : ∀ (s : Shared) (u : Value), BindsTo s fd ⟨[u], []⟩ [(x, u)])
    (hsp : ∀ H : Hp, Sys H → SqL K H a (ns.map V.int) → sp [.ref a] H (fun v _ => v = .bl true) fun _ _ _ => False) :
    codeAny (model P w) callerA (.call (.ref fa) ⟨[.ref a], []⟩)
      (fun r s' => r = .ok (.ret (.bool true)) ∧ OldK s₁.heap s'.heap ∧ s'.os = s₁.os ∧ AllBare s'.gens) s₁ := by
  have rv := vals_ints hi
  have lenV := hi.length
  obtain ⟨o1, es1, ep1, h1, d1, _⟩ := hsm
  have a1 : a ≠ sysModules := fun z => by
    rw [z, h1] at ha
    have y := Option.some.inj ha
    rw [y] at d1
    cases (show Data.seq vs.toArray _ = Data.dict es1 ep1 from d1)
  -- what is tracked
  have hA : ∀ b u, seenS K o1 a vs ns b = some u → (b = sysModules ∧ u = .frz o1 (.own 0)) ∨ (b = a ∧ K.lookup a = none ∧ u = .frz { cls := .type "list", data := .seq vs.toArray } (.lst (ns.map V.int))) := by
    intro b u e
    unfold seenS at e
    by_cases hb1 : b = sysModules
    · rw [if_pos hb1] at e
      exact .inl ⟨hb1, (Option.some.inj e).symm⟩
    · rw [if_neg hb1] at e
      refine .inr ?_
      unfold seen at e
      cases q : K.lookup a with
      | some o =>
        rw [q] at e
        cases e
      | none =>
        rw [q] at e
        by_cases hba : b = a
        · exact ⟨hba, rfl, (Option.some.inj ((if_pos hba).symm.trans e)).symm⟩
        · cases (if_neg hba).symm.trans e
  have hT : ∀ b u, seenS K o1 a vs ns b = some u → ∃ o v, u = .frz o v ∧ s₁.heap.get? b = some o ∧ K.lookup b = none := by
    intro b u e
    rcases hA b u e with ⟨rfl, rfl⟩ | ⟨rfl, z, rfl⟩
    · exact ⟨_, _, rfl, h1, hK1⟩
    · exact ⟨_, _, rfl, ha, z⟩
  have hS : SqL K (seenS K o1 a vs ns) a (ns.map V.int) := by
    cases q : K.lookup a with
    | some o =>
      have e := KX a o q
      rw [ha] at e
      cases e
      exact Or.inr ⟨_, vs.toArray, _, q, rfl, rfl, rfl, by rw [List.size_toArray, lenV]; exact hl, by simpa using rv⟩
    | none =>
      refine Or.inl (Or.inr ⟨{ cls := .type "list", data := .seq vs.toArray }, ?_⟩)
      unfold seenS seen
      rw [if_neg a1, q]
      exact if_pos rfl
  have hok : HOk P w (seenS K o1 a vs ns) s₁.heap := fun b u e => by
    rcases hA b u e with ⟨rfl, rfl⟩ | ⟨rfl, _, rfl⟩
    · exact ⟨h1, o1, h1⟩
    · exact ⟨ha, by rw [List.length_map]; exact hl, vs, _, rv, ha⟩
  have nsH : ∀ {b : Addr} {m : Str → Option Value}, b ≠ sysModules → s₁.heap.Ns b m → (hidT s₁.heap (seenS K o1 a vs ns)).Ns b m := by
    intro b m hb1 ⟨o, es, ep, e, d, r⟩
    refine ⟨o, es, ep, hidT_get e ?_, d, r⟩
    cases q : seenS K o1 a vs ns b with
    | none => rfl
    | some u =>
      rcases hA b u q with ⟨z, _⟩ | ⟨rfl, _, _⟩
      · exact absurd z hb1
      · rw [ha] at e
        cases e
        cases (show Data.seq vs.toArray _ = Data.dict es ep from d)
  have kH : K.In (hidT s₁.heap (seenS K o1 a vs ns)) := by
    intro b o e
    refine hidT_get (KX b o e) ?_
    cases q : seenS K o1 a vs ns b with
    | none => rfl
    | some u =>
      obtain ⟨_, _, _, _, z⟩ := hT b u q
      rw [z] at e
      cases e
  have limH : (hidT s₁.heap (seenS K o1 a vs ns)).NoLimit := by
    obtain ⟨mc, l1, l2⟩ := hlim
    exact ⟨mc, nsH (by decide) l1, l2⟩
  have e0 : Env0 P w K mg (hidT s₁.heap (seenS K o1 a vs ns)) callerA [] s₁ (seenS K o1 a vs ns) := {
    frames := rfl
    mod := ⟨kH, nsH (by decide) hns, ⟨mb, nsH (by decide) hb, hbb⟩, limH⟩
    bs := fun b o e => of_hidT e
    bsz := Nat.le_of_eq (hidT_size _ _)
    funs := trivial
    frf := fun b hb => absurd (show b ∈ ([] : List Addr) from hb) (by simp)
    hok := hok
    bare := .of_eq hg }
  have sys : Sys (seenS K o1 a vs ns) := ⟨o1, .own 0, if_pos rfl⟩
  have run := (F _ kH (nsH (by decide) hns)).run callerA [] s₁ (seenS K o1 a vs ns) ⟨[.ref a], []⟩ [.ref a] [.ref a]
    _ _ hr rfl e0 (hbind s₁ (.ref a)) (.cons rfl .nil) (hsp _ sys hS)
  refine codeAny_mono run fun r s' h => ?_
  cases r with
  | error e => exact False.elim h
  | ok fl =>
    cases fl with
    | next => exact False.elim h
    | brk => exact False.elim h
    | cont => exact False.elim h
    | ret u =>
      obtain ⟨v, H', os, bare, un, hok', r', q⟩ := h
      obtain rfl : v = V.bl true := q
      obtain rfl : u = Value.bool true := r'
      refine ⟨rfl, OldK.of_keep fun b o e => ?_, os, bare⟩
      cases q : seenS K o1 a vs ns b with
      | none => exact un.keep b o e q (fun z => nomatch z) (fun z => nomatch z)
      | some u =>
        obtain ⟨o2, u2, rfl, g2, _⟩ := hT b u q
        obtain ⟨g3, _⟩ := hok' b _ (un.frzs b _ _ q)
        rw [e] at g2
        cases g2
        exact g3
/-- the goal that the head leaves, from such a def -/
theorem walk_lawS {l : PySem.W.OpenLaw} {k : Nat} {q : Program} {loose : List Str}
    {XP : (Str → Option Value) → Heap → Prop} {YP : World → Heap → Prop} {d : DefRec}
    {K : Params → PySem.W.Frag} (hn : l.most = some 63) (hdf : d.params.defaults = []) (hr : Room k callerA)
    (hq : importsNone q = true) (hK1 : ∀ w : World, (K w.params).lookup sysModules = none)
    (hY : ∀ (w : World) (h : Heap), YP w h → (K w.params).In h)
    (F : ∀ (w : World) (mg : Str → Option Value) (fa : Addr) (h : Heap), (K w.params).In h →
      h.Ns mainGlobals mg → mg d.name = some (.ref fa) →
      ∃ fd : FuncData, (∀ (s : Shared) (u : Value), BindsTo s fd ⟨[u], []⟩ [("script", u)]) ∧
        ∀ base : Heap, (K w.params).In base → base.Ns mainGlobals mg →
          GOk l.prog w (K w.params) mg base CX0 k fa fd ["script"] (spLawS (K w.params))) :
    PySem.W.WalkO q loose XP YP l.row.toRowW d [] (fun f vs => PySem.call f vs) := by
  refine Att.attach_call hn hdf ?_
  intro w s₀ s₁ mg mb fa o pm cd doc a vs ns G Y ho hd hcd hmg hobj hints hlen hg
  have KX := hY w _ Y
  obtain ⟨fd, hb, hF⟩ := F w mg fa _ KX G.T.g hmg
  obtain ⟨mm, hsm, _⟩ := (G.T.seer hq).mods
  exact law_goS KX (hK1 w) hsm G.T.g G.T.b G.T.builtins G.T.nolimit hg hobj hints (Nat.le_trans hlen (by decide)) hr hF hb
    fun H hO hS => ⟨a, ns, rfl, hS, hlen, hO, fun _ => rfl⟩
/-- xs[i] where the context is a comprehension's -/
theorem ix_listK {X : Cx} {K : PySem.W.Frag} (h : X.K = K) : IxR X (rIxL K) := by
  subst h
  exact ix_list
theorem dV_int (i j : Int) : decide (V.int i = V.int j) = decide (i = j) := by
  by_cases h : i = j
  · rw [decide_eq_true h, decide_eq_true (congrArg V.int h)]
  · rw [decide_eq_false h, decide_eq_false (fun q => h (V.int.inj q))]
theorem dV_str (i j : Str) : decide (V.str i = V.str j) = decide (i = j) := by
  by_cases h : i = j
  · rw [decide_eq_true h, decide_eq_true (congrArg V.str h)]
  · rw [decide_eq_false h, decide_eq_false (fun q => h (V.str.inj q))]
end Ask

set_option Elab.async false
set_option linter.all false
set_option maxRecDepth 100000
set_option maxHeartbeats 2000000
/-! an error of one field whose __init__ says super().__init__(f'..'), self.n = n -/
namespace Ask
open PySem PySem.Spec L2 PySem.W
open PyProof.Rows PySem.Calls
/-- what is told of the class at C, its __init__ at fI -/
structure ETxt (P : Program) (K : PySem.W.Frag) (C fI : Addr) (n qual : Str) (params : Arguments) (body : List Stmt) (scope : Scope) : Prop where
  cls : ∃ nm q N bs bm sn sub ab col dd k0 k1 k2 k3 k5,
    K.lookup C = some (excClassObj nm q C N bs bm true sn sub ab col dd k0 k1 k2 k3 k5 "ValueError.__new__") ∧ HandSPX.refsVE bm = true
  sa : findIn K (.ref C) "__setattr__" = some (some (.builtin "object.__setattr__"))
  noN : findIn K (.ref C) n = some none
  iC : findIn K (.ref C) "__init__" = some (some (.ref fI))
  tC : typeIn K (.ref fI) = some (.type "function")
  kC : keepIn K (.ref C) = true
  exC : subIn K (.ref C) (.type "BaseException") = some true
  veC : subIn K (.ref C) (.type "ValueError") = some true
  tyC : typeIn K (.ref C) = some (.type "type")
  up : ks_superIn K C C "__init__" = some (some (.builtin "ValueError.__init__"))
  me : mroIn K C (.ref C) = some true
  opq : nsIn K cStatics "thirdparty.any" = some none
  sup : nsIn K mainGlobals "super" = some none
  top : (P.main.scope.names.lookup ("super" : Str)).isSome = false
  fn : ∃ (oc : Value) (od : Option Addr) (doc pm : Value) (an : Option Addr) (ct : Value) (osl : Array (Option Value)) (cc cda : Addr)
    (cl : Value) (cld : Option Addr) (csl : Array (Option Value)) (ccl : Value) (cdd : Option Addr) (vs : Array Value) (ccs : Array (Option Value)) (file : Str) (tf : Tok),
    K.lookup fI = some ⟨oc, od, .func (fnX "__init__" qual params body scope [("__class__", cc)] .none .none doc pm an (.ref cda) ct), osl⟩ ∧
    codeIn K (.ref cda) qual = true ∧ K.lookup cc = some ⟨cl, cld, .cell (some (.ref C)), csl⟩ ∧ K.lookup cda = some ⟨ccl, cdd, .fields vs, ccs⟩ ∧
    vs[2]? = some (.str file tf) ∧ ((P.main.file : Str) == file) = true
/-- what the text of its __init__ must be -/
structure EText (n : Str) (params : Arguments) (body : List Stmt) (scope : Scope) (es : List Expr) (pj : Pos) : Prop where
  bd : ∃ p0 p1 p2 p4 p5 q0 q1 q2 q3, body = [.Expr (.Call (.Attribute (.Call (.Name "super" p0) [] [] p1) "__init__" p2) [.JoinedStr es pj] [] p4) p5, .Assign [.Attribute (.Name "self" q0) n q1] (.Name n q2) q3] ∧ (p2.endLine == p4.line) = true
  self : ∃ ar, (params.posonlyargs ++ params.args).head? = some ar ∧ ar.arg = "self"
  kind : scope.kind = .function
  co : scope.isCoroutine = false
  gen : scope.isGenerator = false
  cell : ∀ x ∈ scope.names, x.2 ≠ .cell
  lself : scope.names.lookup ("self" : Str) = some .local
  ln : scope.names.lookup n = some .local
  lcls : scope.names.lookup ("__class__" : Str) = some .free
  lsup : scope.names.lookup ("super" : Str) = some .globalImplicit
  ndb : (n == ("__debug__" : Str)) = false
  nself : n ≠ "self"
  bind : ∀ (q : Str) (cc : Addr) (doc pm : Value) (an : Option Addr) (cd ct u v : Value),
    bindArgs (fnX "__init__" q params body scope [("__class__", cc)] .none .none doc pm an cd ct) ⟨[u, v], []⟩ = pure [(("self" : Str), u), (n, v)]
  swap : ∀ (q0 q1 q2 q3 : Pos) (env : Env), swapsWith (.Name n q2) (some (.Attribute (.Name "self" q0) n q1)) q3.line env = pure false
theorem super_eq (p0 p1 p2 p4 pj : Pos) (es : List Expr) (env : Env) (hl : (p2.endLine == p4.line) = true) : eval (.Call (.Attribute (.Call (.Name "super" p0) [] [] p1) "__init__" p2) [.JoinedStr es pj] [] p4) env = (do
      let ov ← attributeBase (.Call (.Name "super" p0) [] [] p1) "__init__" env (eval (.Call (.Name "super" p0) [] [] p1) env)
      standAt p2.atName
      let (f, first) ← holding [ov] (getMethod ov "__init__" (do return (← importBound (.Call (.Name "super" p0) [] [] p1) env).getD true))
      callWith p4 f first (backTo p4 (starEach [.JoinedStr es pj] env)) []) := by
  rw [arm_eval_Call]
  have e : ∀ few o, methodCallPos few o env p2 p4 = pure p4 := by
    intro few o
    unfold methodCallPos
    rw [hl, Bool.or_true]
    rfl
  unfold methodCall
  simp only [e]
  rfl
/-- e is a text whatever the frame, read from n alone: nothing of the heap changes -/
def TextOf (P : Program) (w : World) (n : Str) (e : Expr) (v : Value) : Prop :=
  ∀ (A : Around) (env : Env) (m : Str → Option Value) (s : Shared) (Q : Value → Shared → Prop) (E : Value → Shared → Prop), s.heap.Ns env.locals m → m n = some v → env.scope.kind = .function → env.kindOf n = some .local →
    (∀ y t tk, Q (.str y t) { s with toks := tk }) → wpAny (model P w) A (eval e env) Q E s
/-- the parts of such a text -/
inductive Part (n : Str) : Expr → Prop
  | c {m : Str} {j : Nat} {p : Pos} (h : m.length ≤ 100000) : Part n (.Constant (.str m) j p)
  | f {p1 p2 : Pos} : Part n (.FormattedValue (.Name n p1) (-1) none p2)
def TxtV (v : Value) : Prop := (∃ y t, v = .str y t ∧ y.length ≤ 100000) ∨ ∃ i t, v = .int i t ∧ i.natAbs < 10 ^ 12
theorem text_parts {P : Program} {w : World} {n : Str} {v : Value} (hv : TxtV v) (nd : (n == ("__debug__" : Str)) = false) {v1 v2 : Expr} {rest : List Expr} {pos : Pos}
    (hp : ∀ e ∈ v1 :: v2 :: rest, Part n e) (hl : (v1 :: v2 :: rest).length ≤ 20) : TextOf P w n (.JoinedStr (v1 :: v2 :: rest) pos) v := by
  intro A env m s Q E hn hm hk hloc q
  have loop : ∀ (es : List Expr) (acc : Str) (s1 : Shared) (R : Str → Shared → Prop), (∀ e ∈ es, Part n e) → acc.length + 100000 * es.length ≤ 3000000 → s1.heap = s.heap → s1 = { s with toks := s1.toks } →
      (∀ out tk, out.length ≤ 3000000 → R out { s with toks := tk }) → Joins (model P w) A E (evalEach es env) acc R s1 := by
    intro es
    induction es with
    | nil =>
      intro acc s1 R _ hz _ e1 k
      have e0 : evalEach [] env = [] := by first | rfl | simp [evalEach]
      rw [e0, e1]
      exact k acc s1.toks (by simpa using hz)
    | cons e es ih =>
      intro acc s1 R hpe hz eh e1 k
      have e0 : evalEach (e :: es) env = eval e env :: evalEach es env := by first | rfl | simp [evalEach]
      rw [e0]
      rw [List.length_cons] at hz
      have more : ∀ (y : Str) (t : Tok) (tk : Nat), y.length ≤ 100000 → ∃ y' t', Value.str y t = .str y' t' ∧ (acc ++ y').length ≤ sizeLine ∧ Joins (model P w) A E (evalEach es env) (acc ++ y') R { s with toks := tk } := by
        intro y t tk hy
        have la : (acc ++ y).length = acc.length + y.length := strLen_append acc y
        refine ⟨y, t, rfl, ?_, ih (acc ++ y) _ R (fun x hx => hpe x (List.mem_cons_of_mem _ hx)) (by omega) rfl rfl k⟩
        rw [la]
        exact Nat.le_trans (show _ ≤ 3000000 by omega) (by decide)
      rcases hpe e List.mem_cons_self with ⟨hm'⟩ | _
      · rename_i m' j p
        refine wpAny_Constant_str ?_
        rw [e1]
        exact more _ _ _ hm'
      · refine wpAny_FormattedValue_plain (wpAny_Name (wpAny_loadName_local hk hloc (by rw [eh]; exact hn) hm ?_) nd)
        rcases hv with ⟨y, t, rfl, hy⟩ | ⟨i, t, rfl, hi⟩
        · refine wpAny_formatField_str ?_ ?_ (Nat.le_trans hy (by decide))
          · rw [e1]
            exact more _ _ _ hy
          · rw [e1]
            exact more _ _ _ hy
        · have h1 : i.natAbs.log2 < 1920 := Nat.lt_of_lt_of_le (PySem.Flt.log2_lt_of (by decide : 0 < 40) (Nat.lt_of_lt_of_le hi (by decide))) (by decide)
          refine wpAny_formatField_int h1 ?_
          rw [e1]
          refine more _ _ _ (Nat.le_trans (?_ : _ ≤ 13) (by decide))
          exact PyData.shown_int_le hi
  refine wpAny_JoinedStr (loop _ Str.empty s _ hp ?_ rfl rfl fun out tk hz => ⟨Nat.le_trans hz (by decide), q _ _ _⟩)
  show 0 + 100000 * _ ≤ _
  omega
/-- what __init__ leaves of a fresh error at x -/
structure InitAt (h h' : Heap) (x C dx : Addr) (n : Str) (v : Value) : Prop where
  keep : ∀ b o, b ≠ x → h.get? b = some o → h'.get? b = some o
  obj : ∃ t1, h'.get? x = some { cls := .ref C, dict := some dx, data := .fields #[.ref t1, .none, .none, .none, .bool false, .none] }
  big : h.objs.size ≤ dx
  ne : dx ≠ x
  ns : h'.Ns1 dx (fun y => if y = n then some v else none)
/-- ValueError.__init__ bound to x, called -/
theorem call_mw {P : Program} {w : World} {A : Around} {E : Value → Shared → Prop} {Q : Value → Shared → Prop} {h : Heap} {g : Array GenState} {d : Drawn} {t : Nat} {os : OsState}
    {nm q : Str} {C N u x t0 : Addr} {bs bm : List Value} {sn : List Str} {sub : List Value} {ab : Bool} {col : Option Bool} {dd : Option Addr} {k0 k1 k2 k3 k5 : Option Value} {rest : List Value}
    (hC : h.get? C = some (excClassObj nm q C N bs bm true sn sub ab col dd k0 k1 k2 k3 k5 "ValueError.__new__")) (hx : h.get? x = some (HandSPX.excO C t0))
    (hu : h.get? u = some (kxs_mw "ValueError.__init__" x)) (hz : rest.length ≤ sizeLine)
    (k : ∀ h' t1, (∀ b o, b ≠ x → h.get? b = some o → h'.get? b = some o) → h'.get? x = some (HandSPX.excO C t1) → Q .none ⟨h', g, d, t, os⟩) :
    wpAny (model P w) A (call (.ref u) rest) Q E ⟨h, g, d, t, os⟩ := by
  have FB := PySem.F.excBase_ValueError
  refine wpAny_call (codeAny_of_tree ?_)
  show wpAny _ A.in1 (callAny (.ref u) ⟨rest, []⟩) _ _ _
  unfold callAny
  refine wpAny_bind (wpAny_load hu ?_)
  have c1 : (Value.type "method-wrapper" == Value.type "method" || Value.type "method-wrapper" == Value.type "builtin_function_or_method"
      || Value.type "method-wrapper" == Value.type "method-wrapper") = true := by decide
  simp only [kxs_mw, c1, if_true]
  refine KFB.if_so (by decide) ?_
  refine wpAny_bind (check_bound_init FB.toExcCallFacts hC hx rfl ?_)
  refine wpAny_bind (wpAny_pure (wpAny_pure ⟨plainId_quiet FB.init.plain _, codeAny_builtin FB.initEntry ?_⟩))
  exact exc_init_tree (cls := .ref C) (t0 := t0) (dv := none) (c2 := .none) (c3 := .none) (b4 := .bool false) hx hz fun h' k' e' _ => k h' _ k' e'
section
variable {P : Program} {w : World} {A : Around} {R : Result → Shared → Prop} {s : Shared} {K : PySem.W.Frag} {mg mb : Str → Option Value} {C fI x t0 : Addr} {n qual : Str} {params : Arguments} {body : List Stmt} {scope : Scope} {es : List Expr} {pj : Pos} {v : Value}
theorem init_sup (T : ETxt P K C fI n qual params body scope) (S : EText n params body scope es pj) (te : TextOf P w n (.JoinedStr es pj) v) (X : K.In s.heap) (hg : s.heap.Ns mainGlobals mg) (hbt : s.heap.Ns builtinsNs mb)
    (hbb : ∀ x : Str, x ≠ "__name__" → mb x = bootBuiltins x) (hlim : s.heap.NoLimit) (hx : s.heap.get? x = some (HandSPX.excO C t0)) (hnx : K.lookup x = none) (hroom : A.depth < recursionLimit)
    (hq : ∀ h' tk dx, InitAt s.heap h' x C dx n v → R (.ok (.ret .none)) { s with heap := h', toks := tk }) :
    codeAny (model P w) A (.call (.ref fI) ⟨[.ref x, v], []⟩) R s := by
  obtain ⟨oc, od, doc, pm, an, ct, osl, cc, cda, cl, cld, csl, ccl, cdd, vs, ccs, file, tf, hf, hcd, hcc, hcda, hvs, hfile⟩ := T.fn
  obtain ⟨nm, q, N, bs, bm, sn, sub, ab, col, dd, k0, k1, k2, k3, k5, hC, hbm⟩ := T.cls
  obtain ⟨p0, p1, p2, p4, p5, q0, q1, q2, q3, hbd, hline⟩ := S.bd
  obtain ⟨ar, har, hself⟩ := S.self
  have hcl : clsIn K C = some { name := nm, bases := bs, mro := .ref C :: bm, ns := N, qualname := q, hasDict := true, slotNames := sn, subclasses := sub, abstract := ab, collection := col, hasDel := false } := by
    unfold clsIn
    rw [hC]
  have hxC : x ≠ C := by
    intro z
    rw [z, X _ _ hC] at hx
    cases hx
  refine ks_codeAny_call_defAt (binds := [(("self" : Str), .ref x), (n, v)]) hroom (X _ _ hf) rfl hlim (codeRec_of X hcd) rfl (BindsTo.of_eq (S.bind _ _ _ _ _ _ _ _ _)) S.cell ?_ (fun h₁ hn k => ?_) S.co S.gen S.kind
  · intro y hy
    simp only [List.mem_cons, List.not_mem_nil, or_false] at hy
    rcases hy with rfl | rfl
    · exact S.lself
    · exact S.ln
  have X1 : K.In h₁ := X.keeps k
  have hx1 := k _ _ hx
  have lself : ([(("self" : Str), Value.ref x), (n, v)].reverse.lookup ("self" : Str)) = some (.ref x) := by
    have z : ((("self" : Str)) == n) = false := by simpa using (Ne.symm S.nself)
    simp [List.lookup, z]
  have ln : ([(("self" : Str), Value.ref x), (n, v)].reverse.lookup n) = some v := by
    simp [List.lookup]
  subst hbd
  have hin : ∀ (fd : FuncData) (L b : Addr), fd.scope = scope → interactive (callEnv fd L b) = false := by
    intro fd L b e
    unfold interactive
    have z : (callEnv fd L b).scope.kind = .function := by
      show fd.scope.kind = .function
      rw [e, S.kind]
    rw [z]
    rfl
  refine ks_wpAt_execs_cons ?_
  refine ks_wpAt_Expr_any (hi := hin _ _ _ rfl) ?_
  refine ks_wpAt_MethodCall (he := super_eq _ _ _ _ _ _ _ hline) ?_
  refine ks_wpAt_mono (Q := fun so s2 => so = .ref h₁.objs.size ∧ ∃ h2, s2 = { s with heap := h2, toks := s.toks + 2 } ∧ h2.get? h₁.objs.size = some (ks_superObj C x C) ∧ ∀ y o, h₁.get? y = some o → h2.get? y = some o)
    (ks_wpAt_super_base (ar := ar) S.lsup S.lcls (by decide +kernel) rfl (X1 _ _ hf) rfl har rfl (X1 _ _ hcda) rfl hvs hfile T.top ?_) ?_ (fun _ _ z => z)
  · -- super()
    refine ks_loadName_global S.kind S.lsup (loadGlobal_builtin (hg.keeps k) (mg_none_of X hg T.sup) (hbt.keeps k) ((hbb _ (by decide +kernel)).trans (by rfl)) ⟨rfl, ?_⟩)
    refine wpAny_loadName_free S.kind S.lcls rfl ⟨_, X1 _ _ hcc, rfl⟩ ?_
    rw [hself]
    refine wpAny_loadName_local S.kind S.lself hn lself ?_
    refine ks_wpAny_isType_cls (X1 _ _ hC) rfl ⟨rfl, ?_⟩
    refine ks_wpAny_call_super (X1 _ _ hC) rfl hx1 rfl (fun c z => by cases z) (looks_mroIn X1 T.me) (fun h2 z k2 => ?_)
    exact ⟨rfl, h2, rfl, z, k2⟩
  · rintro so s2 ⟨rfl, h2, rfl, hso, k2⟩
    have X2 := X1.keeps k2
    have hx2 := k2 _ _ hx1
    have J : InstAt h2 x (HandSPX.excO C t0) C none := ⟨hx2, rfl, rfl, trivial⟩
    have hup : alongIn K "__init__" (((Value.ref C :: bm).dropWhile (· != .ref C)).drop 1) = some (some (.builtin "ValueError.__init__")) := by
      have z := T.up
      unfold ks_superIn at z
      rw [hcl] at z
      exact z
    refine kxs_getMethod kxs_ValueError hso (looks_opaque X2 T.opq) (l₀ := .ref C :: bm) (fun A' Q' E' s' k' q' => wpAny_bind ((looks_clsIn X2 hcl) A' _ E' s' k' (wpAny_pure q'))) rfl X2 hup
      (J.type.andThen (looks_subIn X2 T.veC)) hxC (by decide) ?_
    have hmw : (h2.push (kxs_mw "ValueError.__init__" x)).get? h2.objs.size = some (kxs_mw "ValueError.__init__" x) := Heap.get?_push_at rfl rfl
    have k3 : ∀ b o, h2.get? b = some o → (h2.push (kxs_mw "ValueError.__init__" x)).get? b = some o := fun b o z => Heap.get?_push_of_some _ z
    refine kxs_callWith (i := "ValueError.__init__") (x := x) rfl (evalArgs_plain (Calls.spliced_cons ?_))
    refine te _ _ _ _ _ _ ((hn.keeps k2).keeps k3) ln S.kind S.ln (fun y t tk => ?_)
    refine Calls.spliced_nil ⟨hmw, ?_⟩
    refine call_mw (k3 _ _ (X2 _ _ hC)) (k3 _ _ hx2) hmw (show 1 ≤ sizeLine by decide) (fun h4 t1 k4 hx4 => ?_)
    have old4 : ∀ b o, b ≠ x → h₁.get? b = some o → h4.get? b = some o := fun b o hb z => k4 b o hb (k3 _ _ (k2 _ _ z))
    have hL : s.heap.objs.size ≠ x := Nat.ne_of_gt (Heap.lt_size hx)
    have hn4 : h4.Ns s.heap.objs.size (fun y => [(("self" : Str), Value.ref x), (n, v)].reverse.lookup y) := by
      obtain ⟨o, es1, ep1, z1, z2, z3⟩ := hn
      exact ⟨o, es1, ep1, old4 _ _ hL z1, z2, z3⟩
    have X4 : K.In h4 := by
      intro b o z
      refine old4 b o (fun e1 => ?_) (X1 _ _ z)
      rw [e1, hnx] at z
      cases z
    -- self.n = n
    refine wpAt_of_wpAny (wpAny_execs_cons (plainObj_wpAny_Assign_Attribute ?_ (S.swap _ _ _ _ _)))
    refine wpAny_Name (wpAny_loadName_local S.kind S.ln hn4 ln ?_) S.ndb
    refine wpAny_Name (wpAny_loadName_local S.kind S.lself hn4 lself ?_) (by decide)
    refine set_plain X4 (ox := HandSPX.excO C t1) (od := none) ⟨hx4, rfl, rfl, trivial⟩ T.sa ?_
    refine HandSPX.exc_osa X4 hx4 hcl (show HandSPX.refsVE (.ref C :: bm) = true from hbm) rfl T.noN (fun h5 tk5 dx k5 dn dne hx5 hn5 => ?_)
    show wpAny _ _ (execs _ _) _ _ _
    have sz : s.heap.objs.size ≤ h4.objs.size := Nat.le_of_lt hn4.lt
    refine wpAny_execs_nil (hq h5 _ dx ⟨fun b o hb z => ?_, ⟨t1, hx5⟩, Nat.le_trans sz dn, dne, hn5⟩)
    exact k5 b o hb (old4 b o hb (k _ _ z))
end
end Ask

set_option Elab.async false
set_option linter.all false
set_option maxRecDepth 100000
set_option maxHeartbeats 2000000
/-! such an error made: raised, or held as a value -/
namespace Ask
open PySem PySem.Spec L2 PySem.W
open PyProof.Rows PySem.Calls
/-- an error of C made at e, its dict at d -/
structure MadeE (h h' : Heap) (e C d : Addr) (n : Str) (v : Value) : Prop where
  keep : ∀ b o, h.get? b = some o → h'.get? b = some o
  new : h.objs.size ≤ e
  obj : ∃ t1, h'.get? e = some { cls := .ref C, dict := some d, data := .fields #[.ref t1, .none, .none, .none, .bool false, .none] }
  big : h.objs.size ≤ d
  ne : d ≠ e
  ns : h'.Ns1 d (fun y => if y = n then some v else none)
section
variable {P : Program} {w : World} {A : Around} {R : Result → Shared → Prop} {s : Shared} {K : PySem.W.Frag} {mg mb : Str → Option Value} {C fI : Addr} {n qual : Str} {params : Arguments} {body : List Stmt} {scope : Scope} {es : List Expr} {pj : Pos} {v : Value}
theorem err_made (T : ETxt P K C fI n qual params body scope) (S : EText n params body scope es pj) (te : TextOf P w n (.JoinedStr es pj) v) (X : K.In s.heap) (hg : s.heap.Ns mainGlobals mg) (hbt : s.heap.Ns builtinsNs mb)
    (hbb : ∀ x : Str, x ≠ "__name__" → mb x = bootBuiltins x) (hlim : s.heap.NoLimit) (hroom : A.depth + 1 < recursionLimit)
    (hq : ∀ h' tk e d, MadeE s.heap h' e C d n v → R (.ok (.ret (.ref e))) { s with heap := h', toks := tk }) :
    codeAny (model P w) A (.call (.ref C) ⟨[v], []⟩) R s := by
  obtain ⟨nm, q, N, bs, bm, sn, sub, ab, col, dd, k0, k1, k2, k3, k5, hC, hbm⟩ := T.cls
  obtain ⟨hp, g, dr, tk, os⟩ := s
  have k : ∀ b o, hp.get? b = some o → ((hp.push (kdv_tup [v])).push (HandSPX.excO C hp.objs.size)).get? b = some o :=
    fun b o z => Heap.get?_push_of_some _ (Heap.get?_push_of_some _ z)
  have hat : ((hp.push (kdv_tup [v])).push (HandSPX.excO C hp.objs.size)).get? (hp.objs.size + 1) = some (HandSPX.excO C hp.objs.size) := by heap_get
  have hnx : K.lookup (hp.objs.size + 1) = none := by
    cases z : K.lookup (hp.objs.size + 1) with
    | none => rfl
    | some o =>
      have y : hp.objs.size + 1 < hp.objs.size := Heap.lt_size (show hp.get? _ = some o from X _ _ z)
      omega
  refine HandSPX.call_own PySem.F.excBase_ValueError (fun Y => HandSPX.refsVE_contains Y bm hbm) (X _ _ hC) (looks_findIn X T.iC) (fun self => bind_fn X self T.tC) (show 1 ≤ sizeLine by decide) ?_
  refine init_sup (s := ⟨(hp.push (kdv_tup [v])).push (HandSPX.excO C hp.objs.size), g, dr, tk, os⟩) T S te (X.keeps k) (hg.keeps k) (hbt.keeps k) hbb (hlim.keeps k) hat hnx (show A.depth + 1 < recursionLimit from hroom) ?_
  rintro h' tk' dx ⟨keep, obj, big, ne, ns⟩
  have z : hp.objs.size + 2 ≤ dx := by
    have y := big
    dsimp only at y
    rw [Heap.size_push, Heap.size_push] at y
    exact y
  exact ⟨rfl, hq h' tk' (hp.objs.size + 1) dx ⟨fun b o y => keep b o (Nat.ne_of_lt (Nat.lt_succ_of_lt (Heap.lt_size y))) (k b o y), Nat.le_succ _, obj, by show hp.objs.size ≤ dx; omega, ne, ns⟩⟩
end
/-- a text or a number that such an error tells -/
def TV : V → Prop
  | .str y => y.length ≤ 100000
  | .int i => i.natAbs < 10 ^ 12
  | _ => False
theorem TV.txt : ∀ {v : V} {u : Value}, TV v → RelV v u → TxtV u
  | .str y, _, h, ⟨t, rfl⟩ => .inl ⟨y, t, rfl, h⟩
  | .int i, _, h, ⟨t, rfl⟩ => .inr ⟨i, t, rfl, h⟩
theorem relO_one {n : Str} {v : V} {u : Value} (r : RelV v u) (f : Str) : RelO (List.lookup f [(n, v)]) (if f = n then some u else none) := by
  by_cases h : f = n
  · subst h
    rw [if_pos rfl]
    have q : List.lookup f [(f, v)] = some v := by simp [List.lookup]
    rw [q]
    exact r
  · rw [if_neg h]
    have q : (f == n) = false := by simpa using h
    have q2 : List.lookup f [(n, v)] = none := by simp [List.lookup, q]
    rw [q2]
    trivial
/-- C(e), raised -/
def tMkE (C : Addr) (n : Str) (ta : TA) : L2.St → Hp → XK → Prop := fun σ H Q => ta σ H fun vs H1 => ∃ v, vs = [v] ∧ TV v ∧ ∀ d, H1 d = none → Q (.ref C) (some d) (upd H1 d (.xd [(n, v)]))
/-- C(e), a value -/
def tErr (C : Addr) (n : Str) (ta : TA) : TE := fun σ H Q => ta σ H fun vs H1 => ∃ v, vs = [v] ∧ TV v ∧ ∀ d e, H1 d = none → H1 e = none → d ≠ e → Q (.ref e) (upd (upd H1 d (.xd [(n, v)])) e (ExK (.ref C) (some d) e))
section
variable {X : Cx} {C fI : Addr} {x n qual : Str} {params : Arguments} {body : List Stmt} {scope : Scope} {es : List Expr} {pj p pos : Pos} {a : Expr} {ta : TA} {k : Nat}
theorem pmk_err (gC : X.mg x = some (.ref C)) (T : ETxt X.prog X.K C fI n qual params body scope) (S : EText n params body scope es pj) (te : ∀ u, TxtV u → TextOf X.prog X.w n (.JoinedStr es pj) u)
    (hr : Room k X.A) (ha : PA X [a] ta) (hg : Gl X x := by rfl) (hdb : (x == ("__debug__" : Str)) = false := by decide)
    (he : starEach (a :: []) X.env = (false, eval a X.env) :: starEach [] X.env := by rfl) (hpl : (backTo pos (starEach [] X.env)).any (·.1) = false := by rfl) :
    PMk X (.Call (.Name x p) [a] [] pos) (tMkE C n ta) := by
  intro pins s σ H Q I h
  refine wpAny_Call_Name_kw (ld_glob I hg gC ?_ hdb)
  refine callWith_K (h₀ := X.base) I.ok.mod.kin T.kC (thn (ha.run pos pins s σ H _ I h) ?_) he hpl
  rintro us s1 ⟨vs, H1, I1, r1, v, rfl, hv, q⟩
  refine ⟨I1.kIn, ?_⟩
  obtain ⟨u, rfl, rv⟩ := vals1 r1
  obtain ⟨mb, hbt, hbb⟩ := I1.ok.mod.blt
  have hlim := I1.nolimit
  have hgl := I1.ok.mod.glob.keeps I1.bk
  have hbt1 := hbt.keeps I1.bk
  obtain ⟨hp, g, dr, tk, os⟩ := s1
  refine wpAny_call (err_made T S (te _ (hv.txt rv)) I1.kIn hgl hbt1 hbb hlim (by have := hr.dp; omega) fun h' tk' e d M => ?_)
  show MkP X pins σ Q (.ref e) ⟨h', g, dr, tk', os⟩
  obtain ⟨t1, hoe⟩ := M.obj
  have hns := M.ns
  -- the heap without the error
  obtain ⟨G, g1, g2⟩ := restrict h' fun b => decide (b ≠ e)
  have gk : ∀ b, b ≠ e → G.get? b = h'.get? b := fun b hb => g1 b (decide_eq_true hb)
  have ge : G.get? e = none := g2 e (by simp)
  have old : ∀ b o, hp.get? b = some o → G.get? b = some o := by
    intro b o z
    rw [gk b (Nat.ne_of_lt (Nat.lt_of_lt_of_le (Heap.lt_size z) M.new))]
    exact M.keep b o z
  have ob : ObjOk X.prog X.w (upd H1 d (.xd [(n, v)])) G d (.xd [(n, v)]) := ⟨_, hns.at (fun o z => (gk d M.ne).trans z), fun f => relO_one rv f⟩
  have J : L2.Inv X pins σ (upd H1 d (.xd [(n, v)])) ⟨G, g, dr, tk', os⟩ := I1.laid (t' := tk') old M.big ob
  refine ⟨e, _, _, ⟨G, g, dr, tk', os⟩, _, .ref C, some d, rfl, J, fun b o z => ?_, ge, hoe, ⟨rfl, rfl⟩, rfl, rfl, ?_, rfl, I1.bare, raises_own T.exC T.tyC, q d (I1.hok.fresh M.big)⟩
  · by_cases hb : b = e
    · have y : G.get? b = some o := z
      rw [hb, ge] at y
      cases y
    · exact (gk b hb).symm.trans z
  · rw [upd_ne (Ne.symm M.ne)]
    exact I1.hok.fresh M.new
theorem pe_err (gC : X.mg x = some (.ref C)) (T : ETxt X.prog X.K C fI n qual params body scope) (S : EText n params body scope es pj) (te : ∀ u, TxtV u → TextOf X.prog X.w n (.JoinedStr es pj) u)
    (hr : Room k X.A) (ha : PA X [a] ta) (hg : Gl X x := by rfl) (hdb : (x == ("__debug__" : Str)) = false := by decide)
    (he : starEach (a :: []) X.env = (false, eval a X.env) :: starEach [] X.env := by rfl) (hpl : (backTo pos (starEach [] X.env)).any (·.1) = false := by rfl) :
    PE X (.Call (.Name x p) [a] [] pos) (tErr C n ta) := by
  refine ⟨fun pins s σ H Q I h => ?_⟩
  refine wpAny_Call_Name_kw (ld_glob I hg gC ?_ hdb)
  refine callWith_K (h₀ := X.base) I.ok.mod.kin T.kC (thn (ha.run pos pins s σ H _ I h) ?_) he hpl
  rintro us s1 ⟨vs, H1, I1, r1, v, rfl, hv, q⟩
  refine ⟨I1.kIn, ?_⟩
  obtain ⟨u, rfl, rv⟩ := vals1 r1
  obtain ⟨mb, hbt, hbb⟩ := I1.ok.mod.blt
  have hlim := I1.nolimit
  have hgl := I1.ok.mod.glob.keeps I1.bk
  have hbt1 := hbt.keeps I1.bk
  obtain ⟨hp, g, dr, tk, os⟩ := s1
  refine wpAny_call (err_made T S (te _ (hv.txt rv)) I1.kIn hgl hbt1 hbb hlim (by have := hr.dp; omega) fun h' tk' e d M => ?_)
  obtain ⟨t1, hoe⟩ := M.obj
  have hd1 : H1 d = none := I1.hok.fresh M.big
  have he1 : H1 e = none := I1.hok.fresh M.new
  have hns := M.ns
  obtain ⟨G, g1, g2⟩ := restrict h' fun b => decide (b ≠ e)
  have gk : ∀ b, b ≠ e → G.get? b = h'.get? b := fun b hb => g1 b (decide_eq_true hb)
  have ge : G.get? e = none := g2 e (by simp)
  have old : ∀ b o, hp.get? b = some o → G.get? b = some o := by
    intro b o z
    rw [gk b (Nat.ne_of_lt (Nat.lt_of_lt_of_le (Heap.lt_size z) M.new))]
    exact M.keep b o z
  have ob : ObjOk X.prog X.w (upd H1 d (.xd [(n, v)])) G d (.xd [(n, v)]) := ⟨_, hns.at (fun o z => (gk d M.ne).trans z), fun f => relO_one rv f⟩
  have J : L2.Inv X pins σ (upd H1 d (.xd [(n, v)])) ⟨G, g, dr, tk', os⟩ := I1.laid (t' := tk') old M.big ob
  have e2 : upd H1 d (HO.xd [(n, v)]) e = none := by
    rw [upd_ne (Ne.symm M.ne)]
    exact he1
  have J2 := J.laidN (h' := h') (t' := tk') (fun b o z => by
    by_cases hb : b = e
    · have y : G.get? b = some o := z
      rw [hb, ge] at y
      cases y
    · exact (gk b hb).symm.trans z) ge e2 (exK_ok (cls := .ref C) (d := some d) hoe ⟨rfl, rfl⟩ rfl)
  exact ⟨.ref e, _, J2, rfl, q d e hd1 he1 M.ne⟩
end
/-- a class of errors, as clauses and isinstance ask it -/
structure ErrC (K : PySem.W.Frag) (C : Addr) : Prop where
  is : ExcC K C
  ic : isClsIn K C = true
  ty : typeIn K (.ref C) = some (.type "type")
  ss : subIn K (.ref C) (.ref C) = some true
  kp : keepIn K (.ref C) = true
/-- o.m(e, ..), a method that may raise, within a try: what is wished of its error may speak of the slots -/
def tMethX (C : Addr) (m : Str) (sp : Sp) (E : L2.St → XK) (ta : TE) (t : TA) : TE := fun σ H Q => ta σ H fun x H1 => ∃ a dx fs, x = .ref a ∧
  H1 a = some (.ins C dx fs) ∧ fs.lookup m = none ∧ t σ H1 fun vs H2 => sp (x :: vs) H2 Q (E σ)
theorem pe_methX {X : Cx} {CX : CXT} {k : Nat} {C f : Addr} {fd : FuncData} {ps : List Str} {sp : Sp} {E : L2.St → XK} {o e : Expr} {es : List Expr} {m : Str} {pos apos : Pos} {ta : TE} {t : TA} {pl : Sem Bool}
    (he : PE X o ta) (c : Cls X.K C) (hm : Meth X.K C m f) (F : FnOk X.prog X.w X.K X.mg X.base CX k f fd ps sp) (hr : Room k X.A) (hb : Binds X.K fd ps [])
    (hx : ∀ σ, PassesAt CX X σ (E σ)) (ha : PA X (e :: es) t)
    (hst : starEach (e :: es) X.env = (false, eval e X.env) :: starEach es X.env := by rfl)
    (hpl : (backTo pos (starEach es X.env)).any (·.1) = false := by rfl)
    (ht : eval (.Call (.Attribute o m apos) (e :: es) [] pos) X.env = (do
      let ov ← eval o X.env; standAt apos.atName
      let (f, first) ← holding [ov] (getMethod ov m pl)
      callWith pos f first (backTo pos (starEach (e :: es) X.env)) (backToKw pos (keywordEach [] X.env))) := by rfl) :
    PE X (.Call (.Attribute o m apos) (e :: es) [] pos) (tMethX C m sp E ta t) := by
  refine ⟨fun pins s σ H Q I h => ?_⟩
  refine methodCall_KW (pl := pl) (thn (he.run pins s σ H _ I h) ?_) ht
  rintro u s1 ⟨x, H1, I1, rx, a, dx, fs, ex, ea, l, q⟩
  subst ex
  obtain rfl : u = Value.ref a := rx
  refine getmeth_ok I1 ea c hm l ?_
  refine callWith_K (first := [.ref a]) (h₀ := X.base) I.ok.mod.kin hm.kp (thn (ha.run pos pins s1 σ H1 _ I1 q) ?_) hst hpl
  rintro us s2 ⟨vs, H2, I2, r, q2⟩
  exact ⟨I2.kIn, run_fnS (us := .ref a :: us) (vs := .ref a :: vs) F hr hb (hx σ) I2 (.cons rfl r) q2⟩
end Ask

set_option Elab.async false
set_option linter.all false
set_option maxRecDepth 100000
set_option maxHeartbeats 2000000
/-! a law that hands lambdas to a def which keeps their error; its entry, with the table of its code objects tracked -/
namespace Ask
open PySem PySem.Spec L2
open PyProof.Rows
/-- an error in the air stands over as many slots as there are names -/
theorem takes_len {X : Cx} {W : WX} (tk : Takes X W) : Takes X (fun cls d σ H => σ.length = X.N.length → W cls d σ H) := by
  intro u s' xx
  obtain ⟨a, B, sI, pins, σ, H, cls, d, e, I, nb, up, sky, na, os, ag, w⟩ := xx
  exact tk u s' ⟨a, B, sI, pins, σ, H, cls, d, e, I, nb, up, sky, na, os, ag, w I.len⟩
/-- what of a heap the law's call sees: the script, sys.modules, the law's table -/
def seenT (K : PySem.W.Frag) (o1 : Obj) (t a : Addr) (vs : List Value) (ns : List Int) : Hp := fun b =>
  if b = t then some (.tbl #[]) else seenS K o1 a vs ns b
def spLawT (K : PySem.W.Frag) (t : Addr) : Sp := fun vs H Q _ => ∃ (s : Addr) (ns : List Int), vs = [.ref s] ∧
  SqL K H s (ns.map V.int) ∧ ns.length ≤ 63 ∧ Sys H ∧ H t = some (.tbl #[]) ∧ ∀ H', Q (.bl true) H'
theorem law_goT {P : Program} {w : World} {K : PySem.W.Frag} {mg mb ms : Str → Option Value} {k : Nat}
    {fa a c t : Addr} {fd : FuncData} {x : Str} {sp : Sp} {s₁ : Shared} {vs : List Value} {ns : List Int}
    (KX : K.In s₁.heap) (hK1 : K.lookup sysModules = none) (hsm : s₁.heap.Ns sysModules ms) (hns : s₁.heap.Ns mainGlobals mg) (hb : s₁.heap.Ns builtinsNs mb)
    (hbb : ∀ x : Str, x ≠ "__name__" → mb x = bootBuiltins x) (hlim : s₁.heap.NoLimit) (hg : s₁.gens = #[])
    (ht : s₁.heap.get? t = some { cls := .none, data := .fields #[] }) (nt : K.lookup t = none) (hC : PySem.W.CodeHd s₁.heap c t)
    (hbm : ∃ (bm : Addr) (ob : Obj), mg "__builtins__" = some (.ref bm) ∧ bm ≠ builtinsNs ∧ s₁.heap.get? bm = some ob ∧ ob.cls = .type "module" ∧ ob.dict = some builtinsNs ∧ ob.data = .plain)
    (ha : s₁.heap.get? a = some { cls := .type "list", data := .seq vs.toArray }) (hi : IntsAre vs ns)
    (hl : ns.length ≤ sizeLine) (hr : Room k callerA)
    (F : ∀ base : Heap, K.In base → base.Ns mainGlobals mg → LamX.TabB base mg c t → GOk P w K mg base CX0 k fa fd [x] sp)
    (hbind : ∀ (s : Shared) (u : Value), BindsTo s fd ⟨[u], []⟩ [(x, u)])
    (hsp : ∀ H : Hp, Sys H → H t = some (.tbl #[]) → SqL K H a (ns.map V.int) → sp [.ref a] H (fun v _ => v = .bl true) fun _ _ _ => False) :
    codeAny (model P w) callerA (.call (.ref fa) ⟨[.ref a], []⟩)
      (fun r s' => r = .ok (.ret (.bool true)) ∧ OldK s₁.heap s'.heap ∧ s'.os = s₁.os ∧ AllBare s'.gens) s₁ := by
  have rv := vals_ints hi
  have lenV := hi.length
  obtain ⟨o1, es1, ep1, h1, d1, _⟩ := hsm
  have a1 : a ≠ sysModules := fun z => by
    rw [z, h1] at ha
    rw [Option.some.inj ha] at d1
    cases (show Data.seq vs.toArray _ = Data.dict es1 ep1 from d1)
  have t1 : t ≠ sysModules := fun z => by
    rw [z, h1] at ht
    rw [Option.some.inj ht] at d1
    cases d1
  have ta : t ≠ a := fun z => by
    rw [z, ha] at ht
    have y := congrArg Obj.data (Option.some.inj ht)
    cases (show Data.seq vs.toArray _ = Data.fields #[] from y)
  -- what is tracked
  have hA : ∀ b u, seenT K o1 t a vs ns b = some u → (b = t ∧ u = .tbl #[]) ∨ (b = sysModules ∧ u = .frz o1 (.own 0)) ∨
      (b = a ∧ K.lookup a = none ∧ u = .frz { cls := .type "list", data := .seq vs.toArray } (.lst (ns.map V.int))) := by
    intro b u e
    unfold seenT at e
    by_cases hbt : b = t
    · rw [if_pos hbt] at e
      exact .inl ⟨hbt, (Option.some.inj e).symm⟩
    rw [if_neg hbt] at e
    refine .inr ?_
    unfold seenS at e
    by_cases hb1 : b = sysModules
    · rw [if_pos hb1] at e
      exact .inl ⟨hb1, (Option.some.inj e).symm⟩
    rw [if_neg hb1] at e
    refine .inr ?_
    unfold seen at e
    cases q : K.lookup a with
    | some o =>
      rw [q] at e
      cases e
    | none =>
      rw [q] at e
      by_cases hba : b = a
      · exact ⟨hba, rfl, (Option.some.inj ((if_pos hba).symm.trans e)).symm⟩
      · cases (if_neg hba).symm.trans e
  have hobj : ∀ b u, seenT K o1 t a vs ns b = some u → ∃ o, s₁.heap.get? b = some o ∧ K.lookup b = none ∧ (b = t ∨ ∃ v, u = .frz o v) ∧ (o.data = .fields #[] ∨ (o.data = o1.data ∧ b = sysModules) ∨ o.data = .seq vs.toArray) := by
    intro b u e
    rcases hA b u e with ⟨rfl, rfl⟩ | ⟨rfl, rfl⟩ | ⟨rfl, z, rfl⟩
    · exact ⟨_, ht, nt, .inl rfl, .inl rfl⟩
    · exact ⟨_, h1, hK1, .inr ⟨_, rfl⟩, .inr (.inl ⟨rfl, rfl⟩)⟩
    · exact ⟨_, ha, z, .inr ⟨_, rfl⟩, .inr (.inr rfl)⟩
  have hS : SqL K (seenT K o1 t a vs ns) a (ns.map V.int) := by
    cases q : K.lookup a with
    | some o =>
      have e := KX a o q
      rw [ha] at e
      cases e
      exact Or.inr ⟨_, vs.toArray, _, q, rfl, rfl, rfl, by rw [List.size_toArray, lenV]; exact hl, by simpa using rv⟩
    | none =>
      refine Or.inl (Or.inr ⟨{ cls := .type "list", data := .seq vs.toArray }, ?_⟩)
      unfold seenT seenS seen
      rw [if_neg (Ne.symm ta), if_neg a1, q]
      exact if_pos rfl
  have hok : HOk P w (seenT K o1 t a vs ns) s₁.heap := fun b u e => by
    rcases hA b u e with ⟨rfl, rfl⟩ | ⟨rfl, rfl⟩ | ⟨rfl, _, rfl⟩
    · exact ht
    · exact ⟨h1, o1, h1⟩
    · exact ⟨ha, by rw [List.length_map]; exact hl, vs, _, rv, ha⟩
  have free : ∀ {b : Addr} {o : Obj}, b ≠ sysModules → s₁.heap.get? b = some o → o.data ≠ .fields #[] → (∀ y, o.data ≠ .seq y) → seenT K o1 t a vs ns b = none := by
    intro b o hb1 e h2 h3
    cases q : seenT K o1 t a vs ns b with
    | none => rfl
    | some u =>
      obtain ⟨o', e', _, _, d⟩ := hobj b u q
      rw [e] at e'
      cases e'
      rcases d with d | ⟨_, d⟩ | d
      · exact absurd d h2
      · exact absurd d hb1
      · exact absurd d (h3 _)
  have nsH : ∀ {b : Addr} {m : Str → Option Value}, b ≠ sysModules → s₁.heap.Ns b m → (hidT s₁.heap (seenT K o1 t a vs ns)).Ns b m := by
    intro b m hb1 ⟨o, es, ep, e, d, r⟩
    exact ⟨o, es, ep, hidT_get e (free hb1 e (by rw [d]; exact fun z => by cases z) (fun y z => by rw [d] at z; cases z)), d, r⟩
  have kH : K.In (hidT s₁.heap (seenT K o1 t a vs ns)) := by
    intro b o e
    refine hidT_get (KX b o e) ?_
    cases q : seenT K o1 t a vs ns b with
    | none => rfl
    | some u =>
      obtain ⟨_, _, z, _⟩ := hobj b u q
      rw [z] at e
      cases e
  have limH : (hidT s₁.heap (seenT K o1 t a vs ns)).NoLimit := by
    obtain ⟨mc, l1, l2⟩ := hlim
    exact ⟨mc, nsH (by decide) l1, l2⟩
  have TB : LamX.TabB (hidT s₁.heap (seenT K o1 t a vs ns)) mg c t := by
    have notD : ∀ {b : Addr} {o : Obj}, s₁.heap.get? b = some o → (∀ y z, o.data ≠ .dict y z) → b ≠ sysModules := by
      rintro b o e n rfl
      rw [h1] at e
      cases e
      exact n _ _ d1
    refine ⟨?_, ?_, fun z => ?_⟩
    · obtain ⟨o, us, file, tf, flags, tg, inF, text, tt, e1, r1, r2, r3, r4, r5, r6, r7, r8, hne⟩ := hC
      have q1 : ∀ y z, o.data ≠ .dict y z := fun y z q => by rw [r2] at q; cases q
      have q2 : o.data ≠ .fields #[] := fun q => by
        rw [r2] at q
        cases q
        simp at r3
      have q3 : ∀ y, o.data ≠ .seq y := fun y q => by rw [r2] at q; cases q
      exact ⟨o, us, file, tf, flags, tg, inF, text, tt, hidT_get e1 (free (notD e1 q1) e1 q2 q3), r1, r2, r3, r4, r5, r6, r7, r8, hne⟩
    · obtain ⟨bm, ob, m1, m2, m3, m4, m5, m6⟩ := hbm
      have nG : bm ≠ mainGlobals := fun q => by
        obtain ⟨o, es, ep, e, hd, _⟩ := hns
        rw [q, e] at m3
        cases m3
        rw [hd] at m6
        cases m6
      have nT : bm ≠ t := fun q => by
        rw [q, ht] at m3
        cases m3
        cases m6
      exact ⟨bm, ob, m1, m2, nG, nT, hidT_get m3 (free (notD m3 (fun y z q => by rw [m6] at q; cases q)) m3 (fun q => by rw [m6] at q; cases q) (fun y q => by rw [m6] at q; cases q)), m4, m5, m6⟩
    · obtain ⟨o, es, ep, e, hd, _⟩ := hns
      rw [z, ht] at e
      cases e
      cases hd
  have e0 : Env0 P w K mg (hidT s₁.heap (seenT K o1 t a vs ns)) callerA [] s₁ (seenT K o1 t a vs ns) := {
    frames := rfl
    mod := ⟨kH, nsH (by decide) hns, ⟨mb, nsH (by decide) hb, hbb⟩, limH⟩
    bs := fun b o e => of_hidT e
    bsz := Nat.le_of_eq (hidT_size _ _)
    funs := trivial
    frf := fun b hb => absurd (show b ∈ ([] : List Addr) from hb) (by simp)
    hok := hok
    bare := .of_eq hg }
  have sys : Sys (seenT K o1 t a vs ns) := ⟨o1, .own 0, by
    unfold seenT seenS
    rw [if_neg (Ne.symm t1)]
    exact if_pos rfl⟩
  have run := (F _ kH (nsH (by decide) hns) TB).run callerA [] s₁ (seenT K o1 t a vs ns) ⟨[.ref a], []⟩ [.ref a] [.ref a]
    _ _ hr rfl e0 (hbind s₁ (.ref a)) (.cons rfl .nil) (hsp _ sys (if_pos rfl) hS)
  refine codeAny_mono run fun r s' h => ?_
  cases r with
  | error e => exact False.elim h
  | ok fl =>
    cases fl with
    | next => exact False.elim h
    | brk => exact False.elim h
    | cont => exact False.elim h
    | ret u =>
      obtain ⟨v, H', os, bare, un, hok', r', q⟩ := h
      obtain rfl : v = V.bl true := q
      obtain rfl : u = Value.bool true := r'
      have key : ∀ b o, b ≠ t → s₁.heap.get? b = some o → s'.heap.get? b = some o := by
        intro b o hbt e
        cases q : seenT K o1 t a vs ns b with
        | none => exact un.keep b o e q (fun z => nomatch z) (fun z => nomatch z)
        | some u =>
          obtain ⟨o2, g2, _, f, _⟩ := hobj b u q
          rcases f with f | ⟨u2, rfl⟩
          · exact absurd f hbt
          · obtain ⟨g3, _⟩ := hok' b _ (un.frzs b _ _ q)
            rw [e] at g2
            cases g2
            exact g3
      obtain ⟨more, z⟩ := un.tbls t #[] (if_pos rfl)
      have hm : s'.heap.get? t = some { cls := .none, data := .fields (#[] ++ more) } := hok' t _ z
      refine ⟨rfl, ⟨fun b o e => ?_, fun b o e => ?_⟩, os, bare⟩
      · by_cases hbt : b = t
        · subst hbt
          rw [ht] at e
          cases e
          exact .inr (.inl ⟨(hC.tab ht).isCodeTable, rfl, #[], more, rfl, hm⟩)
        · exact .inl (key b o hbt e)
      · by_cases hbt : b = t
        · rw [hbt]
          exact ⟨_, hm⟩
        · exact ⟨o, key b o hbt e⟩
/-- what is known of the law at the head's heap h -/
theorem walk_lawT {l : PySem.W.OpenLaw} {k : Nat} {q : Program} {loose : List Str}
    {XP : (Str → Option Value) → Heap → Prop} {YP : World → Heap → Prop} {d : DefRec}
    {K : Params → PySem.W.Frag} (hn : l.most = some 63) (hdf : d.params.defaults = []) (hr : Room k callerA)
    (hq : importsNone q = true) (hK1 : ∀ w : World, (K w.params).lookup sysModules = none)
    (hY : ∀ (w : World) (h : Heap), YP w h → (K w.params).In h)
    (F : ∀ (w : World) (mg : Str → Option Value) (fa : Addr) (h : Heap), YP w h → (K w.params).In h →
      h.Ns mainGlobals mg → mg d.name = some (.ref fa) →
      ∃ (fd : FuncData) (c t : Addr), h.get? t = some { cls := .none, data := .fields #[] } ∧ (K w.params).lookup t = none ∧ PySem.W.CodeHd h c t ∧
        (∀ (s : Shared) (u : Value), BindsTo s fd ⟨[u], []⟩ [("script", u)]) ∧
        ∀ base : Heap, (K w.params).In base → base.Ns mainGlobals mg → LamX.TabB base mg c t →
          GOk l.prog w (K w.params) mg base CX0 k fa fd ["script"] (spLawT (K w.params) t)) :
    PySem.W.WalkO q loose XP YP l.row.toRowW d [] (fun f vs => PySem.call f vs) := by
  refine Att.attach_call hn hdf ?_
  intro w s₀ s₁ mg mb fa o pm cd doc a vs ns G Y ho hd hcd hmg hobj hints hlen hg
  have KX := hY w _ Y
  obtain ⟨fd, c, t, ht, nt, hC, hb, hF⟩ := F w mg fa _ Y KX G.T.g hmg
  obtain ⟨mm, hsm, _⟩ := (G.T.seer hq).mods
  exact law_goT KX (hK1 w) hsm G.T.g G.T.b G.T.builtins G.T.nolimit hg ht nt hC G.T.bmain hobj hints (Nat.le_trans hlen (by decide)) hr hF hb
    fun H hO hT hS => ⟨a, ns, rfl, hS, hlen, hO, hT, fun _ => rfl⟩
end Ask

set_option Elab.async false
set_option linter.all false
set_option maxRecDepth 100000
set_option maxHeartbeats 2000000
/-! the end of a law whose own table of code objects is tracked: what is asked of the written part alone -/
namespace Ask
open PySem PySem.Spec L2
open PyProof.Rows
theorem walk_lawT2 {l : PySem.W.OpenLaw} {k : Nat} {q : Program} {loose : List Str}
    {XP : (Str → Option Value) → Heap → Prop} {YP : World → Heap → Prop} {d : DefRec}
    {K : Params → PySem.W.Frag} (hn : l.most = some 63) (hdf : d.params.defaults = []) (hr : Room k callerA)
    (hq : importsNone q = true) (hd : d ∈ recsOf q) (hK1 : ∀ w : World, (K w.params).lookup sysModules = none)
    (hY : ∀ (w : World) (h : Heap), YP w h → (K w.params).In h)
    (F : ∀ (w : World) (mg : Str → Option Value) (fa : Addr) (h : Heap), (K w.params).In h →
      h.Ns mainGlobals mg → mg d.name = some (.ref fa) →
      ∃ (fd : FuncData) (c t : Addr) (oF oC : Obj) (vs : Array Value), (K w.params).lookup fa = some oF ∧ oF.data = .func fd ∧ fd.code = .ref c ∧
        (K w.params).lookup c = some oC ∧ oC.data = .fields vs ∧ vs[11]? = some (.ref t) ∧ (K w.params).lookup t = none ∧
        (∀ (s : Shared) (u : Value), BindsTo s fd ⟨[u], []⟩ [("script", u)]) ∧
        ∀ base : Heap, (K w.params).In base → base.Ns mainGlobals mg → LamX.TabB base mg c t →
          GOk l.prog w (K w.params) mg base CX0 k fa fd ["script"] (spLawT (K w.params) t)) :
    PySem.W.WalkO q loose XP YP l.row.toRowW d [] (fun f vs => PySem.call f vs) := by
  refine Att.attach_call hn hdf ?_
  intro w s₀ s₁ mg mb fa o pm cd doc a vs ns G Y ho hdd hcd hmg hobj hints hlen hg
  have KX := hY w _ Y
  obtain ⟨fd, c, t, oF, oC, vsC, e1, e2, e3, e4, e5, e6, nt, hb, hF⟩ := F w mg fa _ KX G.T.g hmg
  obtain ⟨mm, hsm, _⟩ := (G.T.seer hq).mods
  obtain ⟨a', o', fd', c', P, m1, m2, m3, m4, hC, hT⟩ := G.T.tab d hd
  have ea : a' = fa := by
    have z := m1.symm.trans hmg
    cases z
    rfl
  subst ea
  have eo : o' = oF := Option.some.inj (m2.symm.trans (KX _ _ e1))
  subst eo
  have ef : fd' = fd := by
    rw [m3] at e2
    cases e2
    rfl
  subst ef
  have ec : c' = c := by
    rw [m4] at e3
    cases e3
    rfl
  subst ec
  obtain ⟨oc, vs2, f1, f2, f3, f4⟩ := id hT.1
  have eoc : oc = oC := Option.some.inj (f1.symm.trans (KX _ _ e4))
  subst eoc
  have ev : vs2 = vsC := by
    rw [f3] at e5
    cases e5
    rfl
  subst ev
  have et : P = t := by
    rw [f4] at e6
    cases e6
    rfl
  subst et
  exact law_goT KX (hK1 w) hsm G.T.g G.T.b G.T.builtins G.T.nolimit hg hT.2 nt (PySem.W.CodeHd.of hC hT) G.T.bmain hobj hints (Nat.le_trans hlen (by decide)) hr hF hb
    fun H hO hT hS => ⟨a, ns, rfl, hS, hlen, hO, hT, fun _ => rfl⟩
end Ask

set_option Elab.async false
set_option linter.all false
set_option maxRecDepth 100000
set_option maxHeartbeats 2000000
/-! an instance made of starred arguments; a dict comprehension over a list; list(d.values()) -/
namespace Ask
open PySem PySem.Spec L2 StX
open PyProof.Rows
section
variable {X : Cx} {CX : CXT} {k i : Nat} {C f p0 g : Addr} {sp : Sp} {E : XK} {x m : Str} {e o : Expr} {es : List Expr} {te ta : TE} {t : TA} {p sp_ pos apos : Pos}
/-- C() , C's __init__ with a star alone behind self -/
theorem pe_make0R (M : Mk X.K C f) (F : FnR X.prog X.w X.K X.mg X.base CX k f sp) (hr : Room (k + 1) X.A) (hg : Gl X x) (hm : X.mg x = some (.ref C)) (hx : Passes CX X E) (hdb : (x == ("__debug__" : Str)) = false := by decide) :
    PE X (.Call (.Name x p) [] [] pos) (tMakeR C sp E tNil) := by
  refine ⟨fun pins s σ H Q I h => ?_⟩
  refine wpAny_Call_Name_kw (ld_glob I hg hm ?_ hdb)
  exact PySem.W.callWith_K0 I.kIn M.kp (run_makeR M F hr hx I .nil h)
/-- C(*e) -/
def tMakeS (K : PySem.W.Frag) (C : Addr) (sp : Sp) (E : XK) (te : TE) : TE := fun σ H Q => te σ H fun y H1 => ∃ a xs, y = V.ref a ∧ (SqT K H1 a xs ∨ SqL K H1 a xs) ∧ ∀ x dx, H1 x = none → H1 dx = none → dx ≠ x →
  sp (V.ref x :: xs) (upd (upd H1 dx (.own x)) x (.ins C dx [])) (fun v H2 => v = .non ∧ Q (.ref x) H2) E
theorem pe_makeS (M : Mk X.K C f) (F : FnR X.prog X.w X.K X.mg X.base CX k f sp) (hr : Room (k + 1) X.A) (hg : Gl X x) (hm : X.mg x = some (.ref C)) (hx : Passes CX X E) (he : PE X e te) (hd : (x == ("__debug__" : Str)) = false := by decide)
    (hst : starEach [.Starred e sp_] X.env = [(true, eval e X.env)] := by rfl) :
    PE X (.Call (.Name x p) [.Starred e sp_] [] pos) (tMakeS X.K C sp E te) := by
  refine ⟨fun pins s σ H Q I h => ?_⟩
  refine wpAny_Call_Name_kw (ld_glob I hg hm ?_ hd)
  refine PySem.W.callWith_S (h₀ := X.base) I.ok.mod.kin M.kp (thn (he.run pins s σ H _ I h) fun v s1 ⟨y, H1, I1, ry, a, xs, ey, hxs, q⟩ => ?_) hst
  subst ey
  obtain rfl : v = Value.ref a := ry
  exact star_any I1 hxs fun us s2 I2 rv => ⟨I2.kIn, run_makeR M F hr hx I2 rv q⟩
/-- the same, the i-th slot holds the class -/
theorem pe_makeLS (M : Mk X.K C f) (F : FnR X.prog X.w X.K X.mg X.base CX k f sp) (hr : Room (k + 1) X.A) (hN : X.N[i]? = some x) (hv : Vis X.env.scope x) (hx : Passes CX X E) (he : PE X e te) (hdb : (x == ("__debug__" : Str)) = false := by decide)
    (hcd : (x == ("__classdict__" : Str)) = false := by decide)
    (hst : starEach [.Starred e sp_] X.env = [(true, eval e X.env)] := by rfl) :
    PE X (.Call (.Name x p) [.Starred e sp_] [] pos) (fun σ H Q => σ[i]? = some (some (.ref C)) ∧ tMakeS X.K C sp E te σ H Q) := by
  refine ⟨fun pins s σ H Q I h => ?_⟩
  obtain ⟨hs, ht⟩ := h
  have hv' := (pe_var (pos := p) hN hv hdb hcd).run pins s σ H (fun v H1 => v = .ref C ∧ H1 = H) I ⟨.ref C, hs, rfl, rfl⟩
  refine wpAny_Call_Name_kw (thn hv' ?_)
  rintro u s1 ⟨v, H1, I1, r1, rfl, rfl⟩
  cases r1
  refine PySem.W.callWith_S (h₀ := X.base) I1.ok.mod.kin M.kp (thn (he.run pins s1 σ _ _ I1 ht) fun v s2 ⟨y, H2, I2, ry, a, xs, ey, hxs, q⟩ => ?_) hst
  subst ey
  obtain rfl : v = Value.ref a := ry
  exact star_any I2 hxs fun us s3 I3 rv => ⟨I3.kIn, run_makeR M F hr hx I3 rv q⟩
end
/-- {k: v for x in a list that stays} -/
theorem dc_list {K : PySem.W.Frag} {a : Addr} {xs : List V} {g : TG} {tt : TT} {tk tv : TE} {vs : List Nat} {σ : L2.St} {H1 : Hp} {D : Addr} {Qd : Hp → Prop} (Pv : Nat → Hp → Prop) (h0 : Pv 0 (upd H1 D (.dK []))) (hl : ∀ i H, i ≤ xs.length → Pv i H → SqL K H a xs)
    (hs : ∀ i x H, xs[i]? = some x → Pv i H → g x (wipe σ vs) H fun σ2 H2 => wipe σ2 vs = wipe σ vs ∧ tt σ2 H2 fun b H3 =>
      if b = true then tk σ2 H3 fun y H4 => tv σ2 H4 fun z H5 => ∃ kvs k, y = kV k ∧ H5 D = some (.dK kvs) ∧ kvs.length < sizeLine ∧ Pv (i + 1) (upd H5 D (.dK (putK kvs k z))) else Pv (i + 1) H3) (hd : ∀ H, Pv xs.length H → Qd H) :
    ∃ W : Nat → Nat → Hp → Prop, (∃ m, W 0 m (upd H1 D (.dK []))) ∧ ∀ i m H, W i m H →
      ((Itl K a).stop i H ∧ Qd H) ∨ ((Itl K a).go i H ∧ ∃ Nx : Hp → Prop, (∀ H', Nx H' → ∃ m', m' < m ∧ W (i + 1) m' H') ∧ ∀ x H', (Itl K a).yld i H x H' → g x (wipe σ vs) H' fun σ2 H2 => wipe σ2 vs = wipe σ vs ∧ tt σ2 H2 fun b H3 =>
        if b = true then tk σ2 H3 fun y H4 => tv σ2 H4 fun z H5 => ∃ kvs k, y = kV k ∧ H5 D = some (.dK kvs) ∧ kvs.length < sizeLine ∧ Nx (upd H5 D (.dK (putK kvs k z))) else Nx H3) := by
  refine ⟨fun i m H => m = xs.length - i ∧ i ≤ xs.length ∧ Pv i H, ⟨xs.length, by simp, Nat.zero_le _, h0⟩, ?_⟩
  rintro i m H ⟨rfl, hi, p⟩
  have q := hl i H hi p
  by_cases hlt : i < xs.length
  · refine .inr ⟨⟨xs, xs[i], q, by simp [hlt]⟩, Pv (i + 1), fun H' p' => ⟨xs.length - (i + 1), by omega, rfl, hlt, p'⟩, fun x H' y => ?_⟩
    obtain ⟨e, y⟩ := y
    subst e
    exact hs i x _ (y xs q) p
  · have e : i = xs.length := by omega
    subst e
    exact .inl ⟨⟨xs, q, Nat.le_refl _⟩, hd H p⟩
/-- list(e.values()) -/
def tListValues (te : TE) : TE := fun σ H Q => te σ H fun x H1 => ∃ (d : Addr) (kvs : List (Key × V)), x = .ref d ∧ H1 d = some (.dK kvs) ∧ ∀ p, H1 p = none → Q (.ref p) (upd H1 p (.lst (kvs.map (·.2))))
theorem vals_of_ix : ∀ {xs : List V} {us : List Value}, xs.length = us.length → (∀ (j : Nat) (x : V) (u : Value), xs[j]? = some x → us[j]? = some u → RelV x u) → Vals xs us := L2.vals_of_at
section
variable {X : Cx} {e : Expr} {te : TE} {p apos cpos pos : Pos}
theorem pe_listValues (hc : X.calm = true) (he : PE X e te) (hg : Gl X "list") (hm : X.mg "list" = none) (hv : bootBuiltins "list" = some (.type "list")) (hbase : attributeBase e "values" X.env (eval e X.env) = eval e X.env := by rfl) (hline : (apos.endLine == cpos.line) = true := by rfl)
    (hs : starEach [.Call (.Attribute e "values" apos) [] [] cpos] X.env = (false, eval (.Call (.Attribute e "values" apos) [] [] cpos) X.env) :: starEach [] X.env := by rfl) :
    PE X (.Call (.Name "list" p) [.Call (.Attribute e "values" apos) [] [] cpos] [] pos) (tListValues te) := by
  refine ⟨fun pins s σ H Q I hq => ?_⟩
  refine wpAny_Call_Name_kw (ld_blt I hg hm hv ?_)
  refine PyProof.Rows.callWith_type1 ?_ hs rfl
  rw [hs]
  show wpAny _ _ (spliced ((false, eval (.Call (.Attribute e "values" apos) [] [] cpos) X.env) :: backTo pos (starEach [] X.env))) _ _ s
  refine Calls.spliced_cons ?_
  refine wpAny_Call_method (T := "dict") (id := "dict.values") hbase rfl hline F.plainAttrs_dict F.slot_dict_values F.type_dict_values (thn (he.run pins s σ H _ I hq) fun u s1 ⟨x, H1, I1, rx, d, kvs, ex, hd, q⟩ => ?_)
  subst ex
  obtain rfl : u = Value.ref d := rx
  obtain ⟨hz, hs0, vs, kv, hdo⟩ := I1.hok d _ hd
  obtain ⟨ep, hat⟩ := hdo.dictAt
  have lk : kvs.length = vs.length := Paired.length kv
  have I2 : Inv X pins σ H1 { s1 with heap := s1.heap.push { cls := .type "dict_values", data := .fields #[.ref d] } } := I1.kept (t' := s1.toks) fun b ob q => Heap.get?_push_of_some _ q
  refine ⟨hdo.typeIs, hdo.mapOf.noDict, ?_⟩
  show wpAny _ _ (callWith cpos (.builtin "dict.values") [.ref d] [] []) _ X.xe s1
  refine method_meetsIn F.slot_dict_values F.entry_dict_values rfl (PySem.evalArgs_none ⟨rfl, hdo.typeIs, F.args_dict_values_1 _, _, meets_dict_values (mixKind X.prog X.w) d hs0, ⟨vs, hdo⟩, ?_⟩)
  refine Calls.spliced_nil ?_
  refine PySem.W.kdl_call (PySem.W.kdl_values (knd := mixKind X.prog X.w) (kvs := vs) (ep := ep)) (I1.ok.hd hc) ⟨⟨_, Heap.get?_push_size _ rfl, rfl, rfl⟩, hat.push _⟩ (by omega) fun h' tk acc c' hk hD hacc => ?_
  have rv : Vals (kvs.map (·.2)) acc.toList := by
    have k2 := (kv_keys kv).2
    refine vals_of_ix ((List.length_map ..).trans (lk.trans (hacc.1.symm.trans Array.length_toList.symm))) fun j x u e1 e2 => ?_
    obtain ⟨kk, e3⟩ := hacc.2 j u (by rw [← Array.getElem?_toList]; exact e2)
    have e4 : (vs.map (·.2))[j]? = some u := by rw [List.getElem?_map, e3]; rfl
    obtain ⟨y, f1, f2⟩ := LiI.paired_get k2 e1
    rw [e4] at f1
    cases f1
    exact f2
  refine ⟨.ref _, _, I2.laid (t' := tk) hk (Nat.le_refl _) (show ObjOk X.prog X.w _ _ _ (.lst (kvs.map (·.2))) from ⟨by rw [List.length_map]; omega, acc.toList, c', rv, by rw [Array.toArray_toList]; exact hD⟩), rfl, q _ (I2.hok.fresh (Nat.le_refl _))⟩
end
/-- o.m(*e), e a tuple or a list -/
def tMethSL (K : PySem.W.Frag) (C : Addr) (m : Str) (g : Addr) (sp : Sp) (E : XK) (ta te : TE) : TE := fun σ H Q => ta σ H fun x H1 => ∃ a dx fs, x = .ref a ∧ H1 a = some (.ins C dx fs) ∧ fs.lookup m = none ∧
  ∀ q, H1 q = none → te σ (upd H1 q (.met g a)) fun y H2 => ∃ b vs, y = .ref b ∧ (SqT K H2 b vs ∨ SqL K H2 b vs) ∧ H2 q = some (.met g a) ∧ sp (.ref a :: vs) H2 Q E
theorem pe_methSL {X : Cx} {CX : CXT} {k : Nat} {C g : Addr} {m : Str} {sp : Sp} {E : XK} {o e : Expr} {ta te : TE} {p apos pos : Pos} (he : PE X o ta) (c : Cls X.K C) (b : BMeth X.K C m g) (F : FnR X.prog X.w X.K X.mg X.base CX k g sp) (hr : Room k X.A)
    (hx : Passes CX X E) (ha : PE X e te) (hbase : attributeBase o m X.env (eval o X.env) = eval o X.env := by rfl) : PE X (.Call (.Attribute o m apos) [.Starred e p] [] pos) (tMethSL X.K C m g sp E ta te) := by
  refine ⟨fun pins s σ H Q I h => ?_⟩
  refine starcall_of hbase (thn (he.run pins s σ H _ I h) fun u s1 ⟨x, H1, I1, rx, a, dx, fs, ex, ea, l, q⟩ => ?_)
  subst ex
  obtain rfl : u = Value.ref a := rx
  refine getbound_ok I1 ea c b l fun q1 s2 hq1 I2 => ?_
  refine PySem.W.ks_call (P := PySem.W.MethP X.K q1 g (.ref a)) rfl (PySem.W.keeps_M b.fi) (PySem.W.ks_lone ?_)
  refine thn (ha.run pins s2 σ _ _ I2 (q q1 hq1)) fun v s3 ⟨y, H2, I3, ry, t, vs, ey, ht, hm, hsp⟩ => ?_
  subst ey
  obtain rfl : v = Value.ref t := ry
  refine StX.star_any I3 ht fun us s4 I4 rv => ⟨met_P I4 hm, ?_⟩
  exact wpAny_call (PySem.W.method_call (met_P I4 hm).1 (run_fnR (us := Value.ref a :: us) (vs := V.ref a :: vs) F hr hx I4 (.cons rfl rv) hsp))
theorem upd_undo {H : Hp} {d : Addr} {u o : HO} (h : H d = some u) : upd (upd H d o) d u = H := by
  funext b
  by_cases e : b = d
  · rw [e, upd_same, h]
  · rw [upd_ne e, upd_ne e]
theorem call_isiK {X : Cx} {K : PySem.W.Frag} (h : X.K = K) : CallR X (.builtin "isinstance") (rIsi K) := h ▸ call_isi
theorem pe_fldK {X : Cx} {K : PySem.W.Frag} {o : Expr} {n : Str} {pos : Pos} {t : TE} (hK : X.K = K) (he : PE X o t) (hb : attributeBase o n X.env (eval o X.env) = eval o X.env) : PE X (.Attribute o n pos) (tFld K t n) := hK ▸ pe_fld he hb
end Ask

set_option Elab.async false
set_option linter.all false
set_option maxRecDepth 100000
/-! rows: sorted by their names; a dict from names to addresses -/
namespace Ask
open PySem L2
open PyProof.Rows
def ltS (x y : Str) : Prop := x.cps.toList < y.cps.toList
theorem ltS_irrefl (x : Str) : ¬ ltS x x := List.lt_irrefl _
theorem ltS_trans {x y z : Str} (a : ltS x y) (b : ltS y z) : ltS x z := List.lt_trans a b
theorem ltS_asymm {x y : Str} (a : ltS x y) : ¬ ltS y x := fun b => ltS_irrefl _ (ltS_trans a b)
theorem str_ext {x y : Str} (h : x.cps.toList = y.cps.toList) : x = y := by
  obtain ⟨a⟩ := x
  obtain ⟨b⟩ := y
  congr 1
  exact Array.ext' h
theorem ltS_tri (x y : Str) : ltS x y ∨ x = y ∨ ltS y x := by
  by_cases h1 : ltS x y
  · exact .inl h1
  · by_cases h2 : ltS y x
    · exact .inr (.inr h2)
    · exact .inr (.inl (str_ext (List.le_antisymm (show x.cps.toList ≤ y.cps.toList from h2) (show y.cps.toList ≤ x.cps.toList from h1))))
instance (x y : Str) : Decidable (ltS x y) := inferInstanceAs (Decidable (x.cps.toList < y.cps.toList))
theorem rising_pw : ∀ (l : List Str) (p : Str), risingS p l = true → (∀ x ∈ l, ¬ ltS x p) ∧ l.Pairwise (fun a b => ¬ ltS b a)
  | [], _, _ => ⟨by simp, .nil⟩
  | x :: r, p, h => by
    unfold risingS at h
    rw [Bool.and_eq_true, Bool.not_eq_true'] at h
    obtain ⟨h1, h2⟩ := h
    have n1 : ¬ ltS x p := by
      rw [ltCps_eq] at h1
      exact of_decide_eq_false h1
    obtain ⟨i1, i2⟩ := rising_pw r x h2
    refine ⟨fun y hy => ?_, List.pairwise_cons.mpr ⟨i1, i2⟩⟩
    rcases List.mem_cons.mp hy with rfl | hy
    · exact n1
    · intro hlt
      rcases ltS_tri x p with q | q | q
      · exact n1 q
      · exact i1 y hy (q ▸ hlt)
      · exact i1 y hy (ltS_trans hlt q)
theorem sortedS_pw {l : List Str} (h : sortedS l = true) : l.Pairwise (fun a b => ¬ ltS b a) := by
  cases l with
  | nil => exact .nil
  | cons x r =>
    obtain ⟨h1, h2⟩ := rising_pw r x h
    exact List.pairwise_cons.mpr ⟨h1, h2⟩
/-- sorted, and no two equal: ascending -/
theorem sortedS_lt {l : List Str} (h : sortedS l = true) (nd : l.Nodup) : l.Pairwise ltS := by
  have p := sortedS_pw h
  induction l with
  | nil => exact .nil
  | cons x r ih =>
    rw [List.pairwise_cons] at p ⊢
    rw [List.nodup_cons] at nd
    refine ⟨fun y hy => ?_, ih ?_ nd.2 p.2⟩
    · rcases ltS_tri x y with q | q | q
      · exact q
      · exact absurd (q ▸ hy) nd.1
      · exact absurd q (p.1 y hy)
    · refine sortedS_of_pairwise r (p.2.imp fun {a b} q => ?_)
      rw [ltCps_eq]
      exact decide_eq_false q
/-- two ascending lists of the same items are one -/
theorem asc_unique {α : Type} {R : α → α → Prop} (irr : ∀ x, ¬ R x x) (tr : ∀ {x y z}, R x y → R y z → R x z) : ∀ {l m : List α}, l.Pairwise R → m.Pairwise R → (∀ x, x ∈ l ↔ x ∈ m) → l = m
  | [], [], _, _, _ => rfl
  | [], y :: m, _, _, h => absurd ((h y).mpr List.mem_cons_self) (by simp)
  | x :: l, [], _, _, h => absurd ((h x).mp List.mem_cons_self) (by simp)
  | x :: l, y :: m, p, q, h => by
    rw [List.pairwise_cons] at p q
    have e : x = y := by
      rcases List.mem_cons.mp ((h x).mp List.mem_cons_self) with e | hx
      · exact e
      · rcases List.mem_cons.mp ((h y).mpr List.mem_cons_self) with e | hy
        · exact e.symm
        · exact absurd (tr (p.1 y hy) (q.1 x hx)) (irr x)
    subst e
    congr 1
    refine asc_unique irr tr p.2 q.2 fun z => ⟨fun hz => ?_, fun hz => ?_⟩
    · rcases List.mem_cons.mp ((h z).mp (List.mem_cons_of_mem _ hz)) with e | hz'
      · exact absurd (e ▸ p.1 z hz) (irr x)
      · exact hz'
    · rcases List.mem_cons.mp ((h z).mpr (List.mem_cons_of_mem _ hz)) with e | hz'
      · exact absurd (e ▸ q.1 z hz) (irr x)
      · exact hz'
structure Rw where
  nm : Str
  lo : Int
  hi : Int
  pr : Int
deriving DecidableEq
def ltR (a b : Rw) : Prop := ltS a.nm b.nm
theorem ltR_irrefl (x : Rw) : ¬ ltR x x := ltS_irrefl _
theorem ltR_trans {x y z : Rw} (a : ltR x y) (b : ltR y z) : ltR x z := ltS_trans a b
/-- ascending by name -/
def Asc (rs : List Rw) : Prop := rs.Pairwise ltR
theorem Asc.nodup {rs : List Rw} (h : Asc rs) : (rs.map (·.nm)).Nodup := by
  unfold Asc at h
  rw [List.nodup_iff_pairwise_ne, List.pairwise_map]
  exact h.imp fun {a b} q (e : a.nm = b.nm) => ltS_irrefl b.nm (by have z : ltS a.nm b.nm := q; rw [e] at z; exact z)
theorem Asc.unique {l m : List Rw} (p : Asc l) (q : Asc m) (h : ∀ x, x ∈ l ↔ x ∈ m) : l = m := asc_unique ltR_irrefl ltR_trans p q h
/-- r in, in the place of the row of its name if there is one -/
def putR (rs : List Rw) (r : Rw) : List Rw := if r.nm ∈ rs.map (·.nm) then rs.map fun x => if x.nm = r.nm then r else x else rs ++ [r]
theorem putR_mem {rs : List Rw} {r x : Rw} : x ∈ putR rs r ↔ x = r ∨ (x ∈ rs ∧ x.nm ≠ r.nm) := by
  unfold putR
  by_cases h : r.nm ∈ rs.map (·.nm)
  · rw [if_pos h, List.mem_map]
    constructor
    · rintro ⟨y, hy, e⟩
      by_cases q : y.nm = r.nm
      · rw [if_pos q] at e
        exact .inl e.symm
      · rw [if_neg q] at e
        exact .inr ⟨e ▸ hy, e ▸ q⟩
    · rintro (rfl | ⟨hx, n⟩)
      · obtain ⟨y, hy, e⟩ := List.mem_map.mp h
        exact ⟨y, hy, if_pos e⟩
      · exact ⟨x, hx, if_neg n⟩
  · rw [if_neg h, List.mem_append, List.mem_singleton]
    constructor
    · rintro (hx | rfl)
      · exact .inr ⟨hx, fun e => h (e ▸ List.mem_map.mpr ⟨x, hx, rfl⟩)⟩
      · exact .inl rfl
    · rintro (rfl | ⟨hx, _⟩)
      · exact .inr rfl
      · exact .inl hx
theorem putR_names {rs : List Rw} {r : Rw} : (putR rs r).map (·.nm) = if r.nm ∈ rs.map (·.nm) then rs.map (·.nm) else rs.map (·.nm) ++ [r.nm] := by
  unfold putR
  by_cases h : r.nm ∈ rs.map (·.nm)
  · rw [if_pos h, if_pos h, List.map_map]
    refine List.map_congr_left fun x _ => ?_
    show (if x.nm = r.nm then r else x).nm = x.nm
    by_cases q : x.nm = r.nm
    · rw [if_pos q]
      exact q.symm
    · rw [if_neg q]
  · rw [if_neg h, if_neg h, List.map_append]
    rfl
theorem putR_nodup {rs : List Rw} {r : Rw} (n : (rs.map (·.nm)).Nodup) : ((putR rs r).map (·.nm)).Nodup := by
  rw [putR_names]
  by_cases h : r.nm ∈ rs.map (·.nm)
  · rw [if_pos h]
    exact n
  · rw [if_neg h]
    exact nd_snoc n h
theorem putR_len {rs : List Rw} {r : Rw} : (putR rs r).length ≤ rs.length + 1 := by
  have e := congrArg List.length (putR_names (rs := rs) (r := r))
  rw [List.length_map] at e
  rw [e]
  by_cases h : r.nm ∈ rs.map (·.nm)
  · rw [if_pos h, List.length_map]
    omega
  · rw [if_neg h, List.length_append, List.length_map]
    exact Nat.le_refl _
/-! ### the dict of rows: names to addresses -/
def ents (as : List Addr) (rs : List Rw) : List (Key × V) := (as.zip rs).map fun p => (Sum.inr p.2.nm, V.ref p.1)
theorem ents_keys : ∀ {as : List Addr} {rs : List Rw}, as.length = rs.length → (ents as rs).map (·.1) = (rs.map (·.nm)).map Sum.inr
  | [], [], _ => rfl
  | a :: as, r :: rs, h => by
    have i := ents_keys (as := as) (rs := rs) (by simpa using h)
    unfold ents at i ⊢
    rw [List.zip_cons_cons, List.map_cons, List.map_cons, List.map_cons, List.map_cons, i]
theorem ents_vals : ∀ {as : List Addr} {rs : List Rw}, as.length = rs.length → (ents as rs).map (·.2) = as.map V.ref
  | [], [], _ => rfl
  | a :: as, r :: rs, h => by
    have i := ents_vals (as := as) (rs := rs) (by simpa using h)
    unfold ents at i ⊢
    rw [List.zip_cons_cons, List.map_cons, List.map_cons, List.map_cons, i]
theorem ents_len {as : List Addr} {rs : List Rw} (h : as.length = rs.length) : (ents as rs).length = rs.length := by
  unfold ents
  rw [List.length_map, List.length_zip, h, Nat.min_self]
theorem ents_none : ∀ {as : List Addr} {rs : List Rw} {n : Str}, n ∉ rs.map (·.nm) → valV (ents as rs) (Sum.inr n : Key) = none
  | [], _, _, _ => rfl
  | _ :: _, [], _, _ => rfl
  | a :: as, r :: rs, n, h => by
    rw [List.map_cons, List.mem_cons, not_or] at h
    have i := ents_none (as := as) h.2
    unfold ents at i ⊢
    rw [List.zip_cons_cons, List.map_cons]
    exact (valV_neg (fun z => h.1 (Sum.inr.inj z).symm)).trans i
theorem ents_some : ∀ {as : List Addr} {rs : List Rw} {i : Nat} {a : Addr} {r : Rw}, (rs.map (·.nm)).Nodup → as[i]? = some a → rs[i]? = some r → valV (ents as rs) (Sum.inr r.nm : Key) = some (.ref a)
  | [], _, _, _, _, _, h, _ => by simp at h
  | _ :: _, [], _, _, _, _, _, h => by simp at h
  | a :: as, r :: rs, 0, _, _, _, h, g => by
    simp at h g
    subst h g
    exact valV_pos rfl
  | a :: as, r :: rs, i + 1, b, q, n, h, g => by
    rw [List.map_cons, List.nodup_cons] at n
    simp at h g
    have i := ents_some n.2 h g
    unfold ents at i ⊢
    rw [List.zip_cons_cons, List.map_cons]
    refine (valV_neg fun z => n.1 ?_).trans i
    rw [show r.nm = q.nm from Sum.inr.inj z]
    exact List.mem_map.mpr ⟨q, List.mem_of_getElem? g, rfl⟩
/-- the addresses behind a row put in -/
def putA : List Addr → List Rw → Addr → Str → List Addr
  | [], _, a, _ => [a]
  | b :: as, [], a, _ => b :: as
  | b :: as, r :: rs, a, n => if r.nm = n then a :: as else b :: putA as rs a n
theorem ents_put : ∀ {as : List Addr} {rs : List Rw} {a : Addr} {r : Rw}, as.length = rs.length → (rs.map (·.nm)).Nodup → putK (ents as rs) (Sum.inr r.nm : Key) (.ref a) = ents (putA as rs a r.nm) (putR rs r) ∧ (putA as rs a r.nm).length = (putR rs r).length
  | [], [], a, r, _, _ => ⟨rfl, rfl⟩
  | b :: as, x :: rs, a, r, h, n => by
    have hl : as.length = rs.length := by simpa using h
    rw [List.map_cons, List.nodup_cons] at n
    by_cases q : x.nm = r.nm
    · have e1 : putA (b :: as) (x :: rs) a r.nm = a :: as := if_pos q
      have nr : ∀ y ∈ rs, y.nm ≠ r.nm := fun y hy z => n.1 (q ▸ z ▸ List.mem_map.mpr ⟨y, hy, rfl⟩)
      have e2 : putR (x :: rs) r = r :: rs := by
        unfold putR
        rw [if_pos (by rw [List.map_cons, q]; exact List.mem_cons_self), List.map_cons, if_pos q]
        congr 1
        exact (List.map_congr_left (g := id) fun y hy => (if_neg (nr y hy) : (if y.nm = r.nm then r else y) = y)).trans (List.map_id rs)
      rw [e1, e2]
      refine ⟨?_, by rw [List.length_cons, List.length_cons, hl]⟩
      have old : (ents as rs).map (fun kv => if kv.1 = (Sum.inr r.nm : Key) then (kv.1, V.ref a) else kv) = ents as rs := by
        refine (List.map_congr_left (g := id) fun kv hkv => ?_).trans (List.map_id _)
        refine if_neg fun z => ?_
        have m : kv.1 ∈ (ents as rs).map (·.1) := List.mem_map.mpr ⟨kv, hkv, rfl⟩
        rw [ents_keys hl, z] at m
        obtain ⟨y, hy, e⟩ := List.mem_map.mp m
        obtain ⟨w, hw, e'⟩ := List.mem_map.mp hy
        exact nr w hw (e'.trans (Sum.inr.inj e))
      have c1 : ents (b :: as) (x :: rs) = (Sum.inr x.nm, V.ref b) :: ents as rs := rfl
      have c2 : ents (a :: as) (r :: rs) = (Sum.inr r.nm, V.ref a) :: ents as rs := rfl
      rw [c1, c2]
      unfold putK
      rw [if_pos (by rw [List.any_cons, q]; simp), List.map_cons, old, if_pos (by rw [q]), q]
    · have e1 : putA (b :: as) (x :: rs) a r.nm = b :: putA as rs a r.nm := if_neg q
      obtain ⟨i1, i2⟩ := ents_put (a := a) (r := r) hl n.2
      have e2 : putR (x :: rs) r = x :: putR rs r := by
        unfold putR
        have m : r.nm ∈ (x :: rs).map (·.nm) ↔ r.nm ∈ rs.map (·.nm) := by
          rw [List.map_cons, List.mem_cons]
          exact ⟨fun z => z.elim (fun z => absurd z.symm q) id, .inr⟩
        by_cases hm : r.nm ∈ rs.map (·.nm)
        · rw [if_pos (m.mpr hm), if_pos hm, List.map_cons, if_neg q]
        · rw [if_neg (fun z => hm (m.mp z)), if_neg hm]
          rfl
      rw [e1, e2]
      refine ⟨?_, by rw [List.length_cons, List.length_cons, i2]⟩
      have c1 : ents (b :: as) (x :: rs) = (Sum.inr x.nm, V.ref b) :: ents as rs := rfl
      have c2 : ents (b :: putA as rs a r.nm) (x :: putR rs r) = (Sum.inr x.nm, V.ref b) :: ents (putA as rs a r.nm) (putR rs r) := rfl
      rw [c1, c2, ← i1]
      have q' : ¬ (Sum.inr x.nm : Key) = Sum.inr r.nm := fun z => q (Sum.inr.inj z)
      unfold putK
      by_cases an : ((ents as rs).any fun kv => decide (kv.1 = (Sum.inr r.nm : Key))) = true
      · rw [if_pos (by rw [List.any_cons, an, Bool.or_true]), if_pos an, List.map_cons, if_neg q']
      · rw [if_neg (by rw [List.any_cons, Bool.eq_false_iff.mpr an, decide_eq_false q']; decide), if_neg an]
        rfl
theorem ents_snoc {as : List Addr} {rs : List Rw} {a : Addr} {r : Rw} (h : as.length = rs.length) : ents (as ++ [a]) (rs ++ [r]) = ents as rs ++ [(Sum.inr r.nm, V.ref a)] := by
  unfold ents
  rw [List.zip_append h, List.map_append]
  rfl
theorem take_snoc {α : Type} {l : List α} {i : Nat} {x : α} (h : l[i]? = some x) : l.take (i + 1) = l.take i ++ [x] := by
  rw [List.take_add_one, h]
  rfl
theorem name_inj : ∀ {rs : List Rw} {a b : Rw}, (rs.map (·.nm)).Nodup → a ∈ rs → b ∈ rs → a.nm = b.nm → a = b
  | r :: rs, a, b, n, ha, hb, e => by
    rw [List.map_cons, List.nodup_cons] at n
    rcases List.mem_cons.mp ha with ea | ha' <;> rcases List.mem_cons.mp hb with eb | hb'
    · rw [ea, eb]
    · exact absurd (show r.nm ∈ rs.map (·.nm) by rw [← ea, e]; exact List.mem_map.mpr ⟨b, hb', rfl⟩) n.1
    · exact absurd (show r.nm ∈ rs.map (·.nm) by rw [← eb, ← e]; exact List.mem_map.mpr ⟨a, ha', rfl⟩) n.1
    · exact name_inj n.2 ha' hb' e
/-- a place where both stand -/
def Both (as : List Addr) (rs : List Rw) (a : Addr) (r : Rw) : Prop := ∃ i : Nat, as[i]? = some a ∧ rs[i]? = some r
theorem pick_rows {as : List Addr} {rs : List Rw} (hl : as.length = rs.length) : ∀ ys : List Str, (∀ y ∈ ys, y ∈ rs.map (·.nm)) → ∃ as' rs', rs'.map (·.nm) = ys ∧ Paired (Both as rs) as' rs'
  | [], _ => ⟨[], [], rfl, .nil⟩
  | y :: ys, h => by
    obtain ⟨as', rs', e, p⟩ := pick_rows hl ys fun z hz => h z (List.mem_cons_of_mem _ hz)
    obtain ⟨r, hr, er⟩ := List.mem_map.mp (h y List.mem_cons_self)
    obtain ⟨i, hi, ei⟩ := List.mem_iff_getElem.mp hr
    refine ⟨as[i]'(by omega) :: as', r :: rs', by rw [List.map_cons, e, er], .cons ⟨i, List.getElem?_eq_getElem _, ?_⟩ p⟩
    rw [List.getElem?_eq_getElem hi, ei]
theorem Both.mem {as : List Addr} {rs : List Rw} {a : Addr} {r : Rw} (h : Both as rs a r) : r ∈ rs := let ⟨_, _, e⟩ := h; List.mem_of_getElem? e
theorem paired_mem {as as' : List Addr} {rs rs' : List Rw} (p : Paired (Both as rs) as' rs') {r : Rw} (h : r ∈ rs') : r ∈ rs := by
  induction p with
  | nil => simp at h
  | cons b _ ih =>
    rcases List.mem_cons.mp h with rfl | h
    · exact b.mem
    · exact ih h
theorem pick_mem {as as' : List Addr} {rs rs' : List Rw} {ys : List Str} (n : (rs.map (·.nm)).Nodup) (p : Paired (Both as rs) as' rs') (e : rs'.map (·.nm) = ys) (perm : ys.Perm (rs.map (·.nm))) (r : Rw) : r ∈ rs' ↔ r ∈ rs := by
  refine ⟨paired_mem p, fun h => ?_⟩
  have m : r.nm ∈ ys := perm.symm.subset (List.mem_map.mpr ⟨r, h, rfl⟩)
  rw [← e] at m
  obtain ⟨q, hq, eq⟩ := List.mem_map.mp m
  rw [← name_inj n (paired_mem p hq) h eq]
  exact hq
theorem asc_of_names {rs : List Rw} (h : (rs.map (·.nm)).Pairwise ltS) : Asc rs := by
  rw [List.pairwise_map] at h
  exact h
theorem paired_len' {α β : Type} {F : α → β → Prop} {xs : List α} {ys : List β} (h : Paired F xs ys) : xs.length = ys.length := paired_len h
theorem paired_take {α β : Type} {F : α → β → Prop} {xs : List α} {ys : List β} (h : Paired F xs ys) : ∀ n : Nat, (xs.take n).length = (ys.take n).length := fun n => by
  rw [List.length_take, List.length_take, paired_len h]
theorem items_put {F : Addr → Rw → Prop} {a : Addr} {r : Rw} (hf : F a r) : ∀ {as : List Addr} {rs : List Rw}, Paired F as rs → (rs.map (·.nm)).Nodup → Paired F (putA as rs a r.nm) (putR rs r)
  | _, _, .nil, _ => .cons hf .nil
  | b :: as, x :: rs, .cons h t, n => by
    rw [List.map_cons, List.nodup_cons] at n
    have i := items_put hf t n.2
    by_cases q : x.nm = r.nm
    · have e1 : putA (b :: as) (x :: rs) a r.nm = a :: as := if_pos q
      have nr : ∀ y ∈ rs, y.nm ≠ r.nm := fun y hy z => n.1 (q ▸ z ▸ List.mem_map.mpr ⟨y, hy, rfl⟩)
      have e2 : putR (x :: rs) r = r :: rs := by
        unfold putR
        rw [if_pos (by rw [List.map_cons, q]; exact List.mem_cons_self), List.map_cons, if_pos q]
        congr 1
        exact (List.map_congr_left (g := id) fun y hy => (if_neg (nr y hy) : (if y.nm = r.nm then r else y) = y)).trans (List.map_id rs)
      rw [e1, e2]
      exact .cons hf t
    · have e1 : putA (b :: as) (x :: rs) a r.nm = b :: putA as rs a r.nm := if_neg q
      have e2 : putR (x :: rs) r = x :: putR rs r := by
        unfold putR
        have m : r.nm ∈ (x :: rs).map (·.nm) ↔ r.nm ∈ rs.map (·.nm) := by
          rw [List.map_cons, List.mem_cons]
          exact ⟨fun z => z.elim (fun z => absurd z.symm q) id, .inr⟩
        by_cases hm : r.nm ∈ rs.map (·.nm)
        · rw [if_pos (m.mpr hm), if_pos hm, List.map_cons, if_neg q]
        · rw [if_neg (fun z => hm (m.mp z)), if_neg hm]
          rfl
      rw [e1, e2]
      exact .cons h i
/-- rows put in, one after the other -/
def putAll (rs qs : List Rw) : List Rw := qs.foldl putR rs
theorem putAll_nodup : ∀ {qs rs : List Rw}, (rs.map (·.nm)).Nodup → ((putAll rs qs).map (·.nm)).Nodup
  | [], _, h => h
  | q :: qs, rs, h => putAll_nodup (qs := qs) (putR_nodup h)
theorem putAll_len : ∀ {qs rs : List Rw}, (putAll rs qs).length ≤ rs.length + qs.length
  | [], _ => Nat.le_refl _
  | q :: qs, rs => by
    have h := putAll_len (qs := qs) (rs := putR rs q)
    have l := putR_len (rs := rs) (r := q)
    rw [List.length_cons]
    show (putAll (putR rs q) qs).length ≤ _
    omega
theorem putAll_snoc {rs qs : List Rw} {q : Rw} : putAll rs (qs ++ [q]) = putR (putAll rs qs) q := by
  unfold putAll
  rw [List.foldl_append]
  rfl
/-- of rows with different names: those put in, and the others that were there -/
theorem putAll_mem : ∀ {qs rs : List Rw} {x : Rw}, (qs.map (·.nm)).Nodup → (x ∈ putAll rs qs ↔ x ∈ qs ∨ (x ∈ rs ∧ x.nm ∉ qs.map (·.nm)))
  | [], rs, x, _ => by simp [putAll]
  | q :: qs, rs, x, n => by
    rw [List.map_cons, List.nodup_cons] at n
    have h := putAll_mem (qs := qs) (rs := putR rs q) (x := x) n.2
    show x ∈ putAll (putR rs q) qs ↔ _
    rw [h, putR_mem, List.mem_cons, List.map_cons, List.mem_cons, not_or]
    constructor
    · rintro (a | ⟨rfl | ⟨a, b⟩, c⟩)
      · exact .inl (.inr a)
      · exact .inl (.inl rfl)
      · exact .inr ⟨a, b, c⟩
    · rintro ((rfl | a) | ⟨a, b, c⟩)
      · exact .inr ⟨.inl rfl, n.1⟩
      · exact .inl a
      · exact .inr ⟨.inr ⟨a, b⟩, c⟩
theorem putAll_in : ∀ {qs rs : List Rw}, (∀ q ∈ qs, q.nm ∈ rs.map (·.nm)) → (putAll rs qs).length = rs.length
  | [], _, _ => rfl
  | q :: qs, rs, h => by
    have e : (putR rs q).map (·.nm) = rs.map (·.nm) := by rw [putR_names, if_pos (h q List.mem_cons_self)]
    have i := putAll_in (qs := qs) (rs := putR rs q) fun p hp => by rw [e]; exact h p (List.mem_cons_of_mem _ hp)
    show (putAll (putR rs q) qs).length = _
    rw [i, ← List.length_map (f := (·.nm)), e, List.length_map]
/-- a row behind the values that are told -/
def tellR (kn : List (Str × Int)) (r : Rw) : Rw := match kn.lookup r.nm with
  | some v => ⟨r.nm, v, v, 0⟩
  | none => r
theorem tellR_nm (kn : List (Str × Int)) (r : Rw) : (tellR kn r).nm = r.nm := by
  unfold tellR
  cases kn.lookup r.nm <;> rfl
theorem tellR_names (kn : List (Str × Int)) (rs : List Rw) : (rs.map (tellR kn)).map (·.nm) = rs.map (·.nm) := by
  rw [List.map_map]
  exact List.map_congr_left fun r _ => tellR_nm kn r
theorem tellR_asc {kn : List (Str × Int)} {rs : List Rw} (h : Asc rs) : Asc (rs.map (tellR kn)) := by
  unfold Asc ltR at *
  rw [List.pairwise_map]
  exact h.imp fun {a b} q => by rw [tellR_nm, tellR_nm]; exact q
theorem lookup_mem : ∀ {kn : List (Str × Int)} {n : Str} {v : Int}, kn.lookup n = some v → (n, v) ∈ kn
  | (m, w) :: kn, n, v, h => by
    rw [List.lookup_cons] at h
    by_cases e : n = m
    · subst e
      rw [beq_self_eq_true] at h
      cases h
      exact List.mem_cons_self
    · rw [beq_false_of_ne e] at h
      exact List.mem_cons_of_mem _ (lookup_mem h)
theorem lookup_of_mem : ∀ {kn : List (Str × Int)} {n : Str} {v : Int}, (kn.map (·.1)).Nodup → (n, v) ∈ kn → kn.lookup n = some v
  | (m, w) :: kn, n, v, nd, h => by
    rw [List.map_cons, List.nodup_cons] at nd
    rw [List.lookup_cons]
    rcases List.mem_cons.mp h with e | h
    · cases e
      rw [beq_self_eq_true]
    · have e : n ≠ m := fun e => nd.1 (e ▸ List.mem_map.mpr ⟨(n, v), h, rfl⟩)
      rw [beq_false_of_ne e]
      exact lookup_of_mem nd.2 h
theorem lookup_none : ∀ {kn : List (Str × Int)} {n : Str}, n ∉ kn.map (·.1) → kn.lookup n = none
  | [], _, _ => rfl
  | (m, w) :: kn, n, h => by
    rw [List.map_cons, List.mem_cons, not_or] at h
    rw [List.lookup_cons, beq_false_of_ne h.1]
    exact lookup_none h.2
/-- what with_items makes of the told rows -/
theorem told_mem {kn : List (Str × Int)} {rs qs : List Rw} (nr : (rs.map (·.nm)).Nodup) (nk : (kn.map (·.1)).Nodup) (inn : ∀ p ∈ kn, p.1 ∈ rs.map (·.nm)) (hq : ∀ q, q ∈ qs ↔ ∃ p ∈ kn, q = ⟨p.1, p.2, p.2, 0⟩) (nq : (qs.map (·.nm)).Nodup) (r : Rw) :
    r ∈ putAll rs qs ↔ r ∈ rs.map (tellR kn) := by
  have names : ∀ n, n ∈ qs.map (·.nm) ↔ n ∈ kn.map (·.1) := fun n => by
    constructor
    · intro h
      obtain ⟨q, h1, h2⟩ := List.mem_map.mp h
      obtain ⟨p, h3, h4⟩ := (hq q).mp h1
      exact List.mem_map.mpr ⟨p, h3, by rw [← h2, h4]⟩
    · intro h
      obtain ⟨p, h1, h2⟩ := List.mem_map.mp h
      exact List.mem_map.mpr ⟨_, (hq _).mpr ⟨p, h1, rfl⟩, h2⟩
  refine (putAll_mem nq).trans (Iff.trans ?_ List.mem_map.symm)
  constructor
  · rintro (h | ⟨h1, h2⟩)
    · obtain ⟨⟨n, v⟩, h1, rfl⟩ := (hq r).mp h
      obtain ⟨x, hx, ex⟩ := List.mem_map.mp (inn _ h1)
      refine ⟨x, hx, ?_⟩
      unfold tellR
      rw [show x.nm = n from ex, lookup_of_mem nk h1]
    · refine ⟨r, h1, ?_⟩
      unfold tellR
      rw [lookup_none (fun z => h2 ((names _).mpr z))]
  · rintro ⟨x, hx, rfl⟩
    unfold tellR
    cases e : kn.lookup x.nm with
    | some v => exact .inl ((hq _).mpr ⟨(x.nm, v), lookup_mem e, rfl⟩)
    | none =>
      refine .inr ⟨hx, fun z => ?_⟩
      obtain ⟨p, hp, ep⟩ := List.mem_map.mp ((names _).mp z)
      have := lookup_of_mem (n := x.nm) (v := p.2) nk (by rw [← ep]; exact hp)
      rw [e] at this
      cases this
theorem paired_snoc {α β : Type} {F : α → β → Prop} {x : α} {y : β} : ∀ {xs : List α} {ys : List β}, Paired F xs ys → F x y → Paired F (xs ++ [x]) (ys ++ [y])
  | _, _, .nil, h => .cons h .nil
  | _, _, .cons a r, h => .cons a (paired_snoc r h)
end Ask

set_option Elab.async false
set_option linter.all false
set_option maxRecDepth 100000
set_option maxHeartbeats 3200000
/-! len(set(xs)), xs a list of texts, no two alike -/
namespace Ask
open PySem PySem.Spec L2 SS
open PyProof.Rows
/-- the texts so far, as a set tells them -/
def inL (l : List Str) (k : Str) : Bool := l.any (· == k)
theorem inL_snoc (l : List Str) (x k : Str) : inL (l ++ [x]) k = (inL l k || decide (k = x)) := by
  unfold inL
  rw [List.any_append]
  congr 1
  by_cases e : k = x
  · rw [e, decide_eq_true rfl]
    simp
  · rw [decide_eq_false e]
    simp
    exact fun z => e z.symm
theorem inL_no {l : List Str} {x : Str} (h : x ∉ l) : inL l x = false := by
  cases e : inL l x with
  | false => rfl
  | true =>
    obtain ⟨y, hy, ey⟩ := List.any_eq_true.mp e
    exact absurd (eq_of_beq ey ▸ hy) h
section
variable {prog : Program} {w : World} {A : Around} {R : Result → Shared → Prop} {I : Addr} {fp wr : List Addr} {G : Array GenState → Array GenState → Prop} {n : Nat} {P : Nat → Value → Prop} {St : Nat → Shared → Prop}
theorem addLoop (W : WalksS prog w A.in1 I fp wr G n P St) (S : Addr) (nS : S ∉ fp) (xs : List Str) (ln : xs.length = n) (nd : xs.Nodup) (room : n + 1 < scanBound) (is : ∀ i v, P i v → ∃ x t, xs[i]? = some x ∧ v = .str x t) :
    ∀ (rest : List Str) (i : Nat) (s : Shared), xs = xs.take i ++ rest → i + rest.length = n → St i s → s.heap.SetOf (strKind prog w) S (inL (xs.take i)) i →
      (∀ s', Moved (S :: wr) G s s' → s'.heap.SetOf (strKind prog w) S (inL xs) n → R (.ok (.ret .none)) s') → codeAny (model prog w) A (.builtin "set.update.loop" ⟨[.ref S, .ref I], []⟩) R s := by
  have nSw : S ∉ wr := fun z => nS (W.sub _ z)
  have wide : ∀ b ∈ wr, b ∈ S :: wr := fun b z => List.mem_cons_of_mem _ z
  have stay : ∀ {s s' : Shared} {T : Str → Bool} {m : Nat}, Moved wr G s s' → s.heap.SetOf (strKind prog w) S T m → s'.heap.SetOf (strKind prog w) S T m := by
    rintro s s' T m mv ⟨o, es, ep, t, ho, r⟩
    exact ⟨o, es, ep, t, mv.heap S _ nSw ho, r⟩
  intro rest
  induction rest with
  | nil =>
    intro i s ex li st so k
    obtain rfl : i = n := by simpa using li
    rw [List.append_nil] at ex
    rw [← ex] at so
    refine codeAny_builtin F.entry_set_update_loop ?_
    rw [Around.under_plainId F.plain_set_update_loop _]
    exact wpAny_bind (W.done s _ _ st fun s' mv => wpAny_pure (k s' (mv.mono wide) (stay mv so)))
  | cons x rest ih =>
    intro i s ex li st so k
    have ex0 := ex
    have lt : i < n := by
      rw [List.length_cons] at li
      omega
    have lt2 : (xs.take i).length = i := by
      rw [List.length_take]
      omega
    have atx : xs[i]? = some x := by
      rw [ex, List.getElem?_append_right (by omega), lt2, Nat.sub_self]
      rfl
    have tk : xs.take (i + 1) = xs.take i ++ [x] := take_snoc atx
    have new : x ∉ xs.take i := by
      rw [ex, List.nodup_append] at nd
      exact fun z => nd.2.2 x z x List.mem_cons_self rfl
    refine codeAny_builtin F.entry_set_update_loop ?_
    rw [Around.under_plainId F.plain_set_update_loop _]
    refine wpAny_bind (W.item i s _ _ lt st fun v s1 hP st1 mv => ?_)
    obtain ⟨y, t, ey, rfl⟩ := is i v hP
    obtain rfl : x = y := Option.some.inj (atx.symm.trans ey)
    have so1 := stay mv so
    refine wpAny_bind (wpAny_holding ?_)
    unfold setAdd
    refine wpAny_holding (wpAny_bind ((strKind prog w).pyHash (k := x) (strKind_is _ _ _ _) ?_))
    refine wpAny_setAddHashed_of (knd := strKind prog w) (s := { s1 with toks := s1.toks + 1 }) (strKind_is _ _ _ _) rfl so1 (by omega) fun h2 sb so2 => ?_
    have so3 : h2.SetOf (strKind prog w) S (inL (xs.take (i + 1))) (i + 1) :=
      SetOf_congr so2 (fun j => by rw [tk, inL_snoc]) (by rw [inL_no new]; rfl)
    refine wpAny_pure ⟨plainId_quiet F.plain_set_update_loop _, ih (i + 1) _ ?_ ?_ (W.frame _ s1 _ _ st1 (Nat.le_succ _) fun b hb o e => ?_) so3 fun s3 mv3 so4 => ?_⟩
    · rw [tk, List.append_assoc]
      exact ex0
    · rw [List.length_cons] at li
      omega
    · rw [sb.2 b fun z => nS (z ▸ hb)]
      exact e
    · refine k s3 (Moved.trans W.gtrans ((mv.mono wide).then_heap (Nat.le_succ _) fun b o hb e => ?_) mv3) so4
      rw [sb.2 b fun z => hb (z ▸ List.mem_cons_self)]
      exact e
end
section
variable {prog : Program} {w : World} {A : Around} {E : Value → Shared → Prop} {s : Shared}
abbrev freshSet (led : Bool) : Obj := { cls := .type "set", dict := none, data := .set #[] 0 (.fresh 0 0 led) }
/-- what set(l) leaves -/
def SetLeft (prog : Program) (w : World) (s : Shared) (xs : List Str) (s2 : Shared) : Prop := ∃ h' tk, s2 = { s with heap := h', toks := tk } ∧
  h'.SetOf (strKind prog w) s.heap.objs.size (inL xs) xs.length ∧ ∀ b o, b < s.heap.objs.size → s.heap.get? b = some o → h'.get? b = some o
theorem set_body {l : Addr} {items : Array Value} {xs : List Str} {led : Bool} {R : Result → Shared → Prop} (hh : A.handled = none) (hl : s.heap.IsList l items) (hi : StrsAre items.toList xs) (nd : xs.Nodup) (room : xs.length + 1 < scanBound)
    (hR : ∀ s2, SetLeft prog w s xs s2 → R (.ok (.ret .none)) s2) :
    codeAny (model prog w) A (.builtin "set.__init__" ⟨[.ref s.heap.objs.size, .ref l], []⟩) R { s with heap := s.heap.push (freshSet led) } := by
  have at0 : (s.heap.push (freshSet led)).get? s.heap.objs.size = some (freshSet led) := Heap.get?_push_size _ rfl
  have ty0 : Shared.TypeIs { s with heap := s.heap.push (freshSet led) } (.ref s.heap.objs.size) "set" := ⟨_, at0, rfl⟩
  have ll : l < s.heap.objs.size := let ⟨_, e, _⟩ := hl; Heap.lt_size e
  have l1 : (s.heap.push (freshSet led)).IsList l items := hl.push _
  obtain ⟨⟨lc, ldd, ldt, lsl⟩, e1, c1, nl, d1⟩ := id l1
  dsimp only at c1 d1
  subst c1 d1
  have n1 := PySem.F.sub_list_set; have n2 := PySem.F.sub_list_frozenset; have n3 : (Value.type "list" == Value.type "dict") = false := by decide
  refine codeAny_builtin PySem.F.entry_set_init ?_
  rw [Around.under_plainId PySem.F.called_set.init.plain _]
  unfold Builtin.«set.__init__» noKeywords Builtin.Frozenset.updateFrom
  generalize walksOff : pyIter = itr
  wp_walk
  subst walksOff
  refine wpAny_pyIter_list l1 (wpAny_bind (wpAny_runValue ?_))
  have sz : (s.heap.push (freshSet led)).objs.size = s.heap.objs.size + 1 := Heap.size_push _ _
  have lx : xs.length = items.size := (StrsAre.len_eq hi).symm.trans Array.length_toList
  have apart : l ≠ (s.heap.push (freshSet led)).objs.size := Nat.ne_of_lt (Nat.lt_of_lt_of_eq (Nat.lt_succ_of_lt ll) sz.symm)
  have out : s.heap.objs.size ∉ [(s.heap.push (freshSet led)).objs.size, l] := by
    simp only [List.mem_cons, List.not_mem_nil, or_false, not_or]
    exact ⟨Nat.ne_of_lt (Nat.lt_of_lt_of_eq (Nat.lt_succ_self _) sz.symm), Nat.ne_of_gt ll⟩
  refine addLoop ((Walks.list (by simp [hh]) _ l apart items).toS) s.heap.objs.size out xs lx nd (by omega) (fun i v hv => ?_) xs 0 _ rfl (by omega) ⟨⟨_, Heap.get?_push_size _ rfl, rfl, rfl⟩, l1.push _⟩ ?_ fun s' mv so => ?_
  · obtain ⟨t, e⟩ := strs_at hi i v (by rw [Array.getElem?_toList]; exact hv)
    have lt : i < xs.length := by rw [lx]; exact (Array.getElem?_eq_some_iff.mp hv).1
    refine ⟨xs[i], t, List.getElem?_eq_getElem lt, ?_⟩
    rw [e, List.getD_eq_getElem?_getD, List.getElem?_eq_getElem lt]
    rfl
  · exact SetOf_congr ((setObjOf_fresh (knd := strKind prog w) led).setOf (Heap.get?_push_of_some _ at0) (by unfold scanBound; omega)) (fun _ => rfl) rfl
  · obtain ⟨h', g', d', tk', os'⟩ := s'
    have eg : g' = s.gens := mv.gens; have ed : d' = s.drawn := mv.drawn; have eo : os' = s.os := mv.os
    subst eg ed eo
    refine wpAny_pure (wpAny_pure (hR _ ⟨h', tk', rfl, by rw [lx]; exact so, fun b o hb e => ?_⟩))
    refine mv.heap b o ?_ (Heap.get?_push_of_some _ (Heap.get?_push_of_some _ e))
    simp only [List.mem_cons, List.not_mem_nil, or_false, not_or]
    exact ⟨Nat.ne_of_lt hb, Nat.ne_of_lt (Nat.lt_of_lt_of_eq (Nat.lt_succ_of_lt hb) sz.symm)⟩
/-- set(l) -/
theorem call_set_texts {l : Addr} {items : Array Value} {xs : List Str} {Q : Value → Shared → Prop} (hh : A.handled = none) (hl : s.heap.IsList l items) (hi : StrsAre items.toList xs) (nd : xs.Nodup) (room : xs.length + 1 < scanBound)
    (h : ∀ s2, SetLeft prog w s xs s2 → Q (.ref s.heap.objs.size) s2) : wpAny (model prog w) A (call (.type "set") [.ref l]) Q E s := by
  have CS := PySem.F.called_set
  obtain ⟨c0, t0, mro⟩ := CS.mro
  have a1 := CS.made; have a2 := CS.sub; have a3 := CS.notType; have a4 := CS.canCreate
  have a5 := PySem.F.typeCall_set_1 (.ref l)
  refine wpAny_call (codeAny_of_tree ?_)
  show wpAny _ _ (callAny (.type "set") _) _ _ _; refine wpAny_pure ⟨Code.quiet_builtin _ (by decide +kernel), codeAny_builtin PySem.F.entry_type_call ?_⟩
  rw [Around.under_plain (weight_type_call_type "set" [.ref l] []) rfl]
  repeat (any_goals (first | assumption | wp_step))
  refine codeAny_mono (code_set_new_1 (.ref l) (E := E) (Q₁ := fun obj s₁ => ∃ led : Bool, obj = .ref s.heap.objs.size ∧ s₁ = { s with heap := s.heap.push (freshSet led) }) fun led => ⟨led, rfl, rfl⟩) fun r s₁ hr => ?_
  rcases r with e | (_ | _ | _ | obj)
  · exact hr
  · exact hr.elim
  · exact hr.elim
  · exact hr.elim
  · obtain ⟨led, eo, es⟩ := hr
    subst eo es
    have ty0 : Shared.TypeIs { s with heap := s.heap.push (freshSet led) } (.ref s.heap.objs.size) "set" := ⟨_, Heap.get?_push_size _ rfl, rfl⟩
    have b1 := CS.init.lookup; have b2 := CS.init.bind (.ref s.heap.objs.size)
    repeat (any_goals (first | assumption | wp_step))
    refine codeAny_call_builtin_code (plainId_quiet CS.init.plain _) (check_set_init_1 ty0 (set_body (by simp [hh]) hl hi nd room fun s2 left => ?_))
    repeat (any_goals (first | assumption | wp_step))
    exact h s2 left
end
end Ask

set_option Elab.async false
set_option linter.all false
set_option maxRecDepth 100000
set_option maxHeartbeats 2000000
namespace Ask
open PySem PySem.Spec L2
open PyProof.Rows
theorem texts_of : ∀ {xs : List Str} {us : List Value}, Vals (xs.map V.str) us → StrsAre us xs
  | [], _, .nil => .nil
  | x :: xs, _, .cons ⟨k, e⟩ t => by
    subst e
    exact .cons x k (texts_of t)
/-- len(set(e)), e a list of texts of which no two are alike -/
def tLenSetS (K : PySem.W.Frag) (ta : TE) : TE := fun σ H Q => ta σ H fun x H1 => ∃ (l : Addr) (xs : List Str), x = .ref l ∧ SqL K H1 l (xs.map V.str) ∧ xs.Nodup ∧ xs.length ≤ 4000 ∧ Q (.int (xs.length : Nat)) H1
theorem pe_lenSetS {X : Cx} {a : Expr} {ta : TE} {p p2 q pos : Pos} (hg : Gl X "len") (hm : X.mg "len" = none) (hg2 : Gl X "set") (hm2 : X.mg "set" = none) (ha : PE X a ta) (hc : X.calm = true := by rfl)
    (na : starEach [a] X.env = (false, eval a X.env) :: starEach [] X.env := by rfl) : PE X (.Call (.Name "len" p) [.Call (.Name "set" p2) [a] [] q] [] pos) (tLenSetS X.K ta) := by
  refine ⟨fun pins s σ H Q I h => Call_ (ld_blt I hg hm PySem.boot_len (PyProof.Rows.callWith_builtin1 (PyProof.Rows.args_cons ?_ rfl) rfl rfl))⟩
  refine Call_ (ld_blt I hg2 hm2 PyProof.Rows.boot_set (PyProof.Rows.callWith_type1 (PyProof.Rows.args_cons (thn (ha.run pins s σ H _ I h) ?_) na) na rfl))
  rintro v s1 ⟨x, H1, I1, r1, l, xs, rfl, hl, nd, few, k⟩
  cases r1
  refine PyProof.Rows.args_nil ?_
  obtain ⟨its, rv, pl, _⟩ := I1.list hl
  refine call_set_texts (I1.ok.hd hc) pl.isList (xs := xs) (by simpa using texts_of rv) nd (by unfold scanBound; omega) ?_
  rintro s2 ⟨h', tk, rfl, ⟨o, es, ep, t, ho, hex, hd, _, _, _, hf, hn⟩, hk⟩
  have I2 : Inv X pins σ H1 { s1 with heap := h', toks := tk } := I1.kept fun b o e => hk b o (Heap.lt_size e) e
  exact PyProof.Rows.args_nil (call_len_set ho hex hd hf (by rw [hn]; omega) ⟨.int xs.length, H1, I2.tok _, ⟨_, by rw [hn]⟩, k⟩)
theorem op_in_seqK {X : Cx} {K : PySem.W.Frag} (h : X.K = K) : OpR X (compareOp .In) (rIn K false) := h ▸ op_in_seq
theorem inV_mem {x : Str} {ns : List Str} (h : x ∈ ns) : inV (.str x) (ns.map V.str) = true := by
  unfold inV
  rw [List.any_map]
  exact List.any_eq_true.mpr ⟨x, h, by show eqV (.str x) (.str x) = true; simp [eqV]⟩
theorem inV_not {x : Str} {ns : List Str} (h : x ∉ ns) : inV (.str x) (ns.map V.str) = false := by
  cases e : inV (.str x) (ns.map V.str) with
  | false => rfl
  | true =>
    unfold inV at e
    rw [List.any_map] at e
    obtain ⟨y, hy, ey⟩ := List.any_eq_true.mp e
    have z : eqV (.str y) (.str x) = true := ey
    simp [eqV] at z
    exact absurd (z ▸ hy) h
theorem call_len_seqK {X : Cx} {K : PySem.W.Frag} (h : X.K = K) : CallR X (.builtin "len") (fun xs H Q => ∃ p ys, xs = [.ref p] ∧ (SqL K H p ys ∨ SqT K H p ys) ∧ Q (.int ys.length) H) := h ▸ call_len_seq
theorem pe_bmK {X : Cx} {K : PySem.W.Frag} (h : X.K = K) {e : Expr} {T : String} {r : V → List V → Hp → VK → Prop} {to : TE} {t : TA} (p : PE X e (tBM X.K T r to t)) : PE X e (tBM K T r to t) := h ▸ p
end Ask

set_option Elab.async false
set_option linter.all false
set_option maxRecDepth 100000
set_option maxHeartbeats 4000000
namespace Ask
open PySem L2
open PyProof.Rows
/-! comprehensions whose elements only make new objects; what is walked may be a list or a tuple -/
def SqB (K : PySem.W.Frag) (b : Bool) (H : Hp) (a : Addr) (xs : List V) : Prop := if b = true then SqL K H a xs else SqT K H a xs
def ItB (K : PySem.W.Frag) (b : Bool) (a : Addr) : It := if b = true then Itl K a else Itt K a
def iSeq (K : PySem.W.Frag) (tl : TE) : TI := fun σ H R => iList K tl σ H R ∨ iTup K tl σ H R
theorem pi_seq {X : Cx} {tg l : Expr} {tl : TE} (hl : PE X l tl) : PI X tg l (iSeq X.K tl) :=
  ⟨fun pins s σ H R I h => h.elim (fun z => (pi_list hl).run pins s σ H R I z) (fun z => (pi_tup hl).run pins s σ H R I z)⟩
theorem walk_seq {K : PySem.W.Frag} {b : Bool} {a : Addr} {xs : List V} : Walk (ItB K b a) xs.length (fun H => SqB K b H a xs) (YAt xs) := by
  cases b
  · exact walk_tup
  · exact walk_list
/-- a pure expression is walked: a list or a tuple -/
theorem seq_it {K : PySem.W.Frag} {tl : TE} {σ : L2.St} {H : Hp} {R : It → Hp → Prop} (h : ∃ (b : Bool), ∀ Q : VK, (∀ x H1, (∃ a xs, x = V.ref a ∧ SqB K b H1 a xs ∧ R (ItB K b a) H1) → Q x H1) → tl σ H Q) : iSeq K tl σ H R := by
  obtain ⟨b, h⟩ := h
  cases b
  · exact .inr (h _ fun x H1 ⟨a, xs, e, q, r⟩ => ⟨a, e, ⟨xs, q⟩, r⟩)
  · exact .inl (h _ fun x H1 ⟨a, xs, e, q, r⟩ => ⟨a, e, ⟨xs, q⟩, r⟩)
/-- what stood stands, but at two places -/
def Two (p q : Addr) (H H' : Hp) : Prop := ∀ b o, b ≠ p → b ≠ q → H b = some o → H' b = some o
theorem But.two {p q : Addr} {H H' : Hp} (h : But p H H') : Two p q H H' := fun b o hp _ e => h b o hp e
theorem But.two' {p q : Addr} {H H' : Hp} (h : But q H H') : Two p q H H' := fun b o _ hq e => h b o hq e
theorem snoc_filter {δ : Type} {ds : List δ} {i : Nat} {d : δ} (keep : δ → Bool) (h : ds[i]? = some d) : (ds.take (i + 1)).filter keep = (ds.take i).filter keep ++ (if keep d = true then [d] else []) := by
  rw [List.take_add_one, h, List.filter_append]
  congr 1
  show List.filter keep [d] = _
  cases e : keep d with
  | true => rw [List.filter_cons_of_pos e, if_pos rfl]; rfl
  | false => rw [List.filter_cons_of_neg (by rw [e]; decide), if_neg (by decide)]; rfl
/-- [elt for x in .. if ..]: each turn only makes new objects -/
theorem lc_pure {J : It} {n : Nat} {G : Hp → Prop} {Y : Nat → Hp → V → Hp → Prop} (w : Walk J n G Y) {δ : Type} (ds : List δ) (keep : δ → Bool) (R : δ → V → Hp → Prop)
    {g : TG} {tt : TT} {te : TE} {vs : List Nat} {σ : L2.St} {H1 : Hp} {D : Addr} {Qd : Hp → Prop} (hn : ds.length = n) (hD : H1 D = none) (hG : ∀ H', Same H1 H' → G H') (hY : ∀ i H x H', Y i H x H' → Same H H' ∧ (∀ o, H D = some o → H' D = some o)) (sz : n < sizeLine)
    (stab : ∀ d y Ha Hb, R d y Ha → (∃ acc, Ha D = some (.lst acc)) → But D Ha Hb → R d y Hb)
    (hs : ∀ (N : Hp → Prop) i x d H H', ds[i]? = some d → Same H1 H → (∃ acc, H D = some (.lst acc)) → Y i H x H' → (∃ acc, H' D = some (.lst acc)) → Same H1 H' →
      (fin : keep d = true → ∀ y H4, Same H' H4 → R d y H4 → ∃ acc, H4 D = some (.lst acc) ∧ acc.length < sizeLine ∧ N (upd H4 D (.lst (acc ++ [y])))) →
      (skip : keep d = false → ∀ H3, Same H' H3 → N H3) →
      g x (wipe σ vs) H' fun σ2 H2 => wipe σ2 vs = wipe σ vs ∧ tt σ2 H2 fun b H3 => if b = true then te σ2 H3 fun y H4 => ∃ acc, H4 D = some (.lst acc) ∧ acc.length < sizeLine ∧ N (upd H4 D (.lst (acc ++ [y]))) else N H3)
    (hd : ∀ ys H', Same H1 H' → H' D = some (.lst ys) → Paired (fun d y => R d y H') (ds.filter keep) ys → Qd H') :
    ∃ W : Nat → Nat → Hp → Prop, (∃ m, W 0 m (upd H1 D (.lst []))) ∧ ∀ i m H, W i m H →
      (J.stop i H ∧ Qd H) ∨ (J.go i H ∧ ∃ Nx : Hp → Prop, (∀ H', Nx H' → ∃ m', m' < m ∧ W (i + 1) m' H') ∧ ∀ x H', J.yld i H x H' → g x (wipe σ vs) H' fun σ2 H2 => wipe σ2 vs = wipe σ vs ∧ tt σ2 H2 fun b H3 =>
        if b = true then te σ2 H3 fun y H4 => ∃ acc, H4 D = some (.lst acc) ∧ acc.length < sizeLine ∧ Nx (upd H4 D (.lst (acc ++ [y]))) else Nx H3) := by
  refine lc_it w (fun i H => ∃ ys, Same H1 H ∧ H D = some (.lst ys) ∧ Paired (fun d y => R d y H) ((ds.take i).filter keep) ys) ?_ ?_ ?_ ?_
  · exact ⟨[], Same.new hD, upd_same, .nil⟩
  · rintro i H _ ⟨ys, s, _, _⟩
    exact hG H s
  · rintro i x H H' hi ⟨ys, s, eD, pr⟩ y
    have il : i < ds.length := by omega
    have ed : ds[i]? = some ds[i] := List.getElem?_eq_getElem il
    obtain ⟨sY, dY⟩ := hY _ _ _ _ y
    have tk := snoc_filter keep ed
    have yl : ys.length ≤ i := by
      rw [← paired_len pr]
      exact Nat.le_trans (List.length_filter_le _ _) (by rw [List.length_take]; omega)
    refine hs _ i x ds[i] H H' ed s ⟨_, eD⟩ y ⟨_, dY _ eD⟩ (s.trans sY) ?_ ?_
    · intro k v H4 s4 r
      have e4 := s4 _ _ (dY _ eD)
      refine ⟨ys, e4, by omega, ys ++ [v], ?_, upd_same, ?_⟩
      · exact fun b o h => by
          rw [upd_ne (ne_of_none h hD)]
          exact s4 _ _ (sY _ _ (s _ _ h))
      · rw [tk, if_pos k]
        refine paired_snoc (paired_imp (fun d y z => stab d y H4 _ (stab d y H H4 z ⟨_, eD⟩ fun b o _ h => s4 _ _ (sY _ _ h)) ⟨_, e4⟩ But.upd) pr) (stab _ _ H4 _ r ⟨_, e4⟩ But.upd)
    · intro k H3 s3
      refine ⟨ys, (s.trans sY).trans s3, s3 _ _ (dY _ eD), ?_⟩
      rw [tk, if_neg (by rw [k]; decide), List.append_nil]
      exact paired_imp (fun d y z => stab d y H H3 z ⟨_, eD⟩ fun b o _ h => s3 _ _ (sY _ _ h)) pr
  · rintro H ⟨ys, s, eD, pr⟩
    rw [List.take_of_length_le (by omega)] at pr
    exact hd ys H s eD pr
/-- the same where each turn may draw from the pen at p (Pn i: the pen's word ahead of turn i) -/
theorem lc_draw {J : It} {n : Nat} {G : Hp → Prop} {Y : Nat → Hp → V → Hp → Prop} (w : Walk J n G Y) {δ : Type} (ds : List δ) (Pn : Nat → Hp → Prop) {p : Addr} (R : δ → V → Hp → Prop)
    {g : TG} {tt : TT} {te : TE} {vs : List Nat} {σ : L2.St} {H1 : Hp} {D : Addr} {Qd : Hp → Prop} (hn : ds.length = n) (hD : H1 D = none) (hp : D ≠ p) (hG : ∀ H', But p H1 H' → G H') (hY : ∀ i H x H', Y i H x H' → H' = H) (sz : n < sizeLine)
    (h0 : Pn 0 H1) (hP : ∀ i H o, Pn i H → Pn i (upd H D o))
    (stab : ∀ d y Ha Hb, R d y Ha → (∃ acc, Ha D = some (.lst acc)) → Two p D Ha Hb → R d y Hb)
    (hs : ∀ (N : Hp → Prop) i x d H, ds[i]? = some d → But p H1 H → Pn i H → (∃ acc, H D = some (.lst acc)) → Y i H x H →
      (fin : ∀ y H4, But p H H4 → Pn (i + 1) H4 → R d y H4 → ∃ acc, H4 D = some (.lst acc) ∧ acc.length < sizeLine ∧ N (upd H4 D (.lst (acc ++ [y])))) →
      g x (wipe σ vs) H fun σ2 H2 => wipe σ2 vs = wipe σ vs ∧ tt σ2 H2 fun b H3 => if b = true then te σ2 H3 fun y H4 => ∃ acc, H4 D = some (.lst acc) ∧ acc.length < sizeLine ∧ N (upd H4 D (.lst (acc ++ [y]))) else N H3)
    (hd : ∀ ys H', But p H1 H' → Pn n H' → H' D = some (.lst ys) → Paired (fun d y => R d y H') ds ys → Qd H') :
    ∃ W : Nat → Nat → Hp → Prop, (∃ m, W 0 m (upd H1 D (.lst []))) ∧ ∀ i m H, W i m H →
      (J.stop i H ∧ Qd H) ∨ (J.go i H ∧ ∃ Nx : Hp → Prop, (∀ H', Nx H' → ∃ m', m' < m ∧ W (i + 1) m' H') ∧ ∀ x H', J.yld i H x H' → g x (wipe σ vs) H' fun σ2 H2 => wipe σ2 vs = wipe σ vs ∧ tt σ2 H2 fun b H3 =>
        if b = true then te σ2 H3 fun y H4 => ∃ acc, H4 D = some (.lst acc) ∧ acc.length < sizeLine ∧ Nx (upd H4 D (.lst (acc ++ [y]))) else Nx H3) := by
  refine lc_it w (fun i H => ∃ ys, But p H1 H ∧ Pn i H ∧ H D = some (.lst ys) ∧ Paired (fun d y => R d y H) (ds.take i) ys) ?_ ?_ ?_ ?_
  · exact ⟨[], But.new hD, hP _ _ _ h0, upd_same, .nil⟩
  · rintro i H _ ⟨ys, s, _⟩
    exact hG H s
  · rintro i x H H' hi ⟨ys, s, pn, eD, pr⟩ y
    obtain rfl := hY _ _ _ _ y
    have il : i < ds.length := by omega
    have ed : ds[i]? = some ds[i] := List.getElem?_eq_getElem il
    have yl : ys.length ≤ i := by
      rw [← paired_len pr, List.length_take]
      omega
    refine hs _ i x ds[i] H' ed s pn ⟨_, eD⟩ y ?_
    intro v H4 s4 p4 r
    have e4 := s4 _ _ hp eD
    refine ⟨ys, e4, by omega, ys ++ [v], ?_, hP _ _ _ p4, upd_same, ?_⟩
    · exact fun b o hb h => by
        rw [upd_ne (ne_of_none h hD)]
        exact s4 _ _ hb (s _ _ hb h)
    · rw [List.take_add_one, ed]
      refine paired_snoc (paired_imp (fun d y z => stab d y H4 _ (stab d y H' H4 z ⟨_, eD⟩ s4.two) ⟨_, e4⟩ But.upd.two') pr) (stab _ _ H4 _ r ⟨_, e4⟩ But.upd.two')
  · rintro H ⟨ys, s, pn, eD, pr⟩
    rw [List.take_of_length_le (by omega)] at pr
    exact hd ys H s pn eD pr
theorem paired_vals {δ : Type} (f : δ → V) {H : Hp} : ∀ {ds : List δ} {ys : List V}, Paired (fun d v => v = f d) ds ys → ys = ds.map f
  | _, _, .nil => rfl
  | _, _, .cons h t => by
    rw [List.map_cons, ← paired_vals f (H := H) t, ← h]
theorem zip_at {β : Type} {F : Addr → β → Prop} : ∀ {ts : List Addr} {rs : List β} {i : Nat} {d : Addr × β}, Paired F ts rs → (ts.zip rs)[i]? = some d → (ts.map V.ref)[i]? = some (.ref d.1) ∧ F d.1 d.2 ∧ rs[i]? = some d.2
  | _, _, 0, d, .cons a _, e => by
    cases e
    exact ⟨rfl, a, rfl⟩
  | _, _, i + 1, d, .cons _ t, e => zip_at (i := i) t e
theorem zip_snd {β : Type} {F : Addr → β → Prop} {ts : List Addr} {rs : List β} (p : Paired F ts rs) : (ts.zip rs).map (·.2) = rs := by
  rw [List.map_snd_zip]
  exact Nat.le_of_eq (paired_len p).symm
theorem paired_refs {δ β : Type} {F : Addr → β → Prop} {g : δ → β} : ∀ {ds : List δ} {ys : List V}, Paired (fun d v => ∃ t, v = V.ref t ∧ F t (g d)) ds ys → ∃ us : List Addr, ys = us.map V.ref ∧ Paired F us (ds.map g)
  | _, _, .nil => ⟨[], rfl, .nil⟩
  | _, _, .cons ⟨t, e, h⟩ r => by
    obtain ⟨us, e2, p⟩ := paired_refs r
    exact ⟨t :: us, by rw [e, e2]; rfl, .cons h p⟩
theorem all_keep {δ : Type} (ds : List δ) : (ds.filter fun _ => true) = ds := List.filter_eq_self.mpr fun _ _ => rfl
theorem paired_getR {α β : Type} {F : α → β → Prop} {xs : List α} {ys : List β} {j : Nat} {y : β} (p : Paired F xs ys) (e : ys[j]? = some y) : ∃ x, xs[j]? = some x ∧ F x y := by
  induction p generalizing j with
  | nil => cases e
  | cons h t ih =>
    cases j with
    | zero =>
      cases e
      exact ⟨_, rfl, h⟩
    | succ j => exact ih e
end Ask

set_option Elab.async false
set_option linter.all false
set_option maxRecDepth 100000
set_option maxHeartbeats 4000000
namespace PyProof.Rows
open PySem
section
variable {prog : Program} {w : World} {A : Around}
variable {E : Value → Shared → Prop} {s : Shared}
theorem collect_tupA {l : Addr} {us : List Value} {R0 : List Value → Shared → Prop} (hm : ∃ o n, s.heap.get? l = some o ∧ o.cls = .type "tuple" ∧ o.data = .seq us.toArray n)
    (h : R0 us { s with heap := (s.heap.push (seqObj "list" #[] 0)).update s.heap.objs.size (Obj.mapSeq (· ++ us.toArray)) }) (hz : us.length ≤ sizeLine := by size_fits) :
    wpAny (model prog w) A (collect (.ref l)) R0 E s := by
  obtain ⟨o, n, ho, hc, hd⟩ := hm
  unfold collect
  refine wpAny_bind (wpAny_runValue (codeAny_builtin entry_proto_collect' ?_))
  show wpAny _ _ (do again (.builtin "list.__iadd__" ⟨[← newList [], .ref l], []⟩)) _ _ s
  refine wpAny_bind (wpAny_newList (wpAny_pure ⟨Code.quiet_builtin _ (by decide +kernel), codeAny_builtin entry_list_iadd' ?_⟩))
  show wpAny _ _ (Builtin.List.listExtendWith (.ref s.heap.objs.size) (.ref l) (.ref s.heap.objs.size)) _ _ { s with heap := s.heap.push (seqObj "list" #[] 0) }
  unfold Builtin.List.listExtendWith
  have hq : (s.heap.push (seqObj "list" #[] 0)).get? l = some o := Heap.get?_push_of_some _ ho
  refine wpAny_bind (wpAny_typeOf (T := "tuple") ⟨o, hq, hc⟩ ?_)
  have ht : (Value.type "tuple" == Value.type "tuple") = true := by rfl
  rw [if_pos (by rw [ht]; simp)]
  refine wpAny_bind (listItems_at hq hd ?_)
  refine wpAny_bind (listItems_at (xs := #[]) (n := 0) (Heap.get?_push_size _ rfl) rfl ?_)
  rw [if_neg (by simp)]
  refine wpAny_bind (listUpdate_at (xs := #[]) (n := 0) (Heap.get?_push_size _ rfl) rfl ?_ (Nat.zero_le _) (by show (#[] ++ us.toArray).size ≤ sizeLine + 1; simp only [Array.size_append, List.size_toArray, List.length_nil]; omega))
  refine wpAny_pure ?_
  show wpAny (model prog w) A (do
      let o ← load s.heap.objs.size
      match o.data with
      | .seq xs _ => pure xs.toList
      | _ => unsupported "internal:collect") R0 E { s with heap := (s.heap.push (seqObj "list" #[] 0)).update s.heap.objs.size (Obj.mapSeq (· ++ us.toArray)) }
  refine wpAny_bind (wpAny_load (get?_update_seq (Heap.get?_push_size _ rfl) _) ?_)
  show wpAny _ _ (pure ((#[] : Array Value) ++ us.toArray).toList) R0 E _
  rw [show ((#[] : Array Value) ++ us.toArray).toList = us by simp]
  exact wpAny_pure h
theorem sortedKT {κ : KeyKind} (hW : κ.OneLt) {l : Addr} {us : List Value} {R0 : Value → Shared → Prop} (hm : ∃ o n, s.heap.get? l = some o ∧ o.cls = .type "tuple" ∧ o.data = .seq us.toArray n) (h0 : KeysOf κ (pairsOf us)) (hkk : ∀ v₁ v₂ rest, us = v₁ :: v₂ :: rest → keyKind' (v₁ :: v₂ :: rest).toArray = pure oneType') (h64 : us.length < 64)
    (h : ∀ st1 : SortSt, (arrOf st1).Perm (pairsOf us) → SortedToK κ (arrOf st1) (pairsOf us).size → R0 (.ref (s.heap.objs.size + 1)) { s with heap := sortedAll s.heap us ((arrOf st1).map (·.2)) }) :
    wpAny (model prog w) A (call (.builtin "sorted") [.ref l]) R0 E s := by
  refine Calls.call_function_entry kind_sorted plain_sorted entry_sorted (args_sorted1 _) ?_
  unfold Builtin.«sorted»
  refine wpAny_bind (wpAny_pure ?_) (m := checkCount "sorted" 1 1 _)
  refine wpAny_bind (collect_tupA hm ?_ (by rw [sizeLine_eq]; omega))
  refine wpAny_bind (wpAny_newList ?_)
  have hz : ((s.heap.push (seqObj "list" #[] 0)).update s.heap.objs.size (Obj.mapSeq (· ++ us.toArray))).objs.size = s.heap.objs.size + 1 := by
    rw [Heap.size_update]
    rw [size_push']
  have hT : (((s.heap.push (seqObj "list" #[] 0)).update s.heap.objs.size (Obj.mapSeq (· ++ us.toArray))).push (seqObj "list" us.toArray 0)).get? (s.heap.objs.size + 1) = some (seqObj "list" us.toArray 0) := by
    rw [← hz]; exact Heap.get?_push_size _ rfl
  show wpAny _ _ _ _ _ { s with heap := ((s.heap.push (seqObj "list" #[] 0)).update s.heap.objs.size (Obj.mapSeq (· ++ us.toArray))).push (seqObj "list" us.toArray 0) }
  rw [hz]
  refine wpAny_bind (wpAny_holding (wpAny_call_entry slot_list_sort ⟨_, hT, rfl⟩ entry_list_sort (list_sort_treeK hW hT h0 hkk h64 fun st1 c1 c2 => ⟨_, rfl, ?_⟩) (args_list_sort _)))
  exact wpAny_pure ⟨_, rfl, h st1 c1 c2⟩
theorem sorted_strsT {l : Addr} {us : List Value} {zs : List Str} {R0 : Value → Shared → Prop} (hm : ∃ o n, s.heap.get? l = some o ∧ o.cls = .type "tuple" ∧ o.data = .seq us.toArray n) (hS : StrsAre us zs) (h64 : us.length < 64)
    (h : ∀ (out : Array Value) (zs' : List Str), StrsAre out.toList zs' → zs'.Perm zs → sortedS zs' = true → R0 (.ref (s.heap.objs.size + 1)) { s with heap := sortedAll s.heap us out }) :
    wpAny (model prog w) A (call (.builtin "sorted") [.ref l]) R0 E s := by
  refine sortedKT strKind_oneLt hm hS.keysOf (fun v₁ v₂ rest e => keyKind_strs (by rw [← e]; exact hS)) h64 fun st1 hp hs => ?_
  obtain ⟨zs', k1, k2, k3⟩ := sorted_out_str hS hp hs
  exact h _ zs' k1 k2 k3
end
end PyProof.Rows
namespace Ask
open PySem L2 PyProof.Rows
/-- sorted(texts), of a list or a tuple -/
def rSortedSB (K : PySem.W.Frag) : List V → Hp → VK → Prop := fun vs H Q => ∃ (b : Bool) (a : Addr) (xs : List Str), vs = [V.ref a] ∧ SqB K b H a (xs.map V.str) ∧ xs.length < 64 ∧
  ∀ (ys : List Str) (p : Addr), ys.Perm xs → sortedS ys = true → H p = none → Q (.ref p) (upd H p (.lst (ys.map V.str)))
theorem cr_sortedSB {X : Cx} : CallR X (.builtin "sorted") (rSortedSB X.K) := by
  intro pins s σ H vs us Q I r h
  obtain ⟨b, a, xs, rfl, hs, h64, q⟩ := h
  cases b with
  | true => exact cr_sortedS pins s σ H _ us Q I r ⟨a, xs, rfl, hs, h64, q⟩
  | false =>
    obtain ⟨its, rv, hl, _⟩ := I.tuple hs
    rw [Vals.ref1 r]
    have hlen0 := rv.length
    rw [List.length_map] at hlen0
    obtain ⟨o, e1, e2, n, e3⟩ := hl
    refine PyProof.Rows.sorted_strsT ⟨o, n, e1, e2, e3⟩ rv.strs (by rw [← hlen0]; exact h64) fun out ys h1 h2 h3 => ?_
    obtain ⟨ep, he'⟩ := PyProof.Rows.sortedAll_at s.heap its out
    have hlen : (ys.map V.str).length ≤ sizeLine := by rw [List.length_map, h2.length_eq]; exact small64 h64
    exact ⟨.ref _, upd H (s.heap.objs.size + 1) (.lst (ys.map V.str)), I.laid (t' := s.toks) (fun _ _ => PyProof.Rows.sortedAll_old) (Nat.le_succ _) ⟨hlen, out.toList, ep, vals_of_strs h1, he'⟩, rfl, q ys _ h2 h3 (I.hok.fresh (Nat.le_succ _))⟩
end Ask

set_option Elab.async false
set_option linter.all false
set_option maxRecDepth 100000
set_option maxHeartbeats 4000000
namespace Ask
open PySem L2
open PyProof.Rows
/-- a list or a tuple, made by the law -/
def LT (b : Bool) (xs : List V) : HO := if b = true then .lst xs else .tup xs
theorem SqB.of {K : PySem.W.Frag} {H : Hp} {a : Addr} {xs : List V} : ∀ {b : Bool}, H a = some (LT b xs) → SqB K b H a xs
  | true, h => SqL.of h
  | false, h => SqT.of h
theorem LT.seq {K : PySem.W.Frag} {H : Hp} {a : Addr} {xs : List V} {b : Bool} (h : H a = some (LT b xs)) : SqL K H a xs ∨ SqT K H a xs := by
  cases b
  · exact .inr (SqT.of h)
  · exact .inl (SqL.of h)
theorem LT.ty {K : PySem.W.Frag} {H : Hp} {a : Addr} {xs : List V} {b : Bool} (h : H a = some (LT b xs)) : ∃ t, TyX K H (.ref a) t ∧ PySem.W.kitAny K t [.type "list", .type "tuple"] = some true := by
  cases b
  · exact ⟨_, .base (.tup h), kitAny_cons (b := false) (kit_ty (by decide +kernel)) (fun _ => kitAny_cons (b := true) (kit_ty (by decide +kernel)) (fun z => by cases z) (fun _ => rfl)) (fun z => by cases z)⟩
  · exact ⟨_, .base (.lst h), kitAny_cons (b := true) (kit_ty (by decide +kernel)) (fun z => by cases z) (fun _ => rfl)⟩
theorem LT.not_pen {H : Hp} {a : Addr} {xs : List Str} {b : Bool} (h : H a = some (LT b (xs.map V.str))) (l : Addr) (i v : Int) : LT b (xs.map V.str) ≠ .lst [.ref l, .int i, .int v] := by
  cases b
  · intro e
    cases e
  · intro e
    have e' : HO.lst (xs.map V.str) = .lst [.ref l, .int i, .int v] := e
    cases xs with
    | nil => cases e'
    | cons x xs => cases e'
theorem dp_strs {K : PySem.W.Frag} {H : Hp} : ∀ xs : List Str, DpAll K H (xs.map V.str) (xs.map PyData.str)
  | [] => .nil
  | x :: xs => .cons (.str x) (dp_strs xs)
theorem lay_strs : ∀ xs : List Str, (∀ x ∈ xs, PyData.strOk x = true) → PyData.canLayAll0 (xs.map PyData.str) = true
  | [], _ => rfl
  | x :: xs, h => by
    show (PyData.canLay0 (.str x) && PyData.canLayAll0 (xs.map PyData.str)) = true
    rw [lay_strs xs fun y hy => h y (List.mem_cons_of_mem _ hy), Bool.and_true]
    unfold PyData.canLay0
    exact h x List.mem_cons_self
theorem shaped_strs {xs : List Str} (h : ∀ x ∈ xs, PyData.strOk x = true) : SeqAt.shaped (.list (xs.map PyData.str)) = true := by
  unfold SeqAt.shaped
  unfold PyData.canLay0
  rw [lay_strs xs h, Bool.true_and, decide_eq_true_eq]
  have z := depAll (k := 1) (xs.map PyData.str) fun d hd => by
    obtain ⟨x, _, rfl⟩ := List.mem_map.mp hd
    unfold PyData.depth
    omega
  unfold PyData.depth
  omega
theorem eqv_strs : ∀ xs ys : List Str, PyData.eqvAll (xs.map PyData.str) (ys.map PyData.str) = decide (xs = ys)
  | [], [] => rfl
  | [], _ :: _ => rfl
  | _ :: _, [] => rfl
  | x :: xs, y :: ys => by
    show (PyData.eqv (.str x) (.str y) && PyData.eqvAll (xs.map PyData.str) (ys.map PyData.str)) = _
    rw [eqv_strs xs ys, show PyData.eqv (.str x) (.str y) = (x == y) from rfl]
    by_cases h : x = y
    · subst h
      by_cases g : xs = ys
      · subst g
        simp
      · simp [g]
    · simp [h]
theorem eqv_lists (xs ys : List Str) : PyData.eqv (.list (xs.map PyData.str)) (.list (ys.map PyData.str)) = decide (xs = ys) := eqv_strs xs ys
end Ask

set_option Elab.async false
set_option linter.all false
set_option maxRecDepth 100000
set_option maxHeartbeats 4000000
namespace Ask
open PySem L2
open PyProof.Rows
/-- the pairs of a dict of values -/
def kents (kn : List (Str × Int)) : List (Key × V) := kn.map fun p => (Sum.inr p.1, V.int p.2)
theorem kents_keys (kn : List (Str × Int)) : (kents kn).map (·.1) = (kn.map (·.1)).map Sum.inr := by
  unfold kents
  rw [List.map_map, List.map_map]
  rfl
theorem kents_get : ∀ {kn : List (Str × Int)} {n : Str} {v : Int}, (kn.map (·.1)).Nodup → (n, v) ∈ kn → valV (kents kn) (Sum.inr n : Key) = some (.int v)
  | (m, w) :: kn, n, v, nd, h => by
    rw [List.map_cons, List.nodup_cons] at nd
    rcases List.mem_cons.mp h with e | h
    · cases e
      exact valV_pos rfl
    · refine (valV_neg fun z => nd.1 ?_).trans (kents_get nd.2 h)
      rw [show m = n from Sum.inr.inj z]
      exact List.mem_map.mpr ⟨(n, v), h, rfl⟩
theorem kents_at {kn : List (Str × Int)} {i : Nat} {k : Key} {w : V} (e : (kents kn)[i]? = some (k, w)) : ∃ n v, kn[i]? = some (n, v) ∧ k = Sum.inr n ∧ w = .int v := by
  unfold kents at e
  rw [List.getElem?_map] at e
  cases e2 : kn[i]? with
  | none => rw [e2] at e; cases e
  | some p =>
    rw [e2] at e
    cases e
    exact ⟨p.1, p.2, rfl, rfl, rfl⟩
theorem kents_none : ∀ {kn : List (Str × Int)} {n : Str}, n ∉ kn.map (·.1) → valV (kents kn) (Sum.inr n : Key) = none
  | [], _, _ => rfl
  | (m, v) :: kn, n, h => by
    rw [List.map_cons, List.mem_cons] at h
    refine (valV_neg fun z => h (.inl (Sum.inr.inj z).symm)).trans (kents_none fun c => h (.inr c))
theorem merge_kents : ∀ (more acc : List (Str × Int)), ((acc ++ more).map (·.1)).Nodup → mergeK (kents acc) (kents more) = kents (acc ++ more)
  | [], acc, _ => by rw [List.append_nil]; rfl
  | (n, v) :: more, acc, h => by
    have fr : n ∉ acc.map (·.1) := by
      rw [List.map_append, List.nodup_append] at h
      exact fun c => h.2.2 n c n List.mem_cons_self rfl
    have e : mergeK (kents acc) (kents ((n, v) :: more)) = mergeK (putK (kents acc) (Sum.inr n) (.int v)) (kents more) := rfl
    have e2 : kents acc ++ [((Sum.inr n : Key), V.int v)] = kents (acc ++ [(n, v)]) := by
      unfold kents
      rw [List.map_append]
      rfl
    rw [e, putK_new _ (kents_none fr), e2, merge_kents more (acc ++ [(n, v)]) (by rw [List.append_assoc]; exact h), List.append_assoc]
    rfl
theorem valV_none {κ : Type} [DecidableEq κ] : ∀ {acc : List (κ × V)} {k : κ}, k ∉ acc.map (·.1) → valV acc k = none
  | [], _, _ => rfl
  | (m, v) :: acc, k, h => by
    rw [List.map_cons, List.mem_cons] at h
    exact (valV_neg fun z => h (.inl z.symm)).trans (valV_none fun c => h (.inr c))
theorem merge_new : ∀ (more acc : List (Key × V)), ((acc ++ more).map (·.1)).Nodup → mergeK acc more = acc ++ more
  | [], acc, _ => by rw [List.append_nil]; rfl
  | (n, v) :: more, acc, h => by
    have fr : n ∉ acc.map (·.1) := by
      rw [List.map_append, List.nodup_append] at h
      exact fun c => h.2.2 n c n List.mem_cons_self rfl
    have e : mergeK acc ((n, v) :: more) = mergeK (putK acc n v) more := rfl
    rw [e, putK_new _ (valV_none fr), merge_new more (acc ++ [(n, v)]) (by rw [List.append_assoc]; exact h), List.append_assoc]
    rfl
end Ask

set_option Elab.async false
set_option linter.all false
set_option maxRecDepth 100000
set_option maxHeartbeats 2000000
namespace Ask
open PySem PySem.Spec L2
open PyProof.Rows
/-- the places of xs[lo:hi:st] -/
def places (n : Nat) (lo hi st : Option Int) : List Nat := sliceRange (sliceBounds lo hi st n).1 (sliceBounds lo hi st n).2.1 (sliceBounds lo hi st n).2.2
def pickV (xs : List V) (lo hi st : Option Int) : List V := (places xs.length lo hi st).filterMap (xs[·]?)
theorem vals_pick {xs : List V} {us : List Value} (r : Vals xs us) : ∀ ns : List Nat, Vals (ns.filterMap (xs[·]?)) (ns.filterMap (us[·]?))
  | [] => .nil
  | k :: ns => by
    have t := vals_pick r ns
    have e := r.length
    by_cases hk : k < xs.length
    · obtain ⟨u, hu, ru⟩ := r.get (List.getElem?_eq_getElem hk)
      rw [List.filterMap_cons_some (List.getElem?_eq_getElem hk), List.filterMap_cons_some hu]
      exact .cons ru t
    · rw [List.filterMap_cons_none (List.getElem?_eq_none (by omega)), List.filterMap_cons_none (List.getElem?_eq_none (by omega))]
      exact t
theorem fm_congr {α β : Type} {f g : α → Option β} : ∀ {l : List α}, (∀ x ∈ l, f x = g x) → l.filterMap f = l.filterMap g
  | [], _ => rfl
  | x :: l, h => by
    rw [List.filterMap_cons, List.filterMap_cons, h x List.mem_cons_self, fm_congr fun y hy => h y (List.mem_cons_of_mem _ hy)]
/-- xs[lo:hi:st] of a list -/
def tSl3 (K : PySem.W.Frag) (te : TE) (tl th ts : TO) : TE := fun σ H Q => te σ H fun x H1 => tl σ H1 fun lo H2 => th σ H2 fun hi H3 => ts σ H3 fun st H4 => st ≠ some 0 ∧ ∃ a xs, x = V.ref a ∧ SqL K H4 a xs ∧ (pickV xs lo hi st).length ≤ sizeLine ∧
  ∀ p, H4 p = none → Q (.ref p) (upd H4 p (.lst (pickV xs lo hi st)))
theorem pe_slice3 {X : Cx} {e : Expr} {lo hi k : Option Expr} {te : TE} {tl th ts : TO} {p2 pos : Pos} (he : PE X e te) (hl : PO X lo tl) (hh : PO X hi th) (hk : PO X k ts)
    (hsub : ∀ r q : Value, ∃ ops, subscripted (.Slice lo hi k p2) false r q = operate ops (getItem r q) := by intro r q; first | exact ⟨[r, q], by with_unfolding_all rfl⟩ | exact ⟨[q, r], by with_unfolding_all rfl⟩) : PE X (.Subscript e (.Slice lo hi k p2) pos) (tSl3 X.K te tl th ts) := by
  refine ⟨fun ps s0 τ G R J w => ?_⟩
  refine Subscript_ (thn (he.run ps s0 τ G _ J w) fun v s1 ⟨x, G1, J1, r1, w1⟩ => ?_)
  refine wpAny_Slice (thn (hl.run ps s1 τ G1 _ J1 w1) fun vl s2 ⟨l, G2, J2, pl, w2⟩ => thn (hh.run ps s2 τ G2 _ J2 w2) fun vu s3 ⟨u, G3, J3, pu, w3⟩ => thn (hk.run ps s3 τ G3 _ J3 w3) fun vs s4 ⟨o, G4, J4, po, w4⟩ => ?_)
  obtain ⟨n0, a, xs, ex, hx, few, w5⟩ := w4
  subst ex
  cases r1
  have J5 : Inv X ps τ G4 { s4 with heap := s4.heap.push { cls := .type "slice", data := .fields #[vl, vu, vs] } } := J4.kept (t' := s4.toks) fun b z q => Heap.get?_push_of_some _ q
  obtain ⟨its, rr, ht, hz⟩ := J5.list hx
  have len := rr.length
  show wpAny (model X.prog X.w) X.A (subscriptTail e (.Slice lo hi k p2) (.ref a) (.ref s4.heap.objs.size)) (EP X ps τ R) X.xe { s4 with heap := s4.heap.push { cls := .type "slice", data := .fields #[vl, vu, vs] } }
  obtain ⟨ops, eo⟩ := hsub (.ref a) (.ref s4.heap.objs.size)
  refine tail_any (ops := ops) ht.isList.typeIs (PySem.slot_list_getitem.lookup) ?_ eo
  refine wpAny_getItem_list_slice ht.isList (Heap.IsSliceOf.new _ vl vu vs) pl pu po n0 ?_ (by rw [List.size_toArray]; omega)
  have hp : slicePick its.toArray l u o = ((places xs.length l u o).filterMap (its[·]?)).toArray := by
    unfold slicePick places
    rw [List.size_toArray, len]
    congr 1
    exact fm_congr fun i _ => List.getElem?_toArray
  rw [hp]
  refine ⟨.ref _, _, J5.laid (t' := s4.toks) (o := .lst (pickV xs l u o)) (fun b z q => Heap.get?_push_of_some _ q) (Nat.le_refl _) ?_, rfl, w5 _ (J5.hok.fresh (Nat.le_refl _))⟩
  exact ⟨few, _, 0, vals_pick rr _, Heap.get?_push_size _ rfl⟩
theorem some_all {α : Type} (xs : List α) : (List.range xs.length).filterMap (xs[·]?) = xs := by
  have e2 : ∀ n : Nat, n ≤ xs.length → (List.range n).filterMap (xs[·]?) = xs.take n := by
    intro n
    induction n with
    | zero => intro _; rw [List.take_zero]; rfl
    | succ n ih =>
      intro h
      rw [List.range_succ, List.filterMap_append, ih (by omega), List.take_add_one]
      congr 1
  rw [e2 _ (Nat.le_refl _), List.take_length]
theorem places_one (n : Nat) : places n none none (some 1) = List.range n := by
  unfold places
  show sliceRange 0 n 1 = _
  unfold sliceRange
  have e : ((if (0 : Int) < (n : Int) then ((n : Int) - 0 + 1 - 1) / 1 else 0) : Int).toNat = n := by
    by_cases h : (0 : Int) < (n : Int)
    · rw [if_pos h, Int.ediv_one]
      omega
    · rw [if_neg h]
      omega
  rw [if_pos (by decide)]
  show (List.range ((if (0 : Int) < (n : Int) then ((n : Int) - 0 + 1 - 1) / 1 else 0) : Int).toNat).map _ = _
  rw [e]
  refine (List.map_congr_left fun k _ => ?_).trans (List.map_id _)
  show (0 + 1 * (k : Int)).toNat = k
  omega
theorem pick_one (xs : List V) : pickV xs none none (some 1) = xs := by
  unfold pickV
  rw [places_one, some_all]
theorem pick_back (xs : List V) : pickV xs none none (some (-1)) = xs.reverse := by
  unfold pickV places
  rw [PySem.W.krv_bounds]
  show (sliceRange ((xs.length : Int) - 1) (-1) (-1)).filterMap (xs[·]?) = _
  rw [PySem.W.krv_sliceRange, PySem.W.krv_range, List.filterMap_reverse, some_all]
theorem ix_tupK {X : Cx} {K : PySem.W.Frag} (h : X.K = K) : IxR X (rIxT K) := h ▸ ix_tup
end Ask

set_option Elab.async false
set_option linter.all false
set_option maxRecDepth 100000
set_option maxHeartbeats 2000000
namespace Ask
open PySem PySem.Spec L2
open PyProof.Rows
/-- the tuple of a row -/
def RowAt (H : Hp) (t : Addr) (r : Rw) : Prop := H t = some (.tup [.str r.nm, .int r.lo, .int r.hi, .int r.pr])
def rowIn (H : Hp) (t : Addr) : Rw := match H t with
  | some (.tup [.str n, .int l, .int h, .int c]) => ⟨n, l, h, c⟩
  | _ => ⟨"", 0, 0, 0⟩
theorem RowAt.row {H : Hp} {t : Addr} {r : Rw} (h : RowAt H t r) : rowIn H t = r := by
  unfold RowAt at h
  unfold rowIn
  rw [h]
def rowV (H : Hp) : Value → Rw
  | .ref t => rowIn H t
  | _ => ⟨"", 0, 0, 0⟩
/-- the object of a row -/
def IsRow (h : Heap) (v : Value) (r : Rw) : Prop := ∃ (a : Addr) (o : Obj) (k1 k2 k3 k4 : Tok) (n : Nat), v = .ref a ∧ h.get? a = some o ∧ o.cls = .type "tuple" ∧ o.data = .seq #[.str r.nm k1, .int r.lo k2, .int r.hi k3, .int r.pr k4] n
theorem IsRow.keeps {h h' : Heap} {v : Value} {r : Rw} (p : IsRow h v r) (k : ∀ b o, h.get? b = some o → o.cls = .type "tuple" → h'.get? b = some o) : IsRow h' v r := by
  obtain ⟨a, o, k1, k2, k3, k4, n, e, ho, hc, hd⟩ := p
  exact ⟨a, o, k1, k2, k3, k4, n, e, k _ _ ho hc, hc, hd⟩
def ltN (a b : Rw) : Bool := decide (ltS a.nm b.nm)
theorem swo_name {α : Type} (k : α → Rw) : SrtO.Swo fun v u => ltN (k v) (k u) := by
  refine ⟨fun x y h => ?_, fun x y z h1 h2 => ?_⟩
  · have p : ltS (k x).nm (k y).nm := of_decide_eq_true h
    exact decide_eq_false (ltS_asymm p)
  · have p : ¬ ltS (k y).nm (k x).nm := of_decide_eq_false h1
    have q : ¬ ltS (k z).nm (k y).nm := of_decide_eq_false h2
    refine decide_eq_false fun c => ?_
    rcases ltS_tri (k x).nm (k y).nm with e | e | e
    · exact q (ltS_trans c e)
    · exact q (e ▸ c)
    · exact p e
section
variable {prog : Program} {w : World} {A : Around} {s : Shared}
theorem row_cmp {vs : List Value} {k : Value → Rw} (hp : ∀ v ∈ vs, IsRow s.heap v (k v)) (hu : ∀ v ∈ vs, ∀ u ∈ vs, (k v).nm = (k u).nm → k v = k u) : SrtO.Cmp prog w A s (tuples' true) (fun p => p.1 ∈ vs) (SrtO.lt2 fun v u => ltN (k v) (k u)) := by
  intro x y hx hy
  have hu' := hu _ hx _ hy
  have p1 := hp _ hx
  have p2 := hp _ hy
  show wpAny (model prog w) A (keyLt' (tuples' true) x.1 y.1) (fun r s' => s' = s ∧ r = ltN (k x.1) (k y.1)) (fun _ _ => False) s
  generalize k x.1 = r1 at hu' p1 ⊢
  generalize k y.1 = r2 at hu' p2 ⊢
  obtain ⟨a1, o1, k1, k2, k3, k4, n1, e1, g1, c1, d1⟩ := p1
  obtain ⟨a2, o2, m1, m2, m3, m4, n2, e2, g2, c2, d2⟩ := p2
  rw [e1, e2]
  refine PySem.W.kat_lt g1 d1 g2 d2 ?_
  show PySem.W.KatLex prog w A true (decide (4 < 4)) _ [(.str r1.nm k1, .str r2.nm m1), (.int r1.lo k2, .int r2.lo m2), (.int r1.hi k3, .int r2.hi m3), (.int r1.pr k4, .int r2.pr m4)] 0 s
  refine PySem.W.kat_cons (SeqAt.EqAt.str_str _ k1 _ m1 prog w _ _ ?_)
  refine PySem.W.kat_go (fun z => ?_) (fun z => ?_)
  · have en : r1 = r2 := hu' (by simpa using z)
    subst en
    refine PySem.W.kat_yes (PySem.W.kat_cons (SeqAt.EqAt.int_int _ k2 _ m2 prog w _ _ ?_))
    rw [beq_self_eq_true]
    refine PySem.W.kat_yes (PySem.W.kat_cons (SeqAt.EqAt.int_int _ k3 _ m3 prog w _ _ ?_))
    rw [beq_self_eq_true]
    refine PySem.W.kat_yes (PySem.W.kat_cons (SeqAt.EqAt.int_int _ k4 _ m4 prog w _ _ ?_))
    rw [beq_self_eq_true]
    exact PySem.W.kat_yes (PySem.W.kat_nil ⟨rfl, (decide_eq_false (ltS_irrefl _)).symm⟩)
  · exact PySem.W.kat_no (oneLt_str ⟨rfl, rfl⟩)
theorem rows_firsts {h : Heap} : ∀ {vs : List Value}, (∀ v ∈ vs, ∃ r, IsRow h v r) → ∃ fs : List Value, PySem.W.KatTups h vs fs ∧ fs.length = vs.length ∧ ∀ f ∈ fs, ∃ x t, f = Value.str x t
  | [], _ => ⟨[], PySem.W.KatTups.nil, rfl, fun _ c => nomatch c⟩
  | v :: vs, hp => by
    obtain ⟨fs, q1, q2, q3⟩ := rows_firsts (vs := vs) fun u c => hp u (List.mem_cons_of_mem _ c)
    obtain ⟨r, a, o, k1, k2, k3, k4, n, e, g, c, d⟩ := hp v List.mem_cons_self
    subst e
    refine ⟨.str r.nm k1 :: fs, PySem.W.KatTups.cons g c d rfl q1, by rw [List.length_cons, List.length_cons, q2], fun f z => ?_⟩
    rcases List.mem_cons.mp z with rfl | z
    · exact ⟨r.nm, k1, rfl⟩
    · exact q3 f z
theorem rows_sortable {a : Addr} {vs : List Value} {k : Value → Rw} (h0 : 0 < vs.length) (hp : ∀ v ∈ vs, IsRow s.heap v (k v)) (hu : ∀ v ∈ vs, ∀ u ∈ vs, (k v).nm = (k u).nm → k v = k u) (ha : ∀ o, s.heap.get? a = some o → o.cls ≠ .type "tuple") :
    SrtO.SortableO prog w A s a vs fun v u => ltN (k v) (k u) := by
  intro h' keep
  have hp2 : ∀ v ∈ vs, IsRow h' v (k v) := fun v c => (hp v c).keeps fun b o e d => keep b o (fun z => by subst z; exact ha o e d) e
  obtain ⟨fs, q1, q2, q3⟩ := rows_firsts fun v c => ⟨_, hp2 v c⟩
  refine ⟨tuples' true, fun Q E hq => ?_, row_cmp hp2 hu⟩
  refine PySem.W.kat_kind (T := .type "str") q1 (by omega) (fun f c => ?_) (by rfl) ?_
  · obtain ⟨x, t, rfl⟩ := q3 f c
    exact PySem.W.Looks.now
  · have e : (Value.type "str" != Value.type "tuple") = true := by first | decide +kernel | rfl | decide
    rw [e]
    exact hq
end
/-- sorted(xs), xs tuples of rows of which no two have one name -/
def rSortRw (K : PySem.W.Frag) : List V → Hp → VK → Prop := fun vs H Q => ∃ (a : Addr) (ts : List Addr) (rs : List Rw), vs = [V.ref a] ∧ SqL K H a (ts.map V.ref) ∧ Paired (RowAt H) ts rs ∧ (rs.map (·.nm)).Nodup ∧
  ∀ (us : List Addr) (qs : List Rw) (p : Addr), Paired (RowAt H) us qs → us.Perm ts → qs.Perm rs → Asc qs → H p = none → Q (.ref p) (upd H p (.lst (us.map V.ref)))
theorem rows_are {H : Hp} : ∀ {ts : List Addr} {rs : List Rw}, Paired (RowAt H) ts rs → ts.map (rowIn H) = rs
  | _, _, .nil => rfl
  | _, _, .cons h t => by rw [List.map_cons, h.row, rows_are t]
theorem rows_of {H : Hp} : ∀ {ts : List Addr}, (∀ t ∈ ts, RowAt H t (rowIn H t)) → Paired (RowAt H) ts (ts.map (rowIn H))
  | [], _ => .nil
  | t :: ts, h => .cons (h t List.mem_cons_self) (rows_of fun u hu => h u (List.mem_cons_of_mem _ hu))
theorem cr_sortedRw {X : Cx} : CallR X (.builtin "sorted") (rSortRw X.K) := by
  intro ps s τ H vs us Q I r h
  obtain ⟨a, ts, rs, rfl, hs, pr, nd, q⟩ := h
  obtain ⟨its, rv, hl, hz⟩ := I.list hs
  obtain ⟨u, rfl, ru⟩ := vals1 r
  obtain rfl : u = Value.ref a := ru
  have ei := nts_of rv
  subst ei
  have er := rows_are pr
  have rowt : ∀ t ∈ ts, RowAt H t (rowIn H t) := fun t ht => by
    obtain ⟨i, _, e⟩ := List.mem_iff_getElem?.mp ht |>.imp fun i e => And.intro trivial e
    obtain ⟨r, _, hr⟩ := paired_get pr e
    rw [hr.row]
    exact hr
  have hrow : ∀ v ∈ ts.map Value.ref, IsRow s.heap v (rowV H v) := fun v hv => by
    obtain ⟨t, ht, rfl⟩ := List.mem_map.mp hv
    have hr := rowt t ht
    obtain ⟨_, its2, r2, o, ho, hc, n, hd⟩ := I.hok _ _ hr
    cases r2 with
    | cons x1 y1 =>
    cases y1 with
    | cons x2 y2 =>
    cases y2 with
    | cons x3 y3 =>
    cases y3 with
    | cons x4 y4 =>
    cases y4
    obtain ⟨t1, rfl⟩ := x1
    obtain ⟨t2, rfl⟩ := x2
    obtain ⟨t3, rfl⟩ := x3
    obtain ⟨t4, rfl⟩ := x4
    exact ⟨t, o, t1, t2, t3, t4, n, rfl, ho, hc, hd⟩
  have inj : ∀ v ∈ ts.map Value.ref, ∀ u ∈ ts.map Value.ref, (rowV H v).nm = (rowV H u).nm → rowV H v = rowV H u := fun v hv u hu e => by
    obtain ⟨t, ht, rfl⟩ := List.mem_map.mp hv
    obtain ⟨t', ht', rfl⟩ := List.mem_map.mp hu
    have m1 : rowIn H t ∈ rs := by rw [← er]; exact List.mem_map.mpr ⟨t, ht, rfl⟩
    have m2 : rowIn H t' ∈ rs := by rw [← er]; exact List.mem_map.mpr ⟨t', ht', rfl⟩
    exact name_inj nd m1 m2 e
  refine SrtO.sorted_ord (swo_name (rowV H)) hl.isList (by rw [← rv.length]; exact hz) (fun h2 h1 b hb kk => ?_) fun out q1 q2 => ?_
  · refine rows_sortable (s := { s with heap := h1 }) (by omega) (fun v hm => (hrow v hm).keeps fun b o e _ => (kk b o e).2) inj fun o e => ?_
    have e' : some o = some (seqObj "list" (ts.map Value.ref).toArray 0) := e.symm.trans hb
    cases e'
    intro c
    exact absurd (Value.type.inj c) (by decide)
  · have h3 : ∀ v ∈ out, ∃ t, v = Value.ref t := fun v hv => by
      obtain ⟨t, _, e⟩ := List.mem_map.mp (q2.perm.mem_iff.mp hv)
      exact ⟨t, e.symm⟩
    obtain ⟨n, hn⟩ := sortedAll_at s.heap (ts.map Value.ref) out.toArray
    have eo := ref_map h3
    generalize hu : out.map adO = us at eo
    subst eo
    have pu : us.Perm ts := by
      have z := q2.perm.map adO
      rw [ad_map, ad_map] at z
      exact z
    have hus : ∀ t ∈ us, RowAt H t (rowIn H t) := fun t ht => rowt t (pu.mem_iff.mp ht)
    have pq : (us.map (rowIn H)).Perm rs := by
      rw [← er]
      exact pu.map _
    have asc : Asc (us.map (rowIn H)) := by
      have n1 : ((us.map (rowIn H)).map (·.nm)).Nodup := (pq.map _).nodup_iff.mpr nd
      have z1 : (us.map (rowIn H)).Pairwise fun x y => ¬ ltS y.nm x.nm := by
        rw [List.pairwise_map]
        have z : us.Pairwise fun x y => ltN (rowIn H y) (rowIn H x) = false := List.pairwise_map.mp q1
        exact z.imp fun {x y} c => of_decide_eq_false c
      have z2 : (us.map (rowIn H)).Pairwise fun x y => x.nm ≠ y.nm := List.pairwise_map.mp (List.nodup_iff_pairwise_ne.mp n1)
      refine (z1.and z2).imp fun {x y} c => ?_
      rcases ltS_tri x.nm y.nm with e | e | e
      · exact e
      · exact absurd e c.2
      · exact absurd e c.1
    have hd : s.heap.objs.size ≤ s.heap.objs.size + 1 := Nat.le_succ _
    refine ⟨.ref (s.heap.objs.size + 1), upd H (s.heap.objs.size + 1) (.lst (us.map V.ref)), I.laid (t' := s.toks) (fun b o e => sortedAll_old e) hd ⟨?_, us.map Value.ref, n, of_nts us, hn⟩, rfl, q us _ _ (rows_of hus) pu pq asc (I.hok.fresh hd)⟩
    rw [List.length_map, pu.length_eq]
    have z := hz
    rw [List.length_map] at z
    exact z
end Ask

set_option Elab.async false
set_option linter.all false
set_option maxRecDepth 100000
set_option maxHeartbeats 2000000
namespace Ask
open PySem PySem.Spec PySem.Calls L2
open PyProof.Rows PyProof.V
section
variable {prog : Program} {w : World} {κ : Type} [DecidableEq κ] {knd : KeyKind prog w κ} {A : Around} {E : Value → Shared → Prop} {s : Shared}
/-- == of two dicts whose values only make objects while they are compared, and are alike -/
theorem pairsI {nm : String} {a b : Addr} {oa : Obj} {ka kb : List (κ × Value)} {Q : Bool → Shared → Prop} (I : Shared → Prop) (fa : (a == sysModules) = false) (fb : (b == sysModules) = false)
    (da : s.heap.DictOf knd a ka) (db : s.heap.DictOf knd b kb) (ga : s.heap.get? a = some oa) (keepA : ∀ τ, I τ → τ.heap.get? a = some oa)
    (len : ka.length = kb.length) (turn : ∀ (i : Nat) (k : κ) (v : Value) (τ : Shared), ka[i]? = some (k, v) → I τ → ∃ kc y, τ.heap.DictOf knd b kc ∧ valueAt kc k = some y ∧ wpAny (model prog w) A (eqBool v y) (fun r τ' => r = true ∧ I τ') E τ)
    (h0 : I s) (fin : ∀ τ, I τ → Q true τ) : wpAny (model prog w) A (Builtin.Dict.samePairs nm a b) Q E s := by
  obtain ⟨oa', ea, na, qa, _, va, ca, pa, _⟩ := da
  obtain ⟨ob0, e0, n0, q0, _, v0, c0, p0, _⟩ := db
  have xa : oa' = oa := Option.some.inj (qa.symm.trans ga)
  subst xa
  have la : ka.length = ea.size := by rw [← pa.length]; exact Array.length_toList
  have lb : kb.length = e0.size := by rw [← p0.length]; exact Array.length_toList
  have size : ea.size = e0.size := by omega
  unfold Builtin.Dict.samePairs Builtin.Dict.showsAll
  rw [if_neg (show ¬ (a == sysModules) = true by rw [fa]; exact Bool.false_ne_true), if_neg (show ¬ (b == sysModules) = true by rw [fb]; decide)]
  refine wpAny_bind (wpAny_pure (wpAny_bind (wpAny_pure (wpAny_bind (wpAny_dictEntries ga va ?_)))))
  dsimp only
  refine wpAny_bind (wpAny_dictEntries q0 v0 ?_)
  rw [if_neg (by rw [size]; simp)]
  refine wpAny_bind (wpAny_dictEpoch ga va (wpAny_bind ?_))
  rw [Std.Legacy.Range.forIn_eq_forIn_range']; simp only [Std.Legacy.Range.size, Nat.sub_zero, Nat.add_sub_cancel, Nat.div_one]
  refine wpAny_forIn_list _ (fun rest q τ => I τ ∧ q = (none, ()) ∧ ∃ i, rest = List.range' i (ea.size - i) ∧ i ≤ ea.size) _ ?_ ?_ _ _ ⟨h0, rfl, 0, by simp, Nat.zero_le _⟩
  · rintro x rest q τ ⟨hI, rfl, i, hr, hi⟩
    have lt : i < ea.size := by
      by_cases c : i < ea.size
      · exact c
      · rw [Nat.sub_eq_zero_of_le (Nat.le_of_not_lt c)] at hr
        simp at hr
    obtain ⟨rfl, hrest⟩ : x = i ∧ rest = List.range' (i + 1) (ea.size - (i + 1)) := by
      have z : ea.size - i = (ea.size - (i + 1)) + 1 := by omega
      rw [z, List.range'_succ] at hr
      exact ⟨(List.cons.inj hr).1, (List.cons.inj hr).2⟩
    have gA := keepA τ hI
    refine wpAny_bind (wpAny_dictEntries gA va ?_)
    rw [Array.getElem?_eq_getElem lt]
    have lt' : x < ka.length := by rw [la]; exact lt
    obtain ⟨k, v, kv⟩ : ∃ k v, ka[x] = (k, v) := ⟨_, _, rfl⟩
    have gk : ka[x]? = some (k, v) := by rw [List.getElem?_eq_getElem lt', kv]
    obtain ⟨isk, isv⟩ := pa.get? (i := x) (e := ea[x]) (k := k) (v := v) (by rw [Array.getElem?_toList]; exact Array.getElem?_eq_getElem lt) gk
    obtain ⟨k', isk', hash⟩ := ca ea[x] (Array.getElem_mem lt)
    have same : k' = k := knd.inj _ _ _ isk' isk
    rw [same] at hash
    obtain ⟨kc, y, dc, hy, eqs⟩ := turn x k v τ gk hI
    obtain ⟨ob, eb, nb, gB, _, vb, cb, pb, _⟩ := dc
    have found : ∀ k, findBy knd.is eb k = valueAt kc k := fun k => by
      rw [← pb.find k]
      clear pb cb vb gB
      obtain ⟨l⟩ := eb
      simp [findBy]
    show wpAny _ _ (holding [ea[x].key, ea[x].val] _ >>= _) _ _ _
    rw [hash]
    refine wpAny_bind (wpAny_holding (wpAny_bind (wpAny_dictFind_of isk gB vb cb ?_)))
    cases hj : eb.findIdx? fun e => knd.is k e.key with
    | none =>
      have no : valueAt kc k = none := by rw [← found k, findBy_of_findIdx?, hj]
      rw [no] at hy
      cases hy
    | some j =>
      obtain ⟨jl, _, _⟩ := Array.findIdx?_eq_some_iff_getElem.mp hj
      have at_ : valueAt kc k = some eb[j].val := by
        rw [← found k, findBy_of_findIdx?, hj]
        simp [Array.getElem?_eq_getElem jl]
      have ey : eb[j].val = y := Option.some.inj (at_.symm.trans hy)
      refine wpAny_bind (wpAny_dictEntries gB vb ?_)
      rw [Array.getElem?_eq_getElem jl]
      rw [← ey, ← isv] at eqs
      refine wpAny_holding (wpAny_mono eqs (fun r τ' z => ?_) fun _ _ z => z)
      obtain ⟨rfl, hI'⟩ := z
      show wpAny _ _ (if (!true) = true then _ else _) _ _ _
      rw [if_neg (by decide)]
      refine wpAny_bind (wpAny_dictEpoch (keepA τ' hI') va ?_)
      rw [if_neg (by simp)]
      exact wpAny_pure ⟨hI', rfl, x + 1, hrest, lt⟩
  · rintro q τ ⟨hI, rfl, i, hr, hi⟩
    exact wpAny_pure (fin τ hI)
theorem rc_dictI {a b : Addr} {oa : Obj} {ka kb : List (κ × Value)} {Q : Value → Shared → Prop} (I : Shared → Prop) (fa : (a == sysModules) = false) (fb : (b == sysModules) = false)
    (da : s.heap.DictOf knd a ka) (db : s.heap.DictOf knd b kb) (ga : s.heap.get? a = some oa) (keepA : ∀ τ, I τ → τ.heap.get? a = some oa)
    (len : ka.length = kb.length) (hu : A.units < cLine) (turn : ∀ (i : Nat) (k : κ) (v : Value) (τ : Shared), ka[i]? = some (k, v) → I τ → ∃ kc y, τ.heap.DictOf knd b kc ∧ valueAt kc k = some y ∧ wpAny (model prog w) A.in1 (eqBool v y) (fun r τ' => r = true ∧ I τ') E τ)
    (h0 : I s) (fin : ∀ τ, I τ → Q (.bool true) τ) : wpAny (model prog w) A (richCompare .Eq (.ref a) (.ref b)) Q E s := by
  refine wpAny_richCompare_same_room (op := .Eq) da.typeIs db.typeIs PySem.F.slot_dict_eq (wpAny_call_entry PySem.F.slot_dict_eq da.typeIs PySem.F.entry_dict_eq ?_ (PySem.F.args_dict_eq_2 _ _)) hu
  show wpAny _ _ (Builtin.Dict.dictSlotArgs "__eq__" ⟨[.ref a, .ref b], []⟩ >>= _) _ _ s
  refine wpAny_bind (show wpAny _ _ (Builtin.Dict.dictSlotArgs "__eq__" ⟨[.ref a, .ref b], []⟩) _ _ s from ?_)
  unfold Builtin.Dict.dictSlotArgs
  refine wpAny_bind (wpAny_notOrdered_dict da.typeIs (show wpAny _ _ (pure (Value.ref a, Value.ref b)) _ _ s from wpAny_pure ?_))
  refine wpAny_bind (wpAny_isInstance (T := "dict") db.typeIs PySem.F.sub_dict_dict ?_)
  simp only [Bool.not_true, Bool.false_eq_true, if_false]
  refine wpAny_bind (wpAny_pure (wpAny_bind (wpAny_pure (wpAny_bind ?_))))
  refine pairsI I fa fb da db ga keepA len turn h0 fun τ z => ?_
  refine wpAny_pure ⟨_, rfl, ⟨?_, ?_⟩⟩
  · intro c
    cases c
  · simpa using fin τ z
end
/-- == of two dicts (the left one locked) of the same keys, whose values D tells to be alike -/
def rEqDG (D : Eqv) : R2 := fun x y H Q => ∃ (a b : Addr) (oa : Obj) (ks ls : List (Key × V)), x = .ref a ∧ y = .ref b ∧ H a = some (.frz oa (.dK ks)) ∧ Rd H b (.dK ls) ∧ ks.length = ls.length ∧
  (∀ p ∈ ks, ∃ u, valV ls p.1 = some u ∧ D p.2 u H) ∧ ∀ H', Ext H H' → Q (.bl true) H'
theorem op_eqDG {X : Cx} {n : Nat} {D : Eqv} (hD : Mon D) (h : EqG X n D) (hr : Room (n + 1) X.A) : OpR X (compareOp .Eq) (rEqDG D) := by
  intro ps s τ H x y v u Q I rx ry hq
  obtain ⟨a, b, oa, ks, ls, rfl, rfl, ha, hb, len, al, q⟩ := hq
  cases rx
  cases ry
  obtain ⟨sa, ga, _, _, _, va, _, _, kva, dda⟩ := I.frzK ha
  obtain ⟨_, sb, vb, kvb, ddb⟩ := dk_rd I.hok hb
  show wpAny (model X.prog X.w) X.A (richCompare .Eq (.ref a) (.ref b)) (EP X ps τ Q) X.xe s
  have sub : Sub X (n + 1) X.A := ⟨hr, rfl⟩
  refine rc_dictI (fun τ' => ∃ H', Inv X ps τ H' τ' ∧ Ext H H') sa sb dda.dictOf ddb ga (fun τ' z => ?_) (by rw [← kva.length, ← kvb.length]; exact len) hr.units0 (fun i k v τ' gi z => ?_) ⟨H, I, Ext.rfl'⟩ fun τ' z => ?_
  · obtain ⟨H', I', e⟩ := z
    exact (I'.hok a _ (e _ _ ha)).1
  · obtain ⟨x, gx, ex, rx⟩ : ∃ x, ks[i]? = some x ∧ x.1 = k ∧ RelV x.2 v := by
      have il : i < ks.length := by rw [kva.length]; exact (List.getElem?_eq_some_iff.mp gi).1
      obtain ⟨y, gy, ey, ry⟩ := paired_get (show Paired _ ks va from kva) (List.getElem?_eq_getElem il)
      rw [gi] at gy
      cases gy
      exact ⟨_, List.getElem?_eq_getElem il, ey, ry⟩
    obtain ⟨u, hu, du⟩ := al x (List.mem_of_getElem? gx)
    obtain ⟨H', I', e⟩ := z
    have hb' : Rd H' b (.dK ls) := hb.elim (fun c => .inl (e _ _ c)) fun ⟨o, c⟩ => .inr ⟨o, e _ _ c⟩
    obtain ⟨_, _, vc, kvc, ddc⟩ := dk_rd I'.hok hb'
    have rr : RelO (some u) (valueAt vc k) := by rw [← ex, ← hu]; exact kvc.val x.1
    obtain ⟨y, hy, ry⟩ := rr.some_of
    refine ⟨vc, y, ddc, hy, ?_⟩
    refine wpAny_mono (h X.A.in1 ps τ' τ H' x.2 u v y sub.in1 I' rx ry (hD _ _ _ _ e du)) (fun r τ2 c => ?_) fun _ _ c => c
    obtain ⟨er, H2, I2, e2⟩ := c
    exact ⟨er, H2, I2, e.trans e2⟩
  · obtain ⟨H', I', e⟩ := z
    exact ⟨.bl true, H', I', rfl, q H' e⟩
end Ask

set_option Elab.async false
set_option linter.all false
set_option maxRecDepth 100000
set_option maxHeartbeats 2000000
namespace Ask
open PySem PySem.Spec PySem.Calls L2
open PyProof.Rows
/-- a call of a def that shows data, where no repr is under way -/
theorem run_g {X : Cx} {CX : CXT} {k : Nat} {f : Addr} {fd : FuncData} {ps : List Str} {sp : Sp} {E : XK} {Q : VK} {pn : List (Addr × Obj)} {τ : L2.St} {H : Hp} {s : Shared} {us : List Value} {vs : List V} (F : GOk X.prog X.w X.K X.mg X.base CX k f fd ps sp) (hr : Room k X.A)
    (hgd : X.A.guards = some []) (hb : Binds X.K fd ps []) (hx : Passes CX X E) (I : Inv X pn τ H s) (r : Vals vs us) (h : sp vs H Q E) : wpAny (model X.prog X.w) X.A (call (.ref f) us) (EP X pn τ Q) X.xe s := by
  have len : us.length = ps.length := by rw [← r.length]; exact F.len _ _ _ _ h
  have bnd : BindsTo s fd ⟨us, []⟩ (ps.zip us) := by
    have z := hb s us I.kIn (by simpa using len)
    simpa using z
  refine wpAny_call (codeAny_mono (F.run X.A X.stack s H ⟨us, []⟩ us vs Q E hr hgd I.env0 bnd r h) fun res s' z => ?_)
  cases res with
  | error e => exact hx pn τ H s e s' I z
  | ok fl =>
    cases fl with
    | ret w => exact I.after z
    | next => exact False.elim z
    | brk => exact False.elim z
    | cont => exact False.elim z
theorem pe_callG {X : Cx} {CX : CXT} {k : Nat} {f : Addr} {fd : FuncData} {ps : List Str} {sp : Sp} {E : XK} {x : Str} {p pos : Pos} {e : Expr} {es : List Expr} {t : TA} (F : GOk X.prog X.w X.K X.mg X.base CX k f fd ps sp) (hr : Room k X.A) (hgd : X.A.guards = some []) (hg : Gl X x) (hm : X.mg x = some (.ref f))
    (hk : PySem.W.keepIn X.K (.ref f) = true) (hb : Binds X.K fd ps []) (hx : Passes CX X E) (ha : PA X (e :: es) t) (hdb : (x == ("__debug__" : Str)) = false := by decide)
    (he : starEach (e :: es) X.env = (false, eval e X.env) :: starEach es X.env := by rfl) (hpl : (backTo pos (starEach es X.env)).any (·.1) = false := by rfl) : PE X (.Call (.Name x p) (e :: es) [] pos) (tCall sp [] E t) := by
  refine ⟨fun pn s τ H Q I h => wpAny_Call_Name_kw (ld_glob I hg hm ?_ hdb)⟩
  refine PySem.W.callWith_K (h₀ := X.base) I.ok.mod.kin hk (thn (ha.run pos pn s τ H _ I h) fun us s1 ⟨vs, G, J, r, q⟩ => ⟨J.kIn, ?_⟩) he hpl
  exact run_g F hr hgd hb hx J r (by simpa using q)
end Ask

set_option Elab.async false
set_option linter.all false
namespace Ask
open PySem PySem.Spec L2
/-- what is never run -/
def tNope : TE := fun _ _ _ => False
theorem pe_nope {X : Cx} {e : Expr} : PE X e tNope := ⟨fun _ _ _ _ _ _ h => h.elim⟩
def tNopeS : TS := fun _ _ _ => False
theorem ps_nope {X : Cx} {st : Stmt} : PS X st tNopeS := by
  constructor
  intros
  rename_i h
  exact h.elim
end Ask

set_option Elab.async false
set_option linter.all false
set_option maxRecDepth 100000
set_option maxHeartbeats 4000000
namespace Ask
open PySem L2
open PyProof.Rows
/-- no part of sys.modules -/
def Far (b : Addr) : Prop := (b == sysModules) = false
theorem known_dq {H : Hp} {v : Addr} {kn : List (Str × Int)} (hv : H v = some (.dK (kents kn))) (av : Far v) : Dq Far H 1 (.ref v) (.dict (((kents kn).map fun p => keyD p.1).zip (kn.map fun p => PyData.int p.2))) := by
  refine .inr (.inr (.inr ⟨v, kents kn, kn.map fun p => PyData.int p.2, rfl, rfl, av, hv, ?_⟩))
  clear hv av
  induction kn with
  | nil => exact .nil
  | cons q kn ih => exact .cons rfl ih
theorem strs_dq {H : Hp} {N : Addr} {xs : List Str} (hN : H N = some (.lst (xs.map V.str))) (av : Far N) : Dq Far H 1 (.ref N) (.list (xs.map PyData.str)) := by
  refine .inr (.inl ⟨N, xs.map V.str, xs.map PyData.str, rfl, rfl, av, hN, ?_⟩)
  clear hN av
  induction xs with
  | nil => exact .nil
  | cons x xs ih => exact .cons rfl ih
theorem strs_sh {xs : List Str} (h : ∀ x ∈ xs, (PyData.str x).shown.length ≤ 20) (l : xs.length ≤ 40) : Sh 60 sizeLine (.list (xs.map PyData.str)) := by
  refine (sh_list (n := 0) (k := 40) (L := 20) (fun d hd => ?_) (by rw [List.length_map]; exact l)).up (by decide) (by decide)
  obtain ⟨x, hx, rfl⟩ := List.mem_map.mp hd
  exact sh_str (h x hx)
/-- a list or tuple of texts, as data -/
def ltD (b : Bool) (xs : List Str) : PyData := if b = true then .list (xs.map PyData.str) else .tuple (xs.map PyData.str)
theorem lt_dq {H : Hp} {N : Addr} {b : Bool} {xs : List Str} (hN : H N = some (LT b (xs.map V.str))) (av : Far N) : Dq Far H 1 (.ref N) (ltD b xs) := by
  cases b with
  | true => exact strs_dq hN av
  | false =>
    refine .inr (.inr (.inl ⟨N, xs.map V.str, xs.map PyData.str, rfl, rfl, av, hN, ?_⟩))
    clear hN av
    induction xs with
    | nil => exact .nil
    | cons x xs ih => exact .cons rfl ih
theorem lt_sh {b : Bool} {xs : List Str} (h : ∀ x ∈ xs, (PyData.str x).shown.length ≤ 20) (l : xs.length ≤ 40) : Sh 60 sizeLine (ltD b xs) := by
  cases b with
  | true => exact strs_sh h l
  | false =>
    refine (sh_tup (n := 0) (k := 40) (L := 20) (fun d hd => ?_) (by rw [List.length_map]; exact l)).up (by decide) (by decide)
    obtain ⟨x, hx, rfl⟩ := List.mem_map.mp hd
    exact sh_str (h x hx)
/-- a dict of names and ints, as data -/
def knD (kn : List (Str × Int)) : PyData := .dict (((kents kn).map fun p => keyD p.1).zip (kn.map fun p => PyData.int p.2))
theorem kn_sh {kn : List (Str × Int)} (h : ∀ q ∈ kn, (PyData.str q.1).shown.length ≤ 20 ∧ q.2.natAbs < 10 ^ 12) (kl : kn.length ≤ 40) : Sh 60 sizeLine (knD kn) := by
  have e : ((kents kn).map fun p => keyD p.1).zip (kn.map fun p => PyData.int p.2) = kn.map fun p => (PyData.str p.1, PyData.int p.2) := by
    clear h kl
    induction kn with
    | nil => rfl
    | cons q kn ih => exact congrArg ((PyData.str q.1, PyData.int q.2) :: ·) ih
  unfold knD
  rw [e]
  refine (sh_dict (n := 0) (k := 40) (L := 20) (fun p hp => ?_) (by rw [List.length_map]; exact kl)).up (by decide) (by decide)
  obtain ⟨q, hq, rfl⟩ := List.mem_map.mp hp
  obtain ⟨h1, h2⟩ := h q hq
  exact ⟨sh_str h1, (sh_int h2).up (Nat.le_refl _) (by decide)⟩
theorem strs_sh1 {xs : List Str} (h : ∀ x ∈ xs, (PyData.str x).shown.length ≤ 20) (l : xs.length ≤ 40) : Sh 1 2000 (.list (xs.map PyData.str)) := by
  refine (sh_list (n := 0) (k := 40) (L := 20) (fun d hd => ?_) (by rw [List.length_map]; exact l)).up (by decide) (by decide)
  obtain ⟨x, hx, rfl⟩ := List.mem_map.mp hd
  exact sh_str (h x hx)
theorem lt_sh1 {b : Bool} {xs : List Str} (h : ∀ x ∈ xs, (PyData.str x).shown.length ≤ 20) (l : xs.length ≤ 40) : Sh 1 2000 (ltD b xs) := by
  cases b with
  | true => exact strs_sh1 h l
  | false =>
    refine (sh_tup (n := 0) (k := 40) (L := 20) (fun d hd => ?_) (by rw [List.length_map]; exact l)).up (by decide) (by decide)
    obtain ⟨x, hx, rfl⟩ := List.mem_map.mp hd
    exact sh_str (h x hx)
theorem kn_sh1 {kn : List (Str × Int)} (h : ∀ q ∈ kn, (PyData.str q.1).shown.length ≤ 20 ∧ q.2.natAbs < 10 ^ 12) (kl : kn.length ≤ 40) : Sh 1 2000 (knD kn) := by
  have e : ((kents kn).map fun p => keyD p.1).zip (kn.map fun p => PyData.int p.2) = kn.map fun p => (PyData.str p.1, PyData.int p.2) := by
    clear h kl
    induction kn with
    | nil => rfl
    | cons q kn ih => exact congrArg ((PyData.str q.1, PyData.int q.2) :: ·) ih
  unfold knD
  rw [e]
  refine (sh_dict (n := 0) (k := 40) (L := 20) (fun p hp => ?_) (by rw [List.length_map]; exact kl)).up (by decide) (by decide)
  obtain ⟨q, hq, rfl⟩ := List.mem_map.mp hp
  obtain ⟨h1, h2⟩ := h q hq
  exact ⟨sh_str h1, (sh_int h2).up (Nat.le_refl _) (by decide)⟩
/-- [x, y] of two such -/
theorem two_sh {n L : Nat} {x y : PyData} (hx : Sh n L x) (hy : Sh n L y) : Sh (n + 1) (L * 2 + 2 * 2 + 3) (.list [x, y]) := sh_list (k := 2) (fun d hd => by
  rcases List.mem_cons.mp hd with rfl | hd
  · exact hx
  · rw [List.mem_singleton.mp hd]
    exact hy) (Nat.le_refl _)
theorem two_dq {H : Hp} {q : Addr} {n : Nat} {u v : V} {x y : PyData} (hq : H q = some (.lst [u, v])) (f : Far q) (hx : Dq Far H n u x) (hy : Dq Far H n v y) : Dq Far H (n + 1) (.ref q) (.list [x, y]) :=
  .inr (.inl ⟨q, _, _, rfl, rfl, f, hq, .cons hx (.cons hy .nil)⟩)
end Ask

set_option Elab.async false
set_option linter.all false
set_option maxRecDepth 100000
set_option maxHeartbeats 4000000
namespace Ask
open PySem L2
open PyProof.Rows
/-! slices and items of a list or a tuple -/
def rSlB (K : PySem.W.Frag) : V → Option Int → Option Int → Hp → VK → Prop := fun x lo hi H Q => rSlL K x lo hi H Q ∨ rSlA K x lo hi H Q
theorem sl_seq {X : Cx} : SlR X (rSlB X.K) := SlR.or sl_list sl_tupA
theorem cut_to {xs : List V} {i : Nat} (h : i ≤ xs.length) : cutV xs none (some (i : Int)) = xs.take i := by
  unfold cutV
  rw [HT.sIx_none, HT.sIx_nat, List.drop_zero, Nat.min_eq_left h, Nat.sub_zero]
theorem cut_from {xs : List V} {i : Nat} (h : i ≤ xs.length) : cutV xs (some (i : Int)) none = xs.drop i := by
  unfold cutV
  rw [HT.sIx_none, HT.sIx_nat, Nat.min_eq_left h]
  exact List.take_of_length_le (by rw [List.length_drop]; omega)
theorem cut_in {xs : List V} {i j : Nat} (h : i ≤ xs.length) (h' : j ≤ xs.length) : cutV xs (some (i : Int)) (some (j : Int)) = (xs.drop i).take (j - i) := by
  unfold cutV
  rw [HT.sIx_nat, HT.sIx_nat, Nat.min_eq_left h, Nat.min_eq_left h']
theorem sl_to {K : PySem.W.Frag} {H : Hp} {a : Addr} {b : Bool} {xs : List V} {i : Nat} {Q : VK} (ha : H a = some (LT b xs)) (hi : i ≤ xs.length) (k : ∀ q H', Same H H' → H' q = some (LT b (xs.take i)) → Q (.ref q) H') : rSlB K (.ref a) none (some (i : Int)) H Q := by
  have ec := cut_to hi
  cases b
  · refine .inr ⟨a, xs, rfl, SqT.of ha, fun w => ?_, fun _ p hp => ?_⟩
    · refine k a H (Same.refl _) ?_
      rw [HT.sIx_nat, Nat.min_eq_left hi] at w
      rw [List.take_of_length_le (by omega)]
      exact ha
    · rw [ec]
      exact k p _ (Same.new hp) upd_same
  · refine .inl ⟨a, xs, rfl, SqL.of ha, fun p hp => ?_⟩
    rw [ec]
    exact k p _ (Same.new hp) upd_same
def rIxB (K : PySem.W.Frag) : R2 := fun x y H Q => rIxL K x y H Q ∨ rIxT K x y H Q
theorem ix_lt {X : Cx} : IxR X (rIxB X.K) := IxR.or ix_list ix_tup
theorem seq_ix {K : PySem.W.Frag} {H : Hp} {a : Addr} {b : Bool} {xs : List V} {i : Nat} {x : V} {Q : VK} (ha : H a = some (LT b xs)) (hx : xs[i]? = some x) (k : Q x H) : rIxB K (.ref a) (.int (i : Int)) H Q := by
  cases b
  · exact .inr ⟨a, xs, _, x, rfl, rfl, SqT.of ha, atI_nat hx, k⟩
  · exact .inl ⟨a, xs, _, x, rfl, rfl, SqL.of ha, atI_nat hx, k⟩
/-- a tuple of two texts, as data -/
theorem pair_sh {x y : Str} (hx : (PyData.str x).shown.length ≤ 20) (hy : (PyData.str y).shown.length ≤ 20) : Sh 60 sizeLine (ltD false [x, y]) := lt_sh (fun z hz => by
  rcases List.mem_cons.mp hz with h | h
  · rw [h]; exact hx
  · rw [List.mem_singleton.mp h]; exact hy) (by show 2 ≤ 40; omega)
end Ask

set_option Elab.async false
set_option linter.all false
set_option maxRecDepth 100000
set_option maxHeartbeats 4000000
namespace Ask
open PySem L2
open PyProof.Rows
theorem pi_listK {X : Cx} {K : PySem.W.Frag} {tg l : Expr} {tl : TE} (h : X.K = K) (hl : PE X l tl) : PI X tg l (iList K tl) := h ▸ pi_list hl
theorem pi_tupK {X : Cx} {K : PySem.W.Frag} {tg l : Expr} {tl : TE} (h : X.K = K) (hl : PE X l tl) : PI X tg l (iTup K tl) := h ▸ pi_tup hl
theorem yesT {σ : L2.St} {H : Hp} {A B : Hp → Prop} (h : A H) : tYes σ H (fun b H3 => if b = true then A H3 else B H3) := by
  show (if true = true then A H else B H)
  rw [if_pos rfl]
  exact h
/-! [elt for x in .. for y in ..]: the outer and the inner walk by their invariants -/
section
variable {J J1 : It} {n n1 : Nat} {G G1 : Hp → Prop} {Y Y1 : Nat → Hp → V → Hp → Prop} {g g1 : TG} {tt tt1 : TT} {wi1 : TI} {te : TE} {vs vs1 : List Nat} {σ : L2.St} {D : Addr}
theorem lc2_out (w : Walk J n G Y) {H1 : Hp} {Qd : Hp → Prop} (Pv : Nat → Hp → Prop) (h0 : Pv 0 (upd H1 D (.lst []))) (hG : ∀ i H, i ≤ n → Pv i H → G H)
    (hs : ∀ (Nx : Hp → Prop) i x H H', (∀ H2, Pv (i + 1) H2 → Nx H2) → i < n → Pv i H → Y i H x H' → g x (wipe σ vs) H' fun σ2 H2 => wipe σ2 vs = wipe σ vs ∧ tt σ2 H2 fun b H3 =>
      if b = true then wi1 σ2 H3 fun J1 H4 => ∃ W1 : Nat → Nat → Hp → Prop, (∃ m, W1 0 m H4) ∧ ∀ j k H, W1 j k H →
        (J1.stop j H ∧ Nx H) ∨ (J1.go j H ∧ ∃ Nx1 : Hp → Prop, (∀ H', Nx1 H' → ∃ k', k' < k ∧ W1 (j + 1) k' H') ∧ ∀ x H', J1.yld j H x H' → g1 x (wipe σ2 vs1) H' fun σ3 H5 => wipe σ3 vs1 = wipe σ2 vs1 ∧ tt1 σ3 H5 fun b H6 =>
          if b = true then te σ3 H6 fun y H7 => ∃ acc, H7 D = some (.lst acc) ∧ acc.length < sizeLine ∧ Nx1 (upd H7 D (.lst (acc ++ [y]))) else Nx1 H6)
      else Nx H3) (hd : ∀ H, Pv n H → Qd H) :
    ∃ W : Nat → Nat → Hp → Prop, (∃ m, W 0 m (upd H1 D (.lst []))) ∧ ∀ i m H, W i m H →
      (J.stop i H ∧ Qd H) ∨ (J.go i H ∧ ∃ Nx : Hp → Prop, (∀ H', Nx H' → ∃ m', m' < m ∧ W (i + 1) m' H') ∧ ∀ x H', J.yld i H x H' → g x (wipe σ vs) H' fun σ2 H2 => wipe σ2 vs = wipe σ vs ∧ tt σ2 H2 fun b H3 =>
        if b = true then wi1 σ2 H3 fun J1 H4 => ∃ W1 : Nat → Nat → Hp → Prop, (∃ m, W1 0 m H4) ∧ ∀ j k H, W1 j k H →
          (J1.stop j H ∧ Nx H) ∨ (J1.go j H ∧ ∃ Nx1 : Hp → Prop, (∀ H', Nx1 H' → ∃ k', k' < k ∧ W1 (j + 1) k' H') ∧ ∀ x H', J1.yld j H x H' → g1 x (wipe σ2 vs1) H' fun σ3 H5 => wipe σ3 vs1 = wipe σ2 vs1 ∧ tt1 σ3 H5 fun b H6 =>
            if b = true then te σ3 H6 fun y H7 => ∃ acc, H7 D = some (.lst acc) ∧ acc.length < sizeLine ∧ Nx1 (upd H7 D (.lst (acc ++ [y]))) else Nx1 H6)
        else Nx H3) := by
  refine ⟨fun i m H => m = n - i ∧ i ≤ n ∧ Pv i H, ⟨n, by simp, Nat.zero_le _, h0⟩, ?_⟩
  rintro i m H ⟨rfl, hi, p⟩
  have q := hG i H hi p
  by_cases hlt : i < n
  · exact .inr ⟨w.goes i H hlt q, Pv (i + 1), fun H' p' => ⟨n - (i + 1), by omega, rfl, hlt, p'⟩, fun x H' y => hs _ i x H H' (fun _ z => z) hlt p (w.yields i H x H' hlt q y)⟩
  · have e : i = n := by omega
    subst e
    exact .inl ⟨w.stops H q, hd H p⟩
theorem lc2_in (w : Walk J1 n1 G1 Y1) {H4 : Hp} {Nx : Hp → Prop} {σ2 : L2.St} (P1 : Nat → Hp → Prop) (h0 : P1 0 H4) (hG : ∀ j H, j ≤ n1 → P1 j H → G1 H)
    (hs : ∀ j x H H', j < n1 → P1 j H → Y1 j H x H' → g1 x (wipe σ2 vs1) H' fun σ3 H5 => wipe σ3 vs1 = wipe σ2 vs1 ∧ tt1 σ3 H5 fun b H6 =>
      if b = true then te σ3 H6 fun y H7 => ∃ acc, H7 D = some (.lst acc) ∧ acc.length < sizeLine ∧ P1 (j + 1) (upd H7 D (.lst (acc ++ [y]))) else P1 (j + 1) H6) (hd : ∀ H, P1 n1 H → Nx H) :
    ∃ W1 : Nat → Nat → Hp → Prop, (∃ m, W1 0 m H4) ∧ ∀ j k H, W1 j k H →
      (J1.stop j H ∧ Nx H) ∨ (J1.go j H ∧ ∃ Nx1 : Hp → Prop, (∀ H', Nx1 H' → ∃ k', k' < k ∧ W1 (j + 1) k' H') ∧ ∀ x H', J1.yld j H x H' → g1 x (wipe σ2 vs1) H' fun σ3 H5 => wipe σ3 vs1 = wipe σ2 vs1 ∧ tt1 σ3 H5 fun b H6 =>
        if b = true then te σ3 H6 fun y H7 => ∃ acc, H7 D = some (.lst acc) ∧ acc.length < sizeLine ∧ Nx1 (upd H7 D (.lst (acc ++ [y]))) else Nx1 H6) := by
  refine ⟨fun j m H => m = n1 - j ∧ j ≤ n1 ∧ P1 j H, ⟨n1, by simp, Nat.zero_le _, h0⟩, ?_⟩
  rintro j m H ⟨rfl, hj, p⟩
  have q := hG j H hj p
  by_cases hlt : j < n1
  · exact .inr ⟨w.goes j H hlt q, P1 (j + 1), fun H' p' => ⟨n1 - (j + 1), by omega, rfl, hlt, p'⟩, fun x H' y => hs j x H H' hlt p (w.yields j H x H' hlt q y)⟩
  · have e : j = n1 := by omega
    subst e
    exact .inl ⟨w.stops H q, hd H p⟩
end
end Ask

set_option Elab.async false
set_option linter.all false
set_option maxRecDepth 100000
set_option maxHeartbeats 4000000
namespace Ask
open PySem L2
open PyProof.Rows
/-- loose: the ranges' word -/
def looseB (lo hi lo' hi' : Int) : Bool := !(decide (lo = hi) && decide (lo' = hi')) && !decide (hi < lo') && !decide (hi' < lo)
theorem looseB_iff {lo hi lo' hi' : Int} : looseB lo hi lo' hi' = true ↔ ¬ (lo = hi ∧ lo' = hi') ∧ lo' ≤ hi ∧ lo ≤ hi' := by
  unfold looseB
  simp only [Bool.and_eq_true, Bool.not_eq_true', decide_eq_false_iff_not, Bool.and_eq_false_iff, not_and, Int.not_lt]
  constructor
  · rintro ⟨⟨h1, h2⟩, h3⟩
    exact ⟨fun a b => by rcases h1 with h | h <;> contradiction, h2, h3⟩
  · rintro ⟨h1, h2, h3⟩
    refine ⟨⟨?_, h2⟩, h3⟩
    by_cases a : lo = hi
    · exact .inr (h1 a)
    · exact .inl a
end Ask

set_option Elab.async false
set_option linter.all false
set_option maxRecDepth 100000
set_option maxHeartbeats 4000000
namespace Ask
open PySem L2
open PyProof.Rows
def opens (rs : List Rw) : List Rw := rs.filter fun r => !decide (r.lo = r.hi)
def openN (rs : List Rw) : List Str := (opens rs).map (·.nm)
theorem openN_nodup {rs : List Rw} (h : Asc rs) : (openN rs).Nodup := by
  unfold openN opens
  exact List.Sublist.nodup (List.Sublist.map (fun r : Rw => r.nm) List.filter_sublist) h.nodup
theorem openN_len {rs : List Rw} : (openN rs).length ≤ rs.length := by
  unfold openN opens
  rw [List.length_map]
  exact List.length_filter_le _ _
theorem openN_nodupN {rs : List Rw} (h : (rs.map (·.nm)).Nodup) : (openN rs).Nodup := by
  unfold openN opens
  exact List.Sublist.nodup (List.Sublist.map (fun r : Rw => r.nm) List.filter_sublist) h
theorem refs_not {ts : List Addr} (l : Addr) (i v : Int) : HO.lst (ts.map V.ref) ≠ .lst [.ref l, .int i, .int v] := fun e => by
  cases ts with
  | nil => cases e
  | cons t ts =>
    cases ts with
    | nil => cases e
    | cons u ts => cases e
/-- values for a pool -/
structure Vals4 (rs : List Rw) (kn : List (Str × Int)) : Prop where
  pm : (kn.map (·.1)).Perm (openN rs)
  ok : ∀ p ∈ kn, ∃ r ∈ rs, r.nm = p.1 ∧ r.lo ≤ p.2 ∧ p.2 ≤ r.hi
theorem kents_look : ∀ (kn : List (Str × Int)) (n : Str), valV (kents kn) (Sum.inr n : Key) = (kn.lookup n).map V.int
  | [], _ => rfl
  | (m, v) :: kn, n => by
    rw [List.lookup_cons]
    by_cases e : n = m
    · subst e
      rw [beq_self_eq_true]
      exact valV_pos rfl
    · rw [beq_false_of_ne e]
      exact (valV_neg fun z => e (Sum.inr.inj z).symm).trans (kents_look kn n)
theorem look_mem : ∀ {kn : List (Str × Int)} {n : Str} {v : Int}, kn.lookup n = some v → (n, v) ∈ kn
  | (m, w) :: kn, n, v, h => by
    rw [List.lookup_cons] at h
    by_cases e : n = m
    · subst e
      rw [beq_self_eq_true] at h
      cases h
      exact List.mem_cons_self
    · rw [beq_false_of_ne e] at h
      exact List.mem_cons_of_mem _ (look_mem h)
theorem Vals4.sub {rs : List Rw} {kn : List (Str × Int)} (V4 : Vals4 rs kn) : ∀ p ∈ kn, p.1 ∈ openN rs := fun p h => V4.pm.mem_iff.mp (List.mem_map.mpr ⟨p, h, rfl⟩)
theorem open_of_look {rs : List Rw} {kn : List (Str × Int)} (nd : (rs.map (·.nm)).Nodup) (V4 : ∀ p ∈ kn, p.1 ∈ openN rs) {r : Rw} (hr : r ∈ rs) {v : Int} (h : kn.lookup r.nm = some v) : r ∈ opens rs := by
  have m : r.nm ∈ openN rs := V4 _ (look_mem h)
  obtain ⟨q, hq, e⟩ := List.mem_map.mp m
  rw [← name_inj nd (List.mem_filter.mp hq).1 hr e]
  exact hq
theorem open_lt {rs : List Rw} {r : Rw} (h : r ∈ opens rs) (le : r.lo ≤ r.hi) : r.lo < r.hi := by
  have z := (List.mem_filter.mp h).2
  have z2 : r.lo ≠ r.hi := by simpa using z
  omega
theorem told_exact {rs : List Rw} {kn : List (Str × Int)} (nd : (rs.map (·.nm)).Nodup) (V4 : Vals4 rs kn) {q : Rw} (h : q ∈ rs.map (tellR kn)) : q.lo = q.hi := by
  obtain ⟨r, hr, rfl⟩ := List.mem_map.mp h
  cases e : kn.lookup r.nm with
  | some v =>
    unfold tellR
    rw [e]
  | none =>
    have et : tellR kn r = r := by unfold tellR; rw [e]
    rw [et]
    by_cases c : r.lo = r.hi
    · exact c
    · have m : r.nm ∈ openN rs := List.mem_map.mpr ⟨r, List.mem_filter.mpr ⟨hr, by simpa using c⟩, rfl⟩
      obtain ⟨p, hp, en⟩ := List.mem_map.mp (V4.pm.mem_iff.mpr m)
      have z := kents_look kn r.nm
      rw [e, ← en, kents_get ((V4.pm.nodup_iff.mpr (openN_nodupN nd))) (show (p.1, p.2) ∈ kn from hp)] at z
      cases z
end Ask

set_option Elab.async false
set_option linter.all false
set_option maxRecDepth 100000
set_option maxHeartbeats 4000000
namespace Ask
open PySem PySem.Spec PyProof.Rows L2
open PySem.SeqAt (EqP)
open AutoSeq1 (wpAny_loadPart')
/-! x not in l, x a dict of ints by names, l a list of such dicts -/
section
variable {prog : Program} {w : World}
theorem has_turns (lst : Addr) (vs : Array Value) (cap : Nat) (od : Option Addr) (sls : Array (Option Value)) (x : Value) (f : Value → Bool) (left : Nat) :
    ∀ k : Nat, vs.size - k = left → MeetsIn prog w (Builtin.«list.__contains__.loop» ⟨[.ref lst, x, rawInt k], []⟩)
      (fun A R s => s.heap.get? lst = some { cls := .type "list", dict := od, data := .seq vs cap, slots := sls } ∧ (∀ v, v ∈ vs → EqP prog w A.in1 s v x (f v)) ∧ R (.ok (.ret (.bool ((vs.toList.drop k).any f)))) s) := by
  induction left with
  | zero =>
    intro k none_left A R s pre
    obtain ⟨hp, g, d, tk, os⟩ := s; obtain ⟨at_, eqs, fin⟩ := pre
    wp_walk using wpAny_loadPart' at_
    have past : vs[((k : Nat) : Int).toNat]? = none := by simp; omega
    have dropped : vs.toList.drop k = [] := by simp; omega
    rw [dropped] at fin
    rw [past]
    wp_walk
    exact fin
  | succ left more =>
    intro k some_left A R s pre
    obtain ⟨hp, g, d, tk, os⟩ := s; obtain ⟨at_, eqs, fin⟩ := pre
    wp_walk using wpAny_loadPart' at_
    have lt : k < vs.size := by omega
    have here : vs[((k : Nat) : Int).toNat]? = some vs[k] := by simp [lt]
    have cut : vs.toList.drop k = vs[k] :: vs.toList.drop (k + 1) := by simp [List.drop_eq_getElem_cons, lt]
    rw [cut, List.any_cons] at fin
    rw [here]
    refine wpAny_bind (eqs _ (Array.getElem_mem lt) _ _ ?_)
    cases same : f vs[k] with
    | true =>
      rw [same] at fin
      wp_walk
      exact fin
    | false =>
      rw [same] at fin
      have next : ((k : Int) + 1) = ((k + 1 : Nat) : Int) := by push_cast; rfl
      wp_walk
      rw [next]
      exact ⟨plainId_quiet MeetsSeq.plain_contains_loop _, codeAny_builtin MeetsSeq.entry_contains_loop (by
        rw [Around.under_plainId MeetsSeq.plain_contains_loop _]
        exact more (k + 1) (by omega) A R _ ⟨at_, eqs, by simpa using fin⟩)⟩
theorem has_all (lst : Addr) (vs : Array Value) (cap : Nat) (od : Option Addr) (sls : Array (Option Value)) (x : Value) (f : Value → Bool) :
    MeetsIn prog w (Builtin.«list.__contains__» ⟨[.ref lst, x], []⟩)
      (fun A R s => s.heap.get? lst = some { cls := .type "list", dict := od, data := .seq vs cap, slots := sls } ∧ (∀ v, v ∈ vs → EqP prog w A.in1 s v x (f v)) ∧ R (.ok (.ret (.bool (vs.any f)))) s) := by
  intro A R s pre
  obtain ⟨hp, g, d, tk, os⟩ := s; obtain ⟨at_, eqs, fin⟩ := pre
  wp_walk using wpAny_loadPart' at_
  exact ⟨plainId_quiet MeetsSeq.plain_contains_loop _, codeAny_builtin MeetsSeq.entry_contains_loop (by
    rw [Around.under_plainId MeetsSeq.plain_contains_loop _]
    exact has_turns lst vs cap od sls x f _ 0 rfl A R _ ⟨at_, eqs, by simpa using fin⟩)⟩
/-- the entries of one dict in another -/
def hitB (kn : List (Str × Int)) : List (Str × Int) → Bool
  | [] => true
  | p :: r => match kn.lookup p.1 with
    | none => false
    | some y => (p.2 == y) && hitB kn r
def sameK (k kn : List (Str × Int)) : Bool := k.length == kn.length && hitB kn k
theorem hits_of {A : Around} {s : Shared} {kn : List (Str × Int)} {vb : List (Key × Value)} (rb : KV (kents kn) vb) : ∀ {k : List (Str × Int)} {va : List (Key × Value)}, KV (kents k) va → PySem.W.KeqHitsP prog w A s vb va (hitB kn k)
  | [], va, ra => by
    cases ra
    exact .nil
  | p :: r, va, ra => by
    unfold kents KV at ra
    rw [List.map_cons] at ra
    cases ra with
    | @cons _ q _ qs h t =>
      obtain ⟨h1, h2⟩ := h
      obtain ⟨key, v⟩ := q
      have h1' : key = (Sum.inr p.1 : Key) := h1.symm
      subst h1'
      obtain ⟨tk, rfl⟩ : ∃ tk, v = Value.int p.2 tk := h2
      have look := kents_look kn p.1
      have val := rb.val (Sum.inr p.1 : Key)
      rw [look] at val
      unfold hitB
      cases e : kn.lookup p.1 with
      | none =>
        rw [e] at val
        exact .miss (by cases hv : valueAt vb (Sum.inr p.1 : Key) with
          | none => rfl
          | some y => rw [hv] at val; exact val.elim)
      | some y =>
        rw [e] at val
        obtain ⟨z, hz, rz⟩ := val.some_of
        obtain ⟨tk2, rfl⟩ : ∃ tk2, z = Value.int y tk2 := rz
        exact .hit hz (SeqAt.EqAt.int_int p.2 tk y tk2).eqP (hits_of rb t)
end
theorem refs_vals : ∀ {ts : List Addr} {us : List Value}, Vals (ts.map V.ref) us → us = ts.map Value.ref
  | [], _, .nil => rfl
  | t :: ts, _, .cons h r => by
    cases (show _ = Value.ref t from h)
    rw [refs_vals r]
    rfl
theorem kents_inj : ∀ {a b : List (Str × Int)}, kents a = kents b → a = b
  | [], [], _ => rfl
  | [], _ :: _, h => by cases h
  | _ :: _, [], h => by cases h
  | p :: a, q :: b, h => by
    unfold kents at h
    rw [List.map_cons, List.map_cons] at h
    injection h with h1 h2
    have e1 : p.1 = q.1 := Sum.inr.inj (congrArg Prod.fst h1)
    have e2 : p.2 = q.2 := V.int.inj (congrArg Prod.snd h1)
    rw [kents_inj (a := a) (b := b) h2, show p = q from Prod.ext e1 e2]
open Classical in
noncomputable def isF (H : Hp) (kn : List (Str × Int)) (v : Value) : Bool := decide (∃ t k, v = Value.ref t ∧ H t = some (.dK (kents k)) ∧ sameK k kn = true)
open Classical in
theorem isF_of {H : Hp} {kn k : List (Str × Int)} {t : Addr} (h : H t = some (.dK (kents k))) : isF H kn (.ref t) = sameK k kn := by
  unfold isF
  cases e : sameK k kn with
  | true => exact decide_eq_true ⟨t, k, rfl, h, e⟩
  | false =>
    refine decide_eq_false fun ⟨t2, k2, e1, e2, e3⟩ => ?_
    cases e1
    rw [h] at e2
    injection e2 with e2
    injection e2 with e2
    rw [kents_inj e2, e3] at e
    cases e
theorem isF_any {H : Hp} {kn : List (Str × Int)} {d : Addr} : ∀ {ts : List Addr} {fs : List (List (Str × Int))}, Paired (fun t k => H t = some (.dK (kents k)) ∧ t ≠ d) ts fs → (ts.map Value.ref).any (isF H kn) = fs.any fun k => sameK k kn
  | _, _, .nil => rfl
  | _, _, .cons h r => by
    rw [List.map_cons, List.any_cons, List.any_cons, isF_of h.1, isF_any r]
section
variable {X : Cx}
def rNotInK (K : PySem.W.Frag) : R2 := fun x y H Q => ∃ (d l : Addr) (kn : List (Str × Int)) (ts : List Addr) (fs : List (List (Str × Int))), x = .ref d ∧ y = .ref l ∧ H d = some (.dK (kents kn)) ∧ SqL K H l (ts.map V.ref) ∧ Paired (fun t k => H t = some (.dK (kents k)) ∧ t ≠ d) ts fs ∧ Q (.bl (!fs.any fun k => sameK k kn)) H
theorem op_notInK (hu : X.A.units + 64 < cLine) : OpR X (compareOp .NotIn) (rNotInK X.K) := by
  intro pins s σ H x y v u Q I rx ry h
  obtain ⟨d, l, kn, ts, fs, rfl, rfl, hd, hl, pf, q⟩ := h
  cases (show v = Value.ref d from rx)
  cases (show u = Value.ref l from ry)
  obtain ⟨us, rv, la, _⟩ := I.list hl
  obtain rfl := refs_vals rv
  obtain ⟨_, yd, vd, rd, dd⟩ := (show ObjOk X.prog X.w H s.heap d (.dK (kents kn)) from I.hok d _ hd)
  obtain ⟨⟨cls, dd2, data, sl⟩, ho, hc, n, hdt⟩ := id la.isList
  simp only at hc hdt
  subst hc hdt
  have ty : s.TypeIs (.ref l) "list" := ⟨_, ho, rfl⟩
  have eqs : ∀ v, v ∈ (ts.map Value.ref).toArray → EqP X.prog X.w X.A.in1 s v (.ref d) (isF H kn v) := by
    intro v hv
    obtain ⟨t, ht, rfl⟩ := List.mem_map.mp (List.mem_toArray.mp hv)
    obtain ⟨j, ej⟩ := List.mem_iff_getElem?.mp ht
    obtain ⟨k, _, hk, ne⟩ := LiI.paired_get pf ej
    rw [isF_of hk]
    obtain ⟨_, yt, vt, rt, dt⟩ := (show ObjOk X.prog X.w H s.heap t (.dK (kents k)) from I.hok t _ hk)
    refine SeqAt.eqP_refs ne fun E Q' q' => ?_
    refine PySem.W.rcP_dicts (knd := mixKind X.prog X.w) (r := hitB kn k) yt yd dt dd (by show X.A.units + 1 < cLine; omega) (fun _ => hits_of rd rt) E Q' ?_
    have e1 : vt.length = k.length := by rw [← rt.length]; unfold kents; rw [List.length_map]
    have e2 : vd.length = kn.length := by rw [← rd.length]; unfold kents; rw [List.length_map]
    rw [e1, e2]
    exact q'
  show wpAny _ X.A (do return Value.bool (!(← contains (.ref l) (.ref d)))) _ _ s
  refine wpAny_bind (PySem.wpAny_contains_slot ty F.slot_list_contains (wpAny_mono (call_meetsIn (Q := fun v s' => v = Value.bool ((ts.map Value.ref).toArray.any (isF H kn)) ∧ s' = s) F.slot_list_contains ty F.entry_list_contains (F.args_list_contains_2 _ _) (has_all l _ n dd2 sl (.ref d) (isF H kn)) ⟨ho, eqs, rfl, rfl⟩) (fun v s' hv => ?_) fun _ _ e => e))
  obtain ⟨rfl, rfl⟩ := hv
  refine wpAny_truthy_bool (wpAny_pure ?_)
  rw [List.any_toArray, isF_any pf]
  exact ⟨.bl _, H, I, rfl, q⟩
end
end Ask

set_option Elab.async false
set_option linter.all false
set_option maxRecDepth 100000
set_option maxHeartbeats 4000000
namespace Ask
open PySem PySem.Spec PyProof.Rows L2
open PySem.SeqAt (EqP)
open AutoSeq1 (wpAny_loadPart')
/-! l == [], l a list of anything -/
section
variable {prog : Program} {w : World}
theorem eq_apart (p q : Addr) (vs us : Array Value) (n m : Nat) (od od2 : Option Addr) (sl sl2 : Array (Option Value)) (ne : vs.size ≠ us.size) :
    MeetsIn prog w (Builtin.«list.__eq__» ⟨[.ref p, .ref q], []⟩)
      (fun A R s => s.heap.get? p = some { cls := .type "list", dict := od, data := .seq vs n, slots := sl } ∧ s.heap.get? q = some { cls := .type "list", dict := od2, data := .seq us m, slots := sl2 } ∧ R (.ok (.ret (.bool false))) s) := by
  intro A R s pre
  obtain ⟨hp, g, d, tk, os⟩ := s; obtain ⟨at1, at2, fin⟩ := pre
  have sub := AutoSeq1.sub_list_list
  have apart : (vs.size != us.size) = true := by simpa using ne
  wp_walk using wpAny_loadPart' at1, wpAny_loadPart' at2
  exact fin
end
section
variable {X : Cx}
def rEqNil (K : PySem.W.Frag) : R2 := fun x y H Q => ∃ (l e : Addr) (xs : List V), x = .ref l ∧ y = .ref e ∧ SqL K H l xs ∧ SqL K H e [] ∧ Q (.bl xs.isEmpty) H
theorem op_eqNil (hu : X.A.units + 64 < cLine) : OpR X (compareOp .Eq) (rEqNil X.K) := by
  intro pins s σ H x y v u Q I rx ry h
  obtain ⟨l, e, xs, rfl, rfl, hl, he, q⟩ := h
  cases (show v = Value.ref l from rx)
  cases (show u = Value.ref e from ry)
  obtain ⟨us, rv, la, _⟩ := I.list hl
  obtain ⟨ws, rw', lb, _⟩ := I.list he
  cases rw'
  show wpAny _ X.A (richCompare .Eq (.ref l) (.ref e)) _ _ s
  cases rv with
  | nil => exact SeqAt.rcP_lists (e := fun _ => true) la.isList lb.isList rfl (by omega) (fun j h1 _ => absurd h1 (Nat.not_lt_zero j)) _ _ ⟨.bl true, H, I, rfl, q⟩
  | @cons _ a xs us r rs =>
    obtain ⟨⟨cls, dd, data, sl⟩, ho, hc, n, hd⟩ := id la.isList
    obtain ⟨⟨cls2, dd2, data2, sl2⟩, ho2, hc2, n2, hd2⟩ := id lb.isList
    simp only at hc hd hc2 hd2
    subst hc hd hc2 hd2
    exact wpAny_richCompare_same_room (op := .Eq) ⟨_, ho, rfl⟩ ⟨_, ho2, rfl⟩ F.slot_list_eq (call_meetsIn (Q := fun v s' => v ≠ Value.notImplemented ∧ EP X pins σ Q v s') F.slot_list_eq ⟨_, ho, rfl⟩ F.entry_list_eq (F.args_list_eq_2 _ _) (eq_apart l e _ _ n n2 dd dd2 sl sl2 (by simp)) ⟨ho, ho2, (fun z => nomatch z), ⟨.bl false, H, I, rfl, q⟩⟩) (by omega)
end
end Ask

set_option Elab.async false
set_option linter.all false
set_option maxRecDepth 100000
set_option maxHeartbeats 2000000
namespace Ask
open PySem PySem.Spec L2
open PyProof.Rows
/-- three ints and a text -/
structure K4 where
  x : Int
  y : Int
  z : Int
  n : Str
deriving DecidableEq
def K4At (H : Hp) (t : Addr) (r : K4) : Prop := H t = some (.tup [.int r.x, .int r.y, .int r.z, .str r.n])
def k4In (H : Hp) (t : Addr) : K4 := match H t with
  | some (.tup [.int l, .int h, .int m, .str n]) => ⟨l, h, m, n⟩
  | _ => ⟨0, 0, 0, ""⟩
theorem K4At.key {H : Hp} {t : Addr} {r : K4} (h : K4At H t r) : k4In H t = r := by
  unfold K4At at h
  unfold k4In
  rw [h]
def k4V (H : Hp) : Value → K4
  | .ref t => k4In H t
  | _ => ⟨0, 0, 0, ""⟩
def IsK4 (h : Heap) (v : Value) (r : K4) : Prop := ∃ (a : Addr) (o : Obj) (k1 k2 k3 k4 : Tok) (n : Nat), v = .ref a ∧ h.get? a = some o ∧ o.cls = .type "tuple" ∧ o.data = .seq #[.int r.x k1, .int r.y k2, .int r.z k3, .str r.n k4] n
theorem IsK4.keeps {h h' : Heap} {v : Value} {r : K4} (p : IsK4 h v r) (k : ∀ b o, h.get? b = some o → o.cls = .type "tuple" → h'.get? b = some o) : IsK4 h' v r := by
  obtain ⟨a, o, k1, k2, k3, k4, n, e, ho, hc, hd⟩ := p
  exact ⟨a, o, k1, k2, k3, k4, n, e, k _ _ ho hc, hc, hd⟩
/-- by the ints, then the text -/
def LtQ (a b : K4) : Prop := a.x < b.x ∨ (a.x = b.x ∧ (a.y < b.y ∨ (a.y = b.y ∧ (a.z < b.z ∨ (a.z = b.z ∧ ltS a.n b.n)))))
instance (a b : K4) : Decidable (LtQ a b) := inferInstanceAs (Decidable (_ ∨ (_ ∧ (_ ∨ (_ ∧ (_ ∨ (_ ∧ _)))))))
def ltQ (a b : K4) : Bool := decide (LtQ a b)
theorem LtQ.tri (a b : K4) : LtQ a b ∨ a = b ∨ LtQ b a := by
  unfold LtQ
  obtain ⟨x, y, z, n⟩ := a
  obtain ⟨x', y', z', n'⟩ := b
  rcases Int.lt_trichotomy x x' with h | h | h
  · exact .inl (.inl h)
  · subst h
    rcases Int.lt_trichotomy y y' with h | h | h
    · exact .inl (.inr ⟨rfl, .inl h⟩)
    · subst h
      rcases Int.lt_trichotomy z z' with h | h | h
      · exact .inl (.inr ⟨rfl, .inr ⟨rfl, .inl h⟩⟩)
      · subst h
        rcases ltS_tri n n' with h | h | h
        · exact .inl (.inr ⟨rfl, .inr ⟨rfl, .inr ⟨rfl, h⟩⟩⟩)
        · subst h
          exact .inr (.inl rfl)
        · exact .inr (.inr (.inr ⟨rfl, .inr ⟨rfl, .inr ⟨rfl, h⟩⟩⟩))
      · exact .inr (.inr (.inr ⟨rfl, .inr ⟨rfl, .inl h⟩⟩))
    · exact .inr (.inr (.inr ⟨rfl, .inl h⟩))
  · exact .inr (.inr (.inl h))
theorem LtQ.trans {a b c : K4} (h1 : LtQ a b) (h2 : LtQ b c) : LtQ a c := by
  unfold LtQ at *
  rcases h1 with h | ⟨e1, h | ⟨e2, h | ⟨e3, h⟩⟩⟩ <;> rcases h2 with g | ⟨f1, g | ⟨f2, g | ⟨f3, g⟩⟩⟩ <;>
    first
      | exact .inl (by omega)
      | exact .inr ⟨by omega, .inl (by omega)⟩
      | exact .inr ⟨by omega, .inr ⟨by omega, .inl (by omega)⟩⟩
      | exact .inr ⟨by omega, .inr ⟨by omega, .inr ⟨by omega, ltS_trans h g⟩⟩⟩
theorem LtQ.irrefl (a : K4) : ¬ LtQ a a := by
  unfold LtQ
  rintro (h | ⟨_, h | ⟨_, h | ⟨_, h⟩⟩⟩)
  · omega
  · omega
  · omega
  · exact ltS_irrefl _ h
theorem swo_k4 {α : Type} (k : α → K4) : SrtO.Swo fun v u => ltQ (k v) (k u) := by
  refine ⟨fun x y h => ?_, fun x y z h1 h2 => ?_⟩
  · have p : LtQ (k x) (k y) := of_decide_eq_true h
    exact decide_eq_false fun q => LtQ.irrefl _ (p.trans q)
  · have p : ¬ LtQ (k y) (k x) := of_decide_eq_false h1
    have q : ¬ LtQ (k z) (k y) := of_decide_eq_false h2
    refine decide_eq_false fun c => ?_
    rcases LtQ.tri (k x) (k y) with e | e | e
    · exact q (c.trans e)
    · exact q (e ▸ c)
    · exact p e
section
variable {prog : Program} {w : World} {A : Around} {s : Shared}
theorem k4_cmp {vs : List Value} {k : Value → K4} (hp : ∀ v ∈ vs, IsK4 s.heap v (k v)) : SrtO.Cmp prog w A s (tuples' true) (fun p => p.1 ∈ vs) (SrtO.lt2 fun v u => ltQ (k v) (k u)) := by
  intro x y hx hy
  have p1 := hp _ hx
  have p2 := hp _ hy
  show wpAny (model prog w) A (keyLt' (tuples' true) x.1 y.1) (fun r s' => s' = s ∧ r = ltQ (k x.1) (k y.1)) (fun _ _ => False) s
  generalize k x.1 = r1 at p1 ⊢
  generalize k y.1 = r2 at p2 ⊢
  obtain ⟨a1, o1, k1, k2, k3, k4, n1, e1, g1, c1, d1⟩ := p1
  obtain ⟨a2, o2, m1, m2, m3, m4, n2, e2, g2, c2, d2⟩ := p2
  rw [e1, e2]
  refine PySem.W.kat_lt g1 d1 g2 d2 ?_
  show PySem.W.KatLex prog w A true (decide (4 < 4)) _ [(.int r1.x k1, .int r2.x m1), (.int r1.y k2, .int r2.y m2), (.int r1.z k3, .int r2.z m3), (.str r1.n k4, .str r2.n m4)] 0 s
  refine PySem.W.kat_cons (SeqAt.EqAt.int_int _ k1 _ m1 prog w _ _ ?_)
  refine PySem.W.kat_go (fun z => ?_) (fun z => ?_)
  · have ex : r1.x = r2.x := by simpa using z
    refine PySem.W.kat_yes (PySem.W.kat_cons (SeqAt.EqAt.int_int _ k2 _ m2 prog w _ _ ?_))
    refine PySem.W.kat_go (fun z2 => ?_) (fun z2 => ?_)
    · have ey : r1.y = r2.y := by simpa using z2
      refine PySem.W.kat_yes (PySem.W.kat_cons (SeqAt.EqAt.int_int _ k3 _ m3 prog w _ _ ?_))
      refine PySem.W.kat_go (fun z3 => ?_) (fun z3 => ?_)
      · have ez : r1.z = r2.z := by simpa using z3
        refine PySem.W.kat_yes (PySem.W.kat_cons (SeqAt.EqAt.str_str _ k4 _ m4 prog w _ _ ?_))
        refine PySem.W.kat_go (fun z4 => ?_) (fun z4 => ?_)
        · have en : r1.n = r2.n := by simpa using z4
          have e : r1 = r2 := by
            obtain ⟨a, b, c, d⟩ := r1
            obtain ⟨a', b', c', d'⟩ := r2
            simp at ex ey ez en
            rw [ex, ey, ez, en]
          subst e
          exact PySem.W.kat_yes (PySem.W.kat_nil ⟨rfl, (decide_eq_false (LtQ.irrefl _)).symm⟩)
        · refine PySem.W.kat_no (oneLt_any_str ⟨rfl, ?_⟩)
          unfold ltQ LtQ
          simp [ex, ey, ez]
          rfl
      · have ez : ¬ r1.z = r2.z := by simpa using z3
        refine PySem.W.kat_no (oneLt_any_int ⟨rfl, ?_⟩)
        unfold ltQ LtQ
        simp [ex, ey, ez]
    · have ey : ¬ r1.y = r2.y := by simpa using z2
      refine PySem.W.kat_no (oneLt_any_int ⟨rfl, ?_⟩)
      unfold ltQ LtQ
      simp [ex, ey]
  · have ex : ¬ r1.x = r2.x := by simpa using z
    refine PySem.W.kat_no (oneLt_int ⟨rfl, ?_⟩)
    unfold ltQ LtQ
    simp [ex]
theorem k4_firsts {h : Heap} : ∀ {vs : List Value}, (∀ v ∈ vs, ∃ r, IsK4 h v r) → ∃ fs : List Value, PySem.W.KatTups h vs fs ∧ fs.length = vs.length ∧ ∀ f ∈ fs, ∃ x t, f = Value.int x t
  | [], _ => ⟨[], PySem.W.KatTups.nil, rfl, fun _ c => nomatch c⟩
  | v :: vs, hp => by
    obtain ⟨fs, q1, q2, q3⟩ := k4_firsts (vs := vs) fun u c => hp u (List.mem_cons_of_mem _ c)
    obtain ⟨r, a, o, k1, k2, k3, k4, n, e, g, c, d⟩ := hp v List.mem_cons_self
    subst e
    refine ⟨.int r.x k1 :: fs, PySem.W.KatTups.cons g c d rfl q1, by rw [List.length_cons, List.length_cons, q2], fun f z => ?_⟩
    rcases List.mem_cons.mp z with rfl | z
    · exact ⟨r.x, k1, rfl⟩
    · exact q3 f z
theorem k4_sortable {a : Addr} {vs : List Value} {k : Value → K4} (h0 : 0 < vs.length) (hp : ∀ v ∈ vs, IsK4 s.heap v (k v)) (ha : ∀ o, s.heap.get? a = some o → o.cls ≠ .type "tuple") :
    SrtO.SortableO prog w A s a vs fun v u => ltQ (k v) (k u) := by
  intro h' keep
  have hp2 : ∀ v ∈ vs, IsK4 h' v (k v) := fun v c => (hp v c).keeps fun b o e d => keep b o (fun z => by subst z; exact ha o e d) e
  obtain ⟨fs, q1, q2, q3⟩ := k4_firsts fun v c => ⟨_, hp2 v c⟩
  refine ⟨tuples' true, fun Q E hq => ?_, k4_cmp hp2⟩
  refine PySem.W.kat_kind (T := .type "int") q1 (by omega) (fun f c => ?_) (by rfl) ?_
  · obtain ⟨x, t, rfl⟩ := q3 f c
    exact PySem.W.Looks.now
  · have e : (Value.type "int" != Value.type "tuple") = true := by first | decide +kernel | rfl | decide
    rw [e]
    exact hq
end
/-- sorted(xs), xs tuples of three ints and a text -/
def rSortK4 (K : PySem.W.Frag) : List V → Hp → VK → Prop := fun vs H Q => ∃ (a : Addr) (ts : List Addr) (rs : List K4), vs = [V.ref a] ∧ SqL K H a (ts.map V.ref) ∧ Paired (K4At H) ts rs ∧ rs.Nodup ∧
  ∀ (us : List Addr) (qs : List K4) (p : Addr), Paired (K4At H) us qs → us.Perm ts → qs.Perm rs → qs.Pairwise LtQ → H p = none → Q (.ref p) (upd H p (.lst (us.map V.ref)))
theorem k4s_are {H : Hp} : ∀ {ts : List Addr} {rs : List K4}, Paired (K4At H) ts rs → ts.map (k4In H) = rs
  | _, _, .nil => rfl
  | _, _, .cons h t => by rw [List.map_cons, h.key, k4s_are t]
theorem k4s_of {H : Hp} : ∀ {ts : List Addr}, (∀ t ∈ ts, K4At H t (k4In H t)) → Paired (K4At H) ts (ts.map (k4In H))
  | [], _ => .nil
  | t :: ts, h => .cons (h t List.mem_cons_self) (k4s_of fun u hu => h u (List.mem_cons_of_mem _ hu))
theorem cr_sortedK4 {X : Cx} : CallR X (.builtin "sorted") (rSortK4 X.K) := by
  intro ps s τ H vs us Q I r h
  obtain ⟨a, ts, rs, rfl, hs, pr, nd, q⟩ := h
  obtain ⟨its, rv, hl, hz⟩ := I.list hs
  obtain ⟨u, rfl, ru⟩ := vals1 r
  obtain rfl : u = Value.ref a := ru
  have ei := nts_of rv
  subst ei
  have er := k4s_are pr
  have rowt : ∀ t ∈ ts, K4At H t (k4In H t) := fun t ht => by
    obtain ⟨i, _, e⟩ := List.mem_iff_getElem?.mp ht |>.imp fun i e => And.intro trivial e
    obtain ⟨r, _, hr⟩ := paired_get pr e
    rw [hr.key]
    exact hr
  have hrow : ∀ v ∈ ts.map Value.ref, IsK4 s.heap v (k4V H v) := fun v hv => by
    obtain ⟨t, ht, rfl⟩ := List.mem_map.mp hv
    have hr := rowt t ht
    obtain ⟨_, its2, r2, o, ho, hc, n, hd⟩ := I.hok _ _ hr
    cases r2 with
    | cons x1 y1 =>
    cases y1 with
    | cons x2 y2 =>
    cases y2 with
    | cons x3 y3 =>
    cases y3 with
    | cons x4 y4 =>
    cases y4
    obtain ⟨t1, rfl⟩ := x1
    obtain ⟨t2, rfl⟩ := x2
    obtain ⟨t3, rfl⟩ := x3
    obtain ⟨t4, rfl⟩ := x4
    exact ⟨t, o, t1, t2, t3, t4, n, rfl, ho, hc, hd⟩
  refine SrtO.sorted_ord (swo_k4 (k4V H)) hl.isList (by rw [← rv.length]; exact hz) (fun h2 h1 b hb kk => ?_) fun out q1 q2 => ?_
  · refine k4_sortable (s := { s with heap := h1 }) (by omega) (fun v hm => (hrow v hm).keeps fun b o e _ => (kk b o e).2) fun o e => ?_
    have e' : some o = some (seqObj "list" (ts.map Value.ref).toArray 0) := e.symm.trans hb
    cases e'
    intro c
    exact absurd (Value.type.inj c) (by decide)
  · have h3 : ∀ v ∈ out, ∃ t, v = Value.ref t := fun v hv => by
      obtain ⟨t, _, e⟩ := List.mem_map.mp (q2.perm.mem_iff.mp hv)
      exact ⟨t, e.symm⟩
    obtain ⟨n, hn⟩ := sortedAll_at s.heap (ts.map Value.ref) out.toArray
    have eo := ref_map h3
    generalize hu : out.map adO = us at eo
    subst eo
    have pu : us.Perm ts := by
      have z := q2.perm.map adO
      rw [ad_map, ad_map] at z
      exact z
    have hus : ∀ t ∈ us, K4At H t (k4In H t) := fun t ht => rowt t (pu.mem_iff.mp ht)
    have pq : (us.map (k4In H)).Perm rs := by
      rw [← er]
      exact pu.map _
    have asc : (us.map (k4In H)).Pairwise LtQ := by
      have n1 : (us.map (k4In H)).Nodup := pq.nodup_iff.mpr nd
      have z1 : (us.map (k4In H)).Pairwise fun x y => ¬ LtQ y x := by
        rw [List.pairwise_map]
        have z : us.Pairwise fun x y => ltQ (k4In H y) (k4In H x) = false := List.pairwise_map.mp q1
        exact z.imp fun {x y} c => of_decide_eq_false c
      refine (z1.and (List.nodup_iff_pairwise_ne.mp n1)).imp fun {x y} c => ?_
      rcases LtQ.tri x y with e | e | e
      · exact e
      · exact absurd e c.2
      · exact absurd e c.1
    have hd : s.heap.objs.size ≤ s.heap.objs.size + 1 := Nat.le_succ _
    refine ⟨.ref (s.heap.objs.size + 1), upd H (s.heap.objs.size + 1) (.lst (us.map V.ref)), I.laid (t' := s.toks) (fun b o e => sortedAll_old e) hd ⟨?_, us.map Value.ref, n, of_nts us, hn⟩, rfl, q us _ _ (k4s_of hus) pu pq asc (I.hok.fresh hd)⟩
    rw [List.length_map, pu.length_eq]
    have z := hz
    rw [List.length_map] at z
    exact z
end Ask

set_option Elab.async false
set_option linter.all false
/-! comprehensions within comprehensions: twins with K explicit -/
namespace Ask
open PySem PySem.Spec L2 PyProof.Rows
theorem cr_allK {X : Cx} {K : PySem.W.Frag} (h : X.K = K) (hc : X.calm = true) : CallR X (.builtin "all") (rAll K) := h ▸ cr_all hc
theorem cr_anyK {X : Cx} {K : PySem.W.Frag} (h : X.K = K) (hc : X.calm = true) : CallR X (.builtin "any") (rAny K) := h ▸ cr_any hc
theorem cr_sumK {X : Cx} {K : PySem.W.Frag} (h : X.K = K) (hc : X.calm = true) : CallR X (.builtin "sum") (rSum K) := h ▸ cr_sum hc
end Ask

set_option Elab.async false
set_option linter.all false
set_option maxRecDepth 100000
set_option maxHeartbeats 4000000
namespace Ask
open PySem L2
open PyProof.Rows
/-! lists of lists of texts, as data -/
def grpD (gs : List (List Str)) : PyData := .list (gs.map fun g => .list (g.map PyData.str))
theorem grp_dq {H : Hp} {M : Addr} {ls : List Addr} {gs : List (List Str)} (hM : H M = some (.lst (ls.map V.ref))) (fM : Far M) (p : Paired (fun l g => H l = some (.lst ((g : List Str).map V.str)) ∧ Far l) ls gs) : Dq Far H 2 (.ref M) (grpD gs) := by
  refine .inr (.inl ⟨M, ls.map V.ref, gs.map fun g => .list (g.map PyData.str), rfl, rfl, fM, hM, ?_⟩)
  clear hM fM
  induction p with
  | nil => exact .nil
  | cons h _ ih => exact .cons (strs_dq h.1 h.2) ih
theorem grp_sh {gs : List (List Str)} (h : ∀ g ∈ gs, ∀ x ∈ g, (PyData.str x).shown.length ≤ 20) (l : ∀ g ∈ gs, g.length ≤ 40) (l2 : gs.length ≤ 40) : Sh 60 sizeLine (grpD gs) := by
  refine (sh_list (n := 1) (k := 40) (L := 2000) (fun d hd => ?_) (by rw [List.length_map]; exact l2)).up (by decide) (by decide)
  obtain ⟨g, hg, rfl⟩ := List.mem_map.mp hd
  exact strs_sh1 (h g hg) (l g hg)
theorem strs_dpa {K : PySem.W.Frag} {H : Hp} : ∀ xs : List Str, DpAll K H (xs.map V.str) (xs.map PyData.str)
  | [] => .nil
  | x :: xs => .cons (.str x) (strs_dpa xs)
theorem grp_dp {K : PySem.W.Frag} {H : Hp} {M : Addr} {ls : List Addr} {gs : List (List Str)} (hM : H M = some (.lst (ls.map V.ref))) (p : Paired (fun l g => H l = some (.lst ((g : List Str).map V.str))) ls gs) : Dp K H (.ref M) (grpD gs) := by
  refine .lst (SqL.of hM) ?_
  clear hM
  induction p with
  | nil => exact .nil
  | cons h _ ih => exact .cons (.lst (SqL.of h) (strs_dpa _)) ih
theorem grp_lay : ∀ gs : List (List Str), (∀ g ∈ gs, ∀ x ∈ g, PyData.strOk x = true) → PyData.canLayAll0 (gs.map fun g => .list (g.map PyData.str)) = true
  | [], _ => rfl
  | g :: gs, h => by
    have ih := grp_lay gs fun q hq => h q (List.mem_cons_of_mem _ hq)
    have z := lay_strs g (h g List.mem_cons_self)
    show (PyData.canLay0 (.list (g.map PyData.str)) && PyData.canLayAll0 (gs.map fun g => PyData.list (g.map PyData.str))) = true
    rw [ih, Bool.and_true]
    unfold PyData.canLay0
    exact z
theorem grp_shaped {gs : List (List Str)} (h : ∀ g ∈ gs, ∀ x ∈ g, PyData.strOk x = true) : SeqAt.shaped (grpD gs) = true := by
  unfold grpD SeqAt.shaped
  unfold PyData.canLay0
  rw [grp_lay gs h, Bool.true_and, decide_eq_true_eq]
  have z := depAll (k := 2) (gs.map fun g => PyData.list (g.map PyData.str)) fun d hd => by
    obtain ⟨g, _, rfl⟩ := List.mem_map.mp hd
    have z := depAll (k := 1) (g.map PyData.str) fun d hd => by
      obtain ⟨x, _, rfl⟩ := List.mem_map.mp hd
      unfold PyData.depth
      omega
    unfold PyData.depth
    omega
  unfold PyData.depth
  omega
theorem grp_nil (gs : List (List Str)) : (!PyData.eqv (grpD gs) (.list [])) = !gs.isEmpty := by
  cases gs with
  | nil => rfl
  | cons x xs => rfl
theorem paired_mapG {α β γ : Type} {F : α → γ → Prop} {f : β → γ} : ∀ {xs : List α} {ys : List β}, Paired (fun x y => F x (f y)) xs ys → Paired F xs (ys.map f)
  | _, _, .nil => .nil
  | _, _, .cons h t => .cons h (paired_mapG t)
theorem But.tup {D t : Addr} {Ha Hb : Hp} {xs acc : List V} (b : But D Ha Hb) (e : Ha D = some (.lst acc)) (h : Ha t = some (.tup xs)) : Hb t = some (.tup xs) := b _ _ (fun c => by rw [c, e] at h; cases h) h
theorem paired_split {α β γ : Type} {F : α → V → Prop} {G : Addr → β → Prop} {f : α → β} (h : ∀ d v, F d v → ∃ t, v = .ref t ∧ G t (f d)) : ∀ {ds : List α} {ys : List V}, Paired F ds ys → ∃ us : List Addr, ys = us.map V.ref ∧ Paired G us (ds.map f)
  | _, _, .nil => ⟨[], rfl, .nil⟩
  | _, _, .cons z t => by
    obtain ⟨u, rfl, g⟩ := h _ _ z
    obtain ⟨us, rfl, p⟩ := paired_split (γ := γ) h t
    exact ⟨u :: us, rfl, .cons g p⟩
theorem paired_append {α β : Type} {F : α → β → Prop} {us : List α} {zs : List β} (p2 : Paired F us zs) : ∀ {xs : List α} {ys : List β}, Paired F xs ys → Paired F (xs ++ us) (ys ++ zs)
  | _, _, .nil => p2
  | _, _, .cons h t => .cons h (paired_append p2 t)
/-- pairs of texts, as data -/
def prD (z : Str × Str) : PyData := .tuple [.str z.1, .str z.2]
theorem lay_prs : ∀ ps : List (Str × Str), (∀ p ∈ ps, PyData.strOk p.1 = true ∧ PyData.strOk p.2 = true) → PyData.canLayAll0 (ps.map prD) = true
  | [], _ => rfl
  | p :: ps, h => by
    obtain ⟨h1, h2⟩ := h p List.mem_cons_self
    have ih := lay_prs ps fun q hq => h q (List.mem_cons_of_mem _ hq)
    rw [List.map_cons]
    show (PyData.canLay0 (prD p) && PyData.canLayAll0 (ps.map prD)) = true
    rw [ih, Bool.and_true]
    unfold prD
    simp [PyData.canLayAll0, PyData.canLay0, h1, h2]
theorem pr_depth (p : Str × Str) : (prD p).depth ≤ 2 := by
  unfold prD
  simp [PyData.depth, PyData.depthAll]
theorem prs_shaped {ps : List (Str × Str)} (h : ∀ p ∈ ps, PyData.strOk p.1 = true ∧ PyData.strOk p.2 = true) : SeqAt.shaped (.list (ps.map prD)) = true := by
  unfold SeqAt.shaped
  unfold PyData.canLay0
  rw [lay_prs ps h, Bool.true_and, decide_eq_true_eq]
  have z := depAll (k := 2) (ps.map prD) fun d hd => by
    obtain ⟨x, _, rfl⟩ := List.mem_map.mp hd
    exact pr_depth x
  unfold PyData.depth
  omega
theorem pr_shaped {p : Str × Str} (h : PyData.strOk p.1 = true ∧ PyData.strOk p.2 = true) : SeqAt.shaped (prD p) = true := by
  have z := pr_depth p
  unfold SeqAt.shaped
  rw [Bool.and_eq_true, decide_eq_true_eq]
  refine ⟨?_, by omega⟩
  unfold prD
  simp [PyData.canLayAll0, PyData.canLay0, h.1, h.2]
theorem prs_dp {K : PySem.W.Frag} {H : Hp} : ∀ {us : List Addr} {ps : List (Str × Str)}, Paired (fun t p => H t = some (.tup [.str (p : Str × Str).1, .str p.2])) us ps → DpAll K H (us.map V.ref) (ps.map prD)
  | _, _, .nil => .nil
  | _, _, .cons h t => .cons (.tup (SqT.of h) (.cons (.str _) (.cons (.str _) .nil))) (prs_dp t)
theorem pr_dp {K : PySem.W.Frag} {H : Hp} {t : Addr} {x y : Str} (h : H t = some (.tup [.str x, .str y])) : Dp K H (.ref t) (prD (x, y)) := .tup (SqT.of h) (.cons (.str _) (.cons (.str _) .nil))
theorem prs_any (zs : List (Str × Str)) (a b : Str) : ((zs.map prD).any fun z => PyData.eqv z (prD (a, b))) = decide ((a, b) ∈ zs) := by
  rw [List.any_map, Bool.eq_iff_iff, List.any_eq_true, decide_eq_true_eq]
  have e : ∀ z : Str × Str, PyData.eqv (prD z) (prD (a, b)) = true ↔ z = (a, b) := fun z => by
    show (z.1 == a && (z.2 == b && true)) = true ↔ _
    rw [Bool.and_true, Bool.and_eq_true, beq_iff_eq, beq_iff_eq]
    exact ⟨fun ⟨h1, h2⟩ => Prod.ext h1 h2, fun h => by rw [h]; exact ⟨rfl, rfl⟩⟩
  constructor
  · rintro ⟨z, hz, h⟩
    rw [(e z).mp h] at hz
    exact hz
  · intro h
    exact ⟨_, h, (e _).mpr rfl⟩
end Ask
namespace L2
open PySem
theorem Room.units65 {k : Nat} {A : Around} (r : Room k A) : A.units + 65 < cLine := by
  have := r.un
  omega
theorem mt_indexK {X : Cx} {K : PySem.W.Frag} (h : X.K = K) : MtR X "list.index" (rIndex K) := h ▸ mt_index
end L2

set_option Elab.async false
set_option linter.all false
set_option maxRecDepth 100000
set_option maxHeartbeats 2000000
namespace Ask
open PySem L2
open PyProof.Rows
theorem op_notIn_K {X : Cx} {K : PySem.W.Frag} (h : X.K = K) : OpR X (compareOp .NotIn) (rIn K true) := h ▸ op_notIn_seq
theorem pg_tupK {X : Cx} {K : PySem.W.Frag} {es : List Expr} {k : Nat} {t : TGs} {n : Nat} {pos : Pos} (hK : X.K = K) (hc : X.calm = true) (h : PGs X es t)
    (hn : (assignEach es X.env).length = n) (hst : (assignEach es X.env).findIdx? (·.1) = none := by rfl) : PG X (.Tuple es k pos) (gTup K n t) := hK ▸ pg_tup hc h hn hst
theorem in_eq (nm : Str) (xs : List Str) : inV (.str nm) (xs.map V.str) = decide (nm ∈ xs) := by
  by_cases c : nm ∈ xs
  · rw [inV_mem c, decide_eq_true c]
  · rw [inV_not c, decide_eq_false c]
theorem in_eqF (nm : Str) (xs : List Str) : (if false = true then !inV (.str nm) (xs.map V.str) else inV (.str nm) (xs.map V.str)) = decide (nm ∈ xs) := by
  rw [if_neg Bool.false_ne_true, in_eq]
theorem notin_eq (nm : Str) (xs : List Str) : (if true = true then !inV (.str nm) (xs.map V.str) else inV (.str nm) (xs.map V.str)) = !decide (nm ∈ xs) := by
  rw [if_pos rfl, in_eq]
/-- [x for x in d if ..], d a dict of names and ints -/
theorem keys_kept {v : Addr} {kn : List (Str × Int)} {σ : L2.St} {H : Hp} {Q : VK} {tt : TT} (b c : Nat) (keep : Str → Bool) (hb : σ[b]? = some (some (.ref v))) (hc : c < σ.length) (hv : H v = some (.dK (kents kn))) (n64 : kn.length < 64)
    (htt : ∀ (nm : Str) (H' : Hp) (Nx : Bool → Hp → Prop), nm ∈ kn.map (·.1) → (∀ a o, a ≠ v → H a = some o → H' a = some o) → Nx (keep nm) H' → tt ((wipe σ [c]).set c (some (.str nm))) H' Nx)
    (k : ∀ D H', H D = none → Same H H' → H' D = some (.lst (((kn.map (·.1)).filter keep).map V.str)) → Q (.ref D) H') :
    tLockE (tLc (iKeys (tVar b)) (gName c) tt (tVar c) [c]) σ H Q := by
  refine ⟨v, _, hv, trivial, fun od => ⟨_, hb, v, od, rfl, .inl ⟨kents kn, upd_same, fun D hD => ?_⟩⟩⟩
  have vD : v ≠ D := ne_of_none upd_same hD
  have hD0 : H D = none := by rw [upd_ne (Ne.symm vD)] at hD; exact hD
  have kel : (kents kn).length = kn.length := by unfold kents; rw [List.length_map]
  have fz : upd H v (.frz od (.dK (kents kn))) v = some (.frz od (.dK (kents kn))) := upd_same
  refine lc_pure (walk_keys (d := v) (o := od) (kvs := kents kn)) (kn.map (·.1)) keep (fun nm y _ => y = .str nm) (by rw [List.length_map, kel]) hD (fun H' s => s _ _ fz) (fun i H x H' e => ⟨by rw [e.1]; exact Same.refl _, fun o h => by rw [e.1]; exact h⟩) (by rw [kel, sizeLine_eq]; omega) (fun _ _ _ _ h _ _ => h) ?_ ?_
  · rintro N i x d H1 H1' ed s1 - ⟨rfl, kk, w0, e, rfl⟩ - s1' fin skip
    obtain ⟨nm, val, e2, rfl, rfl⟩ := kents_at e
    rw [List.getElem?_map, e2] at ed
    obtain rfl : nm = d := Option.some.inj ed
    have ws : wipe ((wipe σ [c]).set c (some (V.str nm))) [c] = wipe σ [c] := by
      show ((σ.set c none).set c (some (V.str nm))).set c none = σ.set c none
      rw [List.set_set, List.set_set]
    refine ⟨ws, htt nm _ _ (List.mem_map.mpr ⟨_, List.mem_of_getElem? e2, rfl⟩) (fun a o ha h => s1' _ _ (by rw [upd_ne ha]; exact h)) ?_⟩
    cases g : keep nm with
    | false => exact skip g _ (Same.refl _)
    | true =>
      have gv : ((wipe σ [c]).set c (some (V.str nm)))[c]? = some (some (V.str nm)) := by
        rw [List.getElem?_set_self (by rw [wipe_length]; exact hc)]
      exact ⟨_, gv, fin g _ _ (Same.refl _) rfl⟩
  · intro ys H1 s1 eD pz
    have ez := paired_vals (fun nm : Str => V.str nm) (H := H1) pz
    subst ez
    have ev := s1 _ _ fz
    refine ⟨ev, ?_⟩
    refine k D _ hD0 (fun a o h => ?_) (by rw [upd_ne vD.symm]; exact eD)
    by_cases ha : a = v
    · subst ha
      rw [upd_same, ← hv, h]
    · rw [upd_ne ha]
      exact s1 _ _ (by rw [upd_ne ha]; exact h)
end Ask

set_option Elab.async false
set_option linter.all false
set_option maxRecDepth 100000
set_option maxHeartbeats 4000000
namespace Ask
open PySem L2
open PyProof.Rows
def top (i : Nat) : Stmt := PySem.Challenge.pw_askranges_k76_whole_orders_and_all_value.main.body.getD i (.Pass ⟨0, 0, 0, 0⟩)
abbrev s_assignment : Stmt := top 10
theorem sc_assignment : FnScope ["pool", "order", "found", "lowest", "name", "item"] ["pool", "order"] (defScope s_assignment) := ⟨rfl, rfl, rfl, by decide +kernel, rfl, by decide +kernel, by decide +kernel⟩
abbrev s_may_precede : Stmt := top 11
theorem sc_may_precede : FnScope ["pool", "first", "second", "one", "two"] ["pool", "first", "second"] (defScope s_may_precede) := ⟨rfl, rfl, rfl, by decide +kernel, rfl, by decide +kernel, by decide +kernel⟩
abbrev s__check_order : Stmt := top 12
theorem sc__check_order : FnScope ["pool", "thing", "name"] ["pool", "thing"] (defScope s__check_order) := ⟨rfl, rfl, rfl, by decide +kernel, rfl, by decide +kernel, by decide +kernel⟩
abbrev s_is_whole : Stmt := top 15
theorem sc_is_whole : FnScope ["thing"] ["thing"] (defScope s_is_whole) := ⟨rfl, rfl, rfl, by decide +kernel, rfl, by decide +kernel, by decide +kernel⟩
abbrev s_Item___init__ : Stmt := inClass (top 19) 1
theorem sc_Item___init__ : FnScope ["self", "name", "least", "greatest", "price"] ["self", "name", "least", "greatest", "price"] (defScope s_Item___init__) := ⟨rfl, rfl, rfl, by decide +kernel, rfl, by decide +kernel, by decide +kernel⟩
abbrev s_Item_is_name : Stmt := inClass (top 19) 3
theorem sc_Item_is_name : FnScope ["thing", "sign"] ["thing"] (defScope s_Item_is_name) := ⟨rfl, rfl, rfl, by decide +kernel, rfl, by decide +kernel, by decide +kernel⟩
abbrev s_Item_name : Stmt := inClass (top 19) 4
theorem sc_Item_name : FnScope ["self"] ["self"] (defScope s_Item_name) := ⟨rfl, rfl, rfl, by decide +kernel, rfl, by decide +kernel, by decide +kernel⟩
abbrev s_Item_least : Stmt := inClass (top 19) 5
theorem sc_Item_least : FnScope ["self"] ["self"] (defScope s_Item_least) := ⟨rfl, rfl, rfl, by decide +kernel, rfl, by decide +kernel, by decide +kernel⟩
abbrev s_Item_greatest : Stmt := inClass (top 19) 6
theorem sc_Item_greatest : FnScope ["self"] ["self"] (defScope s_Item_greatest) := ⟨rfl, rfl, rfl, by decide +kernel, rfl, by decide +kernel, by decide +kernel⟩
abbrev s_Item_is_exact : Stmt := inClass (top 19) 8
theorem sc_Item_is_exact : FnScope ["self"] ["self"] (defScope s_Item_is_exact) := ⟨rfl, rfl, rfl, by decide +kernel, rfl, by decide +kernel, by decide +kernel⟩
abbrev s_Item_is_surely_before : Stmt := inClass (top 19) 11
theorem sc_Item_is_surely_before : FnScope ["self", "other"] ["self", "other"] (defScope s_Item_is_surely_before) := ⟨rfl, rfl, rfl, by decide +kernel, rfl, by decide +kernel, by decide +kernel⟩
abbrev s_Item___eq__ : Stmt := inClass (top 19) 13
theorem sc_Item___eq__ : FnScope ["self", "other"] ["self", "other"] (defScope s_Item___eq__) := ⟨rfl, rfl, rfl, by decide +kernel, rfl, by decide +kernel, by decide +kernel⟩
abbrev s_Pool___init__ : Stmt := inClass (top 21) 0
theorem sc_Pool___init__ : FnScope ["self", "items", "found", "item", "name"] ["self", "items"] (defScope s_Pool___init__) := ⟨rfl, rfl, rfl, by decide +kernel, rfl, by decide +kernel, by decide +kernel⟩
abbrev s_Pool_read : Stmt := inClass (top 21) 1
theorem sc_Pool_read : FnScope ["cls", "text", "lines", "items", "at", "line", "item"] ["cls", "text"] (defScope s_Pool_read) := ⟨rfl, rfl, rfl, by decide +kernel, rfl, by decide +kernel, by decide +kernel⟩
abbrev s_Pool_names : Stmt := inClass (top 21) 2
theorem sc_Pool_names : FnScope ["self"] ["self"] (defScope s_Pool_names) := ⟨rfl, rfl, rfl, by decide +kernel, rfl, by decide +kernel, by decide +kernel⟩
abbrev s_Pool_item : Stmt := inClass (top 21) 4
theorem sc_Pool_item : FnScope ["self", "name"] ["self", "name"] (defScope s_Pool_item) := ⟨rfl, rfl, rfl, by decide +kernel, rfl, by decide +kernel, by decide +kernel⟩
abbrev s_Pool_with_items : Stmt := inClass (top 21) 7
theorem sc_Pool_with_items : FnScope ["self", "items", "found", "item", "changed"] ["self", "items"] (defScope s_Pool_with_items) := ⟨rfl, rfl, rfl, by decide +kernel, rfl, by decide +kernel, by decide +kernel⟩
abbrev s_Pool___eq__ : Stmt := inClass (top 21) 12
theorem sc_Pool___eq__ : FnScope ["self", "other"] ["self", "other"] (defScope s_Pool___eq__) := ⟨rfl, rfl, rfl, by decide +kernel, rfl, by decide +kernel, by decide +kernel⟩
abbrev s__check_items : Stmt := top 22
theorem sc__check_items : FnScope ["things", "thing"] ["things"] (defScope s__check_items) := ⟨rfl, rfl, rfl, by decide +kernel, rfl, by decide +kernel, by decide +kernel⟩
abbrev s__law_pen : Stmt := top 26
theorem sc__law_pen : FnScope ["script"] ["script"] (defScope s__law_pen) := ⟨rfl, rfl, rfl, by decide +kernel, rfl, by decide +kernel, by decide +kernel⟩
abbrev s__law_next : Stmt := top 27
theorem sc__law_next : FnScope ["pen", "index", "cell", "low", "mid", "top"] ["pen"] (defScope s__law_next) := ⟨rfl, rfl, rfl, by decide +kernel, rfl, by decide +kernel, by decide +kernel⟩
abbrev s__law_draw : Stmt := top 28
theorem sc__law_draw : FnScope ["pen", "below", "digit"] ["pen", "below"] (defScope s__law_draw) := ⟨rfl, rfl, rfl, by decide +kernel, rfl, by decide +kernel, by decide +kernel⟩
abbrev s__law_made : Stmt := top 29
theorem sc__law_made : FnScope ["rows", "found", "row"] ["rows"] (defScope s__law_made) := ⟨rfl, rfl, rfl, by decide +kernel, rfl, by decide +kernel, by decide +kernel⟩
abbrev s__law_all_values : Stmt := top 30
theorem sc__law_all_values : FnScope ["rows", "found", "row", "longer", "some", "worth"] ["rows"] (defScope s__law_all_values) := ⟨rfl, rfl, rfl, by decide +kernel, rfl, by decide +kernel, by decide +kernel⟩
abbrev s__law_small : Stmt := top 31
theorem sc__law_small : FnScope ["pen", "found", "nym", "spot", "size"] ["pen"] (defScope s__law_small) := ⟨rfl, rfl, rfl, by decide +kernel, rfl, by decide +kernel, by decide +kernel⟩
abbrev s__law_orders : Stmt := top 32
theorem sc__law_orders : FnScope ["some", "found", "one", "longer", "order", "spot"] ["some"] (defScope s__law_orders) := ⟨rfl, rfl, rfl, by decide +kernel, rfl, by decide +kernel, by decide +kernel⟩
abbrev s__law_climbs : Stmt := top 33
theorem sc__law_climbs : FnScope ["order", "known", "worths", "one"] ["order", "known"] (defScope s__law_climbs) := ⟨rfl, rfl, rfl, by decide +kernel, rfl, by decide +kernel, by decide +kernel⟩
abbrev s_law : Stmt := top 34
theorem sc_law : FnScope ["script", "pen", "turn", "rows", "made", "every", "good", "order", "row", "fitting", "known", "found", "one", "two", "due"] ["script"] (defScope s_law) := ⟨rfl, rfl, rfl, by decide +kernel, rfl, by decide +kernel, by decide +kernel⟩
structure Ad where
  f_assignment : Addr
  d_assignment : FuncData
  f_may_precede : Addr
  d_may_precede : FuncData
  f__check_order : Addr
  d__check_order : FuncData
  f_is_whole : Addr
  d_is_whole : FuncData
  c_Item : Addr
  f_Item___init__ : Addr
  d_Item___init__ : FuncData
  f_Item_is_name : Addr
  d_Item_is_name : FuncData
  p_Item_is_name : Addr
  f_Item_name : Addr
  d_Item_name : FuncData
  p_Item_name : Addr
  f_Item_least : Addr
  d_Item_least : FuncData
  p_Item_least : Addr
  f_Item_greatest : Addr
  d_Item_greatest : FuncData
  p_Item_greatest : Addr
  f_Item_is_exact : Addr
  d_Item_is_exact : FuncData
  p_Item_is_exact : Addr
  f_Item_is_surely_before : Addr
  d_Item_is_surely_before : FuncData
  f_Item___eq__ : Addr
  d_Item___eq__ : FuncData
  c_Pool : Addr
  f_Pool___init__ : Addr
  d_Pool___init__ : FuncData
  f_Pool_read : Addr
  d_Pool_read : FuncData
  p_Pool_read : Addr
  f_Pool_names : Addr
  d_Pool_names : FuncData
  p_Pool_names : Addr
  f_Pool_item : Addr
  d_Pool_item : FuncData
  f_Pool_with_items : Addr
  d_Pool_with_items : FuncData
  f_Pool___eq__ : Addr
  d_Pool___eq__ : FuncData
  f__check_items : Addr
  d__check_items : FuncData
  f__law_pen : Addr
  d__law_pen : FuncData
  f__law_next : Addr
  d__law_next : FuncData
  f__law_draw : Addr
  d__law_draw : FuncData
  f__law_made : Addr
  d__law_made : FuncData
  f__law_all_values : Addr
  d__law_all_values : FuncData
  f__law_small : Addr
  d__law_small : FuncData
  f__law_orders : Addr
  d__law_orders : FuncData
  f__law_climbs : Addr
  d__law_climbs : FuncData
  f_law : Addr
  d_law : FuncData
structure Txt (K : PySem.W.Frag) (mg : Str → Option Value) (a : Ad) : Prop where
  F_assignment : Fun K "assignment" "assignment" s_assignment a.f_assignment a.d_assignment
  g_assignment : mg "assignment" = some (.ref a.f_assignment)
  F_may_precede : Fun K "may_precede" "may_precede" s_may_precede a.f_may_precede a.d_may_precede
  g_may_precede : mg "may_precede" = some (.ref a.f_may_precede)
  F__check_order : Fun K "_check_order" "_check_order" s__check_order a.f__check_order a.d__check_order
  g__check_order : mg "_check_order" = some (.ref a.f__check_order)
  F_is_whole : Fun K "is_whole" "is_whole" s_is_whole a.f_is_whole a.d_is_whole
  g_is_whole : mg "is_whole" = some (.ref a.f_is_whole)
  g_Item : mg "Item" = some (.ref a.c_Item)
  cl_Item : Cls K a.c_Item
  rd_Item : ClX.CRead K a.c_Item (.type "type")
  co_Item_MOST : ∃ u, Con K a.c_Item "MOST" (.int 999) u
  cv_Item_MOST : ∃ u, ClX.CVal K a.c_Item (.type "type") "MOST" (.int 999) u
  mk_Item : Mk K a.c_Item a.f_Item___init__
  F_Item___init__ : FunD K "__init__" "Item.__init__" (defArgs s_Item___init__) (defBody s_Item___init__) (defScope s_Item___init__) [] [("price", V.int 1)] a.f_Item___init__ a.d_Item___init__
  F_Item_is_name : Fun K "is_name" "Item.is_name" s_Item_is_name a.f_Item_is_name a.d_Item_is_name
  m_Item_is_name : SMet K a.c_Item (.type "type") "is_name" a.p_Item_is_name a.f_Item_is_name
  F_Item_name : Fun K "name" "Item.name" s_Item_name a.f_Item_name a.d_Item_name
  m_Item_name : PropOf K a.c_Item "name" a.p_Item_name a.f_Item_name
  F_Item_least : Fun K "least" "Item.least" s_Item_least a.f_Item_least a.d_Item_least
  m_Item_least : PropOf K a.c_Item "least" a.p_Item_least a.f_Item_least
  F_Item_greatest : Fun K "greatest" "Item.greatest" s_Item_greatest a.f_Item_greatest a.d_Item_greatest
  m_Item_greatest : PropOf K a.c_Item "greatest" a.p_Item_greatest a.f_Item_greatest
  F_Item_is_exact : Fun K "is_exact" "Item.is_exact" s_Item_is_exact a.f_Item_is_exact a.d_Item_is_exact
  m_Item_is_exact : PropOf K a.c_Item "is_exact" a.p_Item_is_exact a.f_Item_is_exact
  F_Item_is_surely_before : Fun K "is_surely_before" "Item.is_surely_before" s_Item_is_surely_before a.f_Item_is_surely_before a.d_Item_is_surely_before
  m_Item_is_surely_before : Meth K a.c_Item "is_surely_before" a.f_Item_is_surely_before
  F_Item___eq__ : Fun K "__eq__" "Item.__eq__" s_Item___eq__ a.f_Item___eq__ a.d_Item___eq__
  m_Item___eq__ : Meth K a.c_Item "__eq__" a.f_Item___eq__
  eq_Item : EqCls K a.c_Item a.f_Item___eq__
  n_Item__name : NoAttr K a.c_Item "_name"
  n_Item__least : NoAttr K a.c_Item "_least"
  n_Item__greatest : NoAttr K a.c_Item "_greatest"
  n_Item__price : NoAttr K a.c_Item "_price"
  ty_Item : InsTy K a.c_Item
  kd_Item : ∀ t ∈ kinds, PySem.W.notFirst K a.c_Item (.type t) = true
  g_Pool : mg "Pool" = some (.ref a.c_Pool)
  cl_Pool : Cls K a.c_Pool
  rd_Pool : ClX.CRead K a.c_Pool (.type "type")
  mk_Pool : Mk K a.c_Pool a.f_Pool___init__
  F_Pool___init__ : Fun K "__init__" "Pool.__init__" s_Pool___init__ a.f_Pool___init__ a.d_Pool___init__
  F_Pool_read : Fun K "read" "Pool.read" s_Pool_read a.f_Pool_read a.d_Pool_read
  m_Pool_read : ClX.CMet K a.c_Pool (.type "type") "read" a.p_Pool_read a.f_Pool_read
  i_Pool_read : ClX.CInst K a.c_Pool "read" a.p_Pool_read a.f_Pool_read
  F_Pool_names : Fun K "names" "Pool.names" s_Pool_names a.f_Pool_names a.d_Pool_names
  m_Pool_names : PropOf K a.c_Pool "names" a.p_Pool_names a.f_Pool_names
  F_Pool_item : Fun K "item" "Pool.item" s_Pool_item a.f_Pool_item a.d_Pool_item
  m_Pool_item : Meth K a.c_Pool "item" a.f_Pool_item
  F_Pool_with_items : Fun K "with_items" "Pool.with_items" s_Pool_with_items a.f_Pool_with_items a.d_Pool_with_items
  m_Pool_with_items : Meth K a.c_Pool "with_items" a.f_Pool_with_items
  bm_Pool_with_items : BMeth K a.c_Pool "with_items" a.f_Pool_with_items
  F_Pool___eq__ : Fun K "__eq__" "Pool.__eq__" s_Pool___eq__ a.f_Pool___eq__ a.d_Pool___eq__
  m_Pool___eq__ : Meth K a.c_Pool "__eq__" a.f_Pool___eq__
  eq_Pool : EqCls K a.c_Pool a.f_Pool___eq__
  n_Pool__by_name : NoAttr K a.c_Pool "_by_name"
  ty_Pool : InsTy K a.c_Pool
  kd_Pool : ∀ t ∈ kinds, PySem.W.notFirst K a.c_Pool (.type t) = true
  F__check_items : Fun K "_check_items" "_check_items" s__check_items a.f__check_items a.d__check_items
  g__check_items : mg "_check_items" = some (.ref a.f__check_items)
  F__law_pen : Fun K "_law_pen" "_law_pen" s__law_pen a.f__law_pen a.d__law_pen
  g__law_pen : mg "_law_pen" = some (.ref a.f__law_pen)
  F__law_next : Fun K "_law_next" "_law_next" s__law_next a.f__law_next a.d__law_next
  g__law_next : mg "_law_next" = some (.ref a.f__law_next)
  F__law_draw : Fun K "_law_draw" "_law_draw" s__law_draw a.f__law_draw a.d__law_draw
  g__law_draw : mg "_law_draw" = some (.ref a.f__law_draw)
  F__law_made : Fun K "_law_made" "_law_made" s__law_made a.f__law_made a.d__law_made
  g__law_made : mg "_law_made" = some (.ref a.f__law_made)
  F__law_all_values : Fun K "_law_all_values" "_law_all_values" s__law_all_values a.f__law_all_values a.d__law_all_values
  g__law_all_values : mg "_law_all_values" = some (.ref a.f__law_all_values)
  F__law_small : Fun K "_law_small" "_law_small" s__law_small a.f__law_small a.d__law_small
  g__law_small : mg "_law_small" = some (.ref a.f__law_small)
  F__law_orders : Fun K "_law_orders" "_law_orders" s__law_orders a.f__law_orders a.d__law_orders
  g__law_orders : mg "_law_orders" = some (.ref a.f__law_orders)
  F__law_climbs : Fun K "_law_climbs" "_law_climbs" s__law_climbs a.f__law_climbs a.d__law_climbs
  g__law_climbs : mg "_law_climbs" = some (.ref a.f__law_climbs)
  F_law : Fun K "law" "law" s_law a.f_law a.d_law
  g_law : mg "law" = some (.ref a.f_law)
  g_LONGEST_NAME : ∃ u, mg "LONGEST_NAME" = some u ∧ RelV (.int 8) u
  b_len : mg "len" = none
  b_list : mg "list" = none
  b_isinstance : mg "isinstance" = none
  b_str : mg "str" = none
  b_int : mg "int" = none
  b_bool : mg "bool" = none
  b_range : mg "range" = none
  b_repr : mg "repr" = none
  b_all : mg "all" = none
  b_dict : mg "dict" = none
  b_tuple : mg "tuple" = none
  b_sorted : mg "sorted" = none
  b_max : mg "max" = none
  b_enumerate : mg "enumerate" = none
  b_any : mg "any" = none
theorem Txt.b_assignment {K : PySem.W.Frag} {mg : Str → Option Value} {a : Ad} (T : Txt K mg a) : Binds K a.d_assignment ["pool", "order"] [] := T.F_assignment.binds fun _ _ _ _ _ _ us hl => match us, hl with | [_, _], _ => rfl
theorem Txt.b_may_precede {K : PySem.W.Frag} {mg : Str → Option Value} {a : Ad} (T : Txt K mg a) : Binds K a.d_may_precede ["pool", "first", "second"] [] := T.F_may_precede.binds fun _ _ _ _ _ _ us hl => match us, hl with | [_, _, _], _ => rfl
theorem Txt.b__check_order {K : PySem.W.Frag} {mg : Str → Option Value} {a : Ad} (T : Txt K mg a) : Binds K a.d__check_order ["pool", "thing"] [] := T.F__check_order.binds fun _ _ _ _ _ _ us hl => match us, hl with | [_, _], _ => rfl
theorem Txt.b_is_whole {K : PySem.W.Frag} {mg : Str → Option Value} {a : Ad} (T : Txt K mg a) : Binds K a.d_is_whole ["thing"] [] := T.F_is_whole.binds fun _ _ _ _ _ _ us hl => match us, hl with | [_], _ => rfl
theorem Txt.b_Item_is_name {K : PySem.W.Frag} {mg : Str → Option Value} {a : Ad} (T : Txt K mg a) : Binds K a.d_Item_is_name ["thing"] [] := T.F_Item_is_name.binds fun _ _ _ _ _ _ us hl => match us, hl with | [_], _ => rfl
theorem Txt.b_Item_name {K : PySem.W.Frag} {mg : Str → Option Value} {a : Ad} (T : Txt K mg a) : Binds K a.d_Item_name ["self"] [] := T.F_Item_name.binds fun _ _ _ _ _ _ us hl => match us, hl with | [_], _ => rfl
theorem Txt.b_Item_least {K : PySem.W.Frag} {mg : Str → Option Value} {a : Ad} (T : Txt K mg a) : Binds K a.d_Item_least ["self"] [] := T.F_Item_least.binds fun _ _ _ _ _ _ us hl => match us, hl with | [_], _ => rfl
theorem Txt.b_Item_greatest {K : PySem.W.Frag} {mg : Str → Option Value} {a : Ad} (T : Txt K mg a) : Binds K a.d_Item_greatest ["self"] [] := T.F_Item_greatest.binds fun _ _ _ _ _ _ us hl => match us, hl with | [_], _ => rfl
theorem Txt.b_Item_is_exact {K : PySem.W.Frag} {mg : Str → Option Value} {a : Ad} (T : Txt K mg a) : Binds K a.d_Item_is_exact ["self"] [] := T.F_Item_is_exact.binds fun _ _ _ _ _ _ us hl => match us, hl with | [_], _ => rfl
theorem Txt.b_Item_is_surely_before {K : PySem.W.Frag} {mg : Str → Option Value} {a : Ad} (T : Txt K mg a) : Binds K a.d_Item_is_surely_before ["self", "other"] [] := T.F_Item_is_surely_before.binds fun _ _ _ _ _ _ us hl => match us, hl with | [_, _], _ => rfl
theorem Txt.b_Item___eq__ {K : PySem.W.Frag} {mg : Str → Option Value} {a : Ad} (T : Txt K mg a) : Binds K a.d_Item___eq__ ["self", "other"] [] := T.F_Item___eq__.binds fun _ _ _ _ _ _ us hl => match us, hl with | [_, _], _ => rfl
theorem Txt.b_Pool_read {K : PySem.W.Frag} {mg : Str → Option Value} {a : Ad} (T : Txt K mg a) : Binds K a.d_Pool_read ["cls", "text"] [] := T.F_Pool_read.binds fun _ _ _ _ _ _ us hl => match us, hl with | [_, _], _ => rfl
theorem Txt.b_Pool_names {K : PySem.W.Frag} {mg : Str → Option Value} {a : Ad} (T : Txt K mg a) : Binds K a.d_Pool_names ["self"] [] := T.F_Pool_names.binds fun _ _ _ _ _ _ us hl => match us, hl with | [_], _ => rfl
theorem Txt.b_Pool_item {K : PySem.W.Frag} {mg : Str → Option Value} {a : Ad} (T : Txt K mg a) : Binds K a.d_Pool_item ["self", "name"] [] := T.F_Pool_item.binds fun _ _ _ _ _ _ us hl => match us, hl with | [_, _], _ => rfl
theorem Txt.b_Pool___eq__ {K : PySem.W.Frag} {mg : Str → Option Value} {a : Ad} (T : Txt K mg a) : Binds K a.d_Pool___eq__ ["self", "other"] [] := T.F_Pool___eq__.binds fun _ _ _ _ _ _ us hl => match us, hl with | [_, _], _ => rfl
theorem Txt.b__check_items {K : PySem.W.Frag} {mg : Str → Option Value} {a : Ad} (T : Txt K mg a) : Binds K a.d__check_items ["things"] [] := T.F__check_items.binds fun _ _ _ _ _ _ us hl => match us, hl with | [_], _ => rfl
theorem Txt.b__law_pen {K : PySem.W.Frag} {mg : Str → Option Value} {a : Ad} (T : Txt K mg a) : Binds K a.d__law_pen ["script"] [] := T.F__law_pen.binds fun _ _ _ _ _ _ us hl => match us, hl with | [_], _ => rfl
theorem Txt.b__law_next {K : PySem.W.Frag} {mg : Str → Option Value} {a : Ad} (T : Txt K mg a) : Binds K a.d__law_next ["pen"] [] := T.F__law_next.binds fun _ _ _ _ _ _ us hl => match us, hl with | [_], _ => rfl
theorem Txt.b__law_draw {K : PySem.W.Frag} {mg : Str → Option Value} {a : Ad} (T : Txt K mg a) : Binds K a.d__law_draw ["pen", "below"] [] := T.F__law_draw.binds fun _ _ _ _ _ _ us hl => match us, hl with | [_, _], _ => rfl
theorem Txt.b__law_made {K : PySem.W.Frag} {mg : Str → Option Value} {a : Ad} (T : Txt K mg a) : Binds K a.d__law_made ["rows"] [] := T.F__law_made.binds fun _ _ _ _ _ _ us hl => match us, hl with | [_], _ => rfl
theorem Txt.b__law_all_values {K : PySem.W.Frag} {mg : Str → Option Value} {a : Ad} (T : Txt K mg a) : Binds K a.d__law_all_values ["rows"] [] := T.F__law_all_values.binds fun _ _ _ _ _ _ us hl => match us, hl with | [_], _ => rfl
theorem Txt.b__law_small {K : PySem.W.Frag} {mg : Str → Option Value} {a : Ad} (T : Txt K mg a) : Binds K a.d__law_small ["pen"] [] := T.F__law_small.binds fun _ _ _ _ _ _ us hl => match us, hl with | [_], _ => rfl
theorem Txt.b__law_orders {K : PySem.W.Frag} {mg : Str → Option Value} {a : Ad} (T : Txt K mg a) : Binds K a.d__law_orders ["some"] [] := T.F__law_orders.binds fun _ _ _ _ _ _ us hl => match us, hl with | [_], _ => rfl
theorem Txt.b__law_climbs {K : PySem.W.Frag} {mg : Str → Option Value} {a : Ad} (T : Txt K mg a) : Binds K a.d__law_climbs ["order", "known"] [] := T.F__law_climbs.binds fun _ _ _ _ _ _ us hl => match us, hl with | [_, _], _ => rfl
theorem Txt.b_law {K : PySem.W.Frag} {mg : Str → Option Value} {a : Ad} (T : Txt K mg a) : Binds K a.d_law ["script"] [] := T.F_law.binds fun _ _ _ _ _ _ us hl => match us, hl with | [_], _ => rfl
theorem txt_get {K : PySem.W.Frag} {h : Heap} {mg : Str → Option Value} (X : K.In h) (G : h.Ns mainGlobals mg)
    {f1 : Addr} {oc2 : Value} {dc3 : Value} {pm4 : Value} {cd5 : Value} {ct6 : Value} {kV7 : Value} {od8 : Option Addr}
    {an9 : Option Addr} {sl10 : Array (Option Value)} {f15 : Addr} {oc16 : Value} {dc17 : Value} {pm18 : Value} {cd19 : Value} {ct20 : Value}
    {kV21 : Value} {od22 : Option Addr} {an23 : Option Addr} {sl24 : Array (Option Value)} {f29 : Addr} {oc30 : Value} {dc31 : Value} {pm32 : Value}
    {cd33 : Value} {ct34 : Value} {kV35 : Value} {od36 : Option Addr} {an37 : Option Addr} {sl38 : Array (Option Value)} {f43 : Addr} {oc44 : Value}
    {dc45 : Value} {pm46 : Value} {cd47 : Value} {ct48 : Value} {kV49 : Value} {od50 : Option Addr} {an51 : Option Addr} {sl52 : Array (Option Value)}
    {C57 : Addr} {t65 : Tok} {D69 : Addr} {f70 : Addr} {oc71 : Value} {dc72 : Value} {pm73 : Value} {cd74 : Value}
    {ct75 : Value} {od76 : Option Addr} {an77 : Option Addr} {sl78 : Array (Option Value)} {t86 : Tok} {f88 : Addr} {oc89 : Value} {dc90 : Value}
    {pm91 : Value} {cd92 : Value} {ct93 : Value} {kV94 : Value} {od95 : Option Addr} {an96 : Option Addr} {sl97 : Array (Option Value)} {p98 : Addr}
    {r99 : List Value} {f105 : Addr} {oc106 : Value} {dc107 : Value} {pm108 : Value} {cd109 : Value} {ct110 : Value} {kV111 : Value}
    {od112 : Option Addr} {an113 : Option Addr} {sl114 : Array (Option Value)} {p115 : Addr} {r116 : List Value} {f124 : Addr} {oc125 : Value} {dc126 : Value}
    {pm127 : Value} {cd128 : Value} {ct129 : Value} {kV130 : Value} {od131 : Option Addr} {an132 : Option Addr} {sl133 : Array (Option Value)} {p134 : Addr}
    {r135 : List Value} {f143 : Addr} {oc144 : Value} {dc145 : Value} {pm146 : Value} {cd147 : Value} {ct148 : Value} {kV149 : Value}
    {od150 : Option Addr} {an151 : Option Addr} {sl152 : Array (Option Value)} {p153 : Addr} {r154 : List Value} {f162 : Addr} {oc163 : Value} {dc164 : Value}
    {pm165 : Value} {cd166 : Value} {ct167 : Value} {kV168 : Value} {od169 : Option Addr} {an170 : Option Addr} {sl171 : Array (Option Value)} {p172 : Addr}
    {r173 : List Value} {f181 : Addr} {oc182 : Value} {dc183 : Value} {pm184 : Value} {cd185 : Value} {ct186 : Value} {kV187 : Value}
    {od188 : Option Addr} {an189 : Option Addr} {sl190 : Array (Option Value)} {f196 : Addr} {oc197 : Value} {dc198 : Value} {pm199 : Value} {cd200 : Value}
    {ct201 : Value} {kV202 : Value} {od203 : Option Addr} {an204 : Option Addr} {sl205 : Array (Option Value)} {N211 : Addr} {e212 : Str} {e213 : Str}
    {e214 : List Value} {e215 : Bool} {e216 : List Str} {e217 : List Value} {e218 : Bool} {e219 : Option Bool} {e220 : Option Addr} {e221 : Option Value}
    {e222 : Option Value} {e223 : Option Value} {e224 : Option Value} {e225 : Option Value} {e226 : String} {C241 : Addr} {f249 : Addr} {oc250 : Value}
    {dc251 : Value} {pm252 : Value} {cd253 : Value} {ct254 : Value} {kV255 : Value} {od256 : Option Addr} {an257 : Option Addr} {sl258 : Array (Option Value)}
    {f266 : Addr} {oc267 : Value} {dc268 : Value} {pm269 : Value} {cd270 : Value} {ct271 : Value} {kV272 : Value} {od273 : Option Addr}
    {an274 : Option Addr} {sl275 : Array (Option Value)} {p276 : Addr} {r277 : List Value} {f290 : Addr} {oc291 : Value} {dc292 : Value} {pm293 : Value}
    {cd294 : Value} {ct295 : Value} {kV296 : Value} {od297 : Option Addr} {an298 : Option Addr} {sl299 : Array (Option Value)} {p300 : Addr} {r301 : List Value}
    {f309 : Addr} {oc310 : Value} {dc311 : Value} {pm312 : Value} {cd313 : Value} {ct314 : Value} {kV315 : Value} {od316 : Option Addr}
    {an317 : Option Addr} {sl318 : Array (Option Value)} {f324 : Addr} {oc325 : Value} {dc326 : Value} {pm327 : Value} {cd328 : Value} {ct329 : Value}
    {kV330 : Value} {od331 : Option Addr} {an332 : Option Addr} {sl333 : Array (Option Value)} {f342 : Addr} {oc343 : Value} {dc344 : Value} {pm345 : Value}
    {cd346 : Value} {ct347 : Value} {kV348 : Value} {od349 : Option Addr} {an350 : Option Addr} {sl351 : Array (Option Value)} {N357 : Addr} {e358 : Str}
    {e359 : Str} {e360 : List Value} {e361 : Bool} {e362 : List Str} {e363 : List Value} {e364 : Bool} {e365 : Option Bool} {e366 : Option Addr}
    {e367 : Option Value} {e368 : Option Value} {e369 : Option Value} {e370 : Option Value} {e371 : Option Value} {e372 : String} {f384 : Addr} {oc385 : Value}
    {dc386 : Value} {pm387 : Value} {cd388 : Value} {ct389 : Value} {kV390 : Value} {od391 : Option Addr} {an392 : Option Addr} {sl393 : Array (Option Value)}
    {f398 : Addr} {oc399 : Value} {dc400 : Value} {pm401 : Value} {cd402 : Value} {ct403 : Value} {kV404 : Value} {od405 : Option Addr}
    {an406 : Option Addr} {sl407 : Array (Option Value)} {f412 : Addr} {oc413 : Value} {dc414 : Value} {pm415 : Value} {cd416 : Value} {ct417 : Value}
    {kV418 : Value} {od419 : Option Addr} {an420 : Option Addr} {sl421 : Array (Option Value)} {f426 : Addr} {oc427 : Value} {dc428 : Value} {pm429 : Value}
    {cd430 : Value} {ct431 : Value} {kV432 : Value} {od433 : Option Addr} {an434 : Option Addr} {sl435 : Array (Option Value)} {f440 : Addr} {oc441 : Value}
    {dc442 : Value} {pm443 : Value} {cd444 : Value} {ct445 : Value} {kV446 : Value} {od447 : Option Addr} {an448 : Option Addr} {sl449 : Array (Option Value)}
    {f454 : Addr} {oc455 : Value} {dc456 : Value} {pm457 : Value} {cd458 : Value} {ct459 : Value} {kV460 : Value} {od461 : Option Addr}
    {an462 : Option Addr} {sl463 : Array (Option Value)} {f468 : Addr} {oc469 : Value} {dc470 : Value} {pm471 : Value} {cd472 : Value} {ct473 : Value}
    {kV474 : Value} {od475 : Option Addr} {an476 : Option Addr} {sl477 : Array (Option Value)} {f482 : Addr} {oc483 : Value} {dc484 : Value} {pm485 : Value}
    {cd486 : Value} {ct487 : Value} {kV488 : Value} {od489 : Option Addr} {an490 : Option Addr} {sl491 : Array (Option Value)} {f496 : Addr} {oc497 : Value}
    {dc498 : Value} {pm499 : Value} {cd500 : Value} {ct501 : Value} {kV502 : Value} {od503 : Option Addr} {an504 : Option Addr} {sl505 : Array (Option Value)}
    {f510 : Addr} {oc511 : Value} {dc512 : Value} {pm513 : Value} {cd514 : Value} {ct515 : Value} {kV516 : Value} {od517 : Option Addr}
    {an518 : Option Addr} {sl519 : Array (Option Value)} {t524 : Tok}
    (a11 : PySem.W.nsIn K mainGlobals "assignment" = some (some (.ref f1)))
    (l12 : K.lookup f1 = some ⟨oc2, od8, .func (PySem.W.fnOf "assignment" "assignment" (defArgs s_assignment) (defBody s_assignment) (defScope s_assignment) .none kV7 dc3 pm4 an9 cd5 ct6), sl10⟩)
    (c13 : PySem.W.codeIn K cd5 "assignment" = true)
    (k14 : PySem.W.keepIn K (.ref f1) = true)
    (a25 : PySem.W.nsIn K mainGlobals "may_precede" = some (some (.ref f15)))
    (l26 : K.lookup f15 = some ⟨oc16, od22, .func (PySem.W.fnOf "may_precede" "may_precede" (defArgs s_may_precede) (defBody s_may_precede) (defScope s_may_precede) .none kV21 dc17 pm18 an23 cd19 ct20), sl24⟩)
    (c27 : PySem.W.codeIn K cd19 "may_precede" = true)
    (k28 : PySem.W.keepIn K (.ref f15) = true)
    (a39 : PySem.W.nsIn K mainGlobals "_check_order" = some (some (.ref f29)))
    (l40 : K.lookup f29 = some ⟨oc30, od36, .func (PySem.W.fnOf "_check_order" "_check_order" (defArgs s__check_order) (defBody s__check_order) (defScope s__check_order) .none kV35 dc31 pm32 an37 cd33 ct34), sl38⟩)
    (c41 : PySem.W.codeIn K cd33 "_check_order" = true)
    (k42 : PySem.W.keepIn K (.ref f29) = true)
    (a53 : PySem.W.nsIn K mainGlobals "is_whole" = some (some (.ref f43)))
    (l54 : K.lookup f43 = some ⟨oc44, od50, .func (PySem.W.fnOf "is_whole" "is_whole" (defArgs s_is_whole) (defBody s_is_whole) (defScope s_is_whole) .none kV49 dc45 pm46 an51 cd47 ct48), sl52⟩)
    (c55 : PySem.W.codeIn K cd47 "is_whole" = true)
    (k56 : PySem.W.keepIn K (.ref f43) = true)
    (a58 : PySem.W.nsIn K mainGlobals "Item" = some (some (.ref C57)))
    (pg59 : PySem.W.plainGet K C57 Str.empty = true)
    (hd60 : PySem.W.hasDictIn K C57 = true)
    (po61 : PySem.W.plainOver K C57 = true)
    (sa62 : PySem.W.findIn K (.ref C57) "__setattr__" = some (some (.builtin "object.__setattr__")))
    (rd63 : PySem.W.readsIn K C57 (.type "type") = true)
    (ga64 : PySem.W.specialIn K (.ref C57) "__getattribute__" = some (some (.builtin "type.__getattribute__")))
    (fa66 : PySem.W.findIn K (.ref C57) "MOST" = some (some (.int 999 t65)))
    (gt67 : PySem.W.specialIn K (.int 999 t65) "__get__" = some none)
    (cv68 : PySem.W.findCls K (.ref C57) (.type "type") "MOST" = some (.val (.int 999 t65)))
    (a79 : PySem.W.findIn K (.ref C57) "__init__" = some (some (.ref f70)))
    (i80 : PySem.W.isFn K (.ref f70) = true)
    (mk81 : PySem.W.makesIn K C57 = true)
    (kc82 : PySem.W.keepIn K (.ref C57) = true)
    (l83 : K.lookup f70 = some ⟨oc71, od76, .func (PySem.W.fnOf "__init__" "Item.__init__" (defArgs s_Item___init__) (defBody s_Item___init__) (defScope s_Item___init__) .none (.ref D69) dc72 pm73 an77 cd74 ct75), sl78⟩)
    (c84 : PySem.W.codeIn K cd74 "Item.__init__" = true)
    (k85 : PySem.W.keepIn K (.ref f70) = true)
    (q87 : PySem.W.nsIn K D69 "price" = some (some (.int 1 t86)))
    (a100 : PySem.W.findCls K (.ref C57) (.type "type") "is_name" = some (.get (.builtin "staticmethod.__get__") (.ref p98) .none (.ref C57)))
    (rc101 : PySem.W.recIn K p98 "staticmethod" = some (.ref f88 :: r99))
    (l102 : K.lookup f88 = some ⟨oc89, od95, .func (PySem.W.fnOf "is_name" "Item.is_name" (defArgs s_Item_is_name) (defBody s_Item_is_name) (defScope s_Item_is_name) .none kV94 dc90 pm91 an96 cd92 ct93), sl97⟩)
    (c103 : PySem.W.codeIn K cd92 "Item.is_name" = true)
    (k104 : PySem.W.keepIn K (.ref f88) = true)
    (a117 : PySem.W.findIn K (.ref C57) "name" = some (some (.ref p115)))
    (gt118 : PySem.W.specialIn K (.ref p115) "__get__" = some (some (.builtin "property.__get__")))
    (tk119 : PySem.W.takesIn K (.ref p115) = some true)
    (rc120 : PySem.W.recIn K p115 "property" = some (.ref f105 :: r116))
    (l121 : K.lookup f105 = some ⟨oc106, od112, .func (PySem.W.fnOf "name" "Item.name" (defArgs s_Item_name) (defBody s_Item_name) (defScope s_Item_name) .none kV111 dc107 pm108 an113 cd109 ct110), sl114⟩)
    (c122 : PySem.W.codeIn K cd109 "Item.name" = true)
    (k123 : PySem.W.keepIn K (.ref f105) = true)
    (a136 : PySem.W.findIn K (.ref C57) "least" = some (some (.ref p134)))
    (gt137 : PySem.W.specialIn K (.ref p134) "__get__" = some (some (.builtin "property.__get__")))
    (tk138 : PySem.W.takesIn K (.ref p134) = some true)
    (rc139 : PySem.W.recIn K p134 "property" = some (.ref f124 :: r135))
    (l140 : K.lookup f124 = some ⟨oc125, od131, .func (PySem.W.fnOf "least" "Item.least" (defArgs s_Item_least) (defBody s_Item_least) (defScope s_Item_least) .none kV130 dc126 pm127 an132 cd128 ct129), sl133⟩)
    (c141 : PySem.W.codeIn K cd128 "Item.least" = true)
    (k142 : PySem.W.keepIn K (.ref f124) = true)
    (a155 : PySem.W.findIn K (.ref C57) "greatest" = some (some (.ref p153)))
    (gt156 : PySem.W.specialIn K (.ref p153) "__get__" = some (some (.builtin "property.__get__")))
    (tk157 : PySem.W.takesIn K (.ref p153) = some true)
    (rc158 : PySem.W.recIn K p153 "property" = some (.ref f143 :: r154))
    (l159 : K.lookup f143 = some ⟨oc144, od150, .func (PySem.W.fnOf "greatest" "Item.greatest" (defArgs s_Item_greatest) (defBody s_Item_greatest) (defScope s_Item_greatest) .none kV149 dc145 pm146 an151 cd147 ct148), sl152⟩)
    (c160 : PySem.W.codeIn K cd147 "Item.greatest" = true)
    (k161 : PySem.W.keepIn K (.ref f143) = true)
    (a174 : PySem.W.findIn K (.ref C57) "is_exact" = some (some (.ref p172)))
    (gt175 : PySem.W.specialIn K (.ref p172) "__get__" = some (some (.builtin "property.__get__")))
    (tk176 : PySem.W.takesIn K (.ref p172) = some true)
    (rc177 : PySem.W.recIn K p172 "property" = some (.ref f162 :: r173))
    (l178 : K.lookup f162 = some ⟨oc163, od169, .func (PySem.W.fnOf "is_exact" "Item.is_exact" (defArgs s_Item_is_exact) (defBody s_Item_is_exact) (defScope s_Item_is_exact) .none kV168 dc164 pm165 an170 cd166 ct167), sl171⟩)
    (c179 : PySem.W.codeIn K cd166 "Item.is_exact" = true)
    (k180 : PySem.W.keepIn K (.ref f162) = true)
    (a191 : PySem.W.findIn K (.ref C57) "is_surely_before" = some (some (.ref f181)))
    (i192 : PySem.W.isFn K (.ref f181) = true)
    (l193 : K.lookup f181 = some ⟨oc182, od188, .func (PySem.W.fnOf "is_surely_before" "Item.is_surely_before" (defArgs s_Item_is_surely_before) (defBody s_Item_is_surely_before) (defScope s_Item_is_surely_before) .none kV187 dc183 pm184 an189 cd185 ct186), sl190⟩)
    (c194 : PySem.W.codeIn K cd185 "Item.is_surely_before" = true)
    (k195 : PySem.W.keepIn K (.ref f181) = true)
    (a206 : PySem.W.findIn K (.ref C57) "__eq__" = some (some (.ref f196)))
    (i207 : PySem.W.isFn K (.ref f196) = true)
    (l208 : K.lookup f196 = some ⟨oc197, od203, .func (PySem.W.fnOf "__eq__" "Item.__eq__" (defArgs s_Item___eq__) (defBody s_Item___eq__) (defScope s_Item___eq__) .none kV202 dc198 pm199 an204 cd200 ct201), sl205⟩)
    (c209 : PySem.W.codeIn K cd200 "Item.__eq__" = true)
    (k210 : PySem.W.keepIn K (.ref f196) = true)
    (lc227 : K.lookup C57 = some (excClassObj e212 e213 C57 N211 e214 [.type "object"] e215 e216 e217 e218 e219 e220 e221 e222 e223 e224 e225 e226))
    (no228 : PySem.W.nsOkIn K N211 = true)
    (ee229 : PySem.W.nsIn K N211 "__eq__" = some (some (.ref f196)))
    (en230 : PySem.W.nsIn K N211 "__ne__" = some none)
    (na231 : PySem.W.findIn K (.ref C57) "_name" = some none)
    (na232 : PySem.W.findIn K (.ref C57) "_least" = some none)
    (na233 : PySem.W.findIn K (.ref C57) "_greatest" = some none)
    (na234 : PySem.W.findIn K (.ref C57) "_price" = some none)
    (ha235 : PySem.W.findIn K (.ref C57) "__class__" = some (some (.builtin "object.__class__")))
    (hn236 : PySem.W.specialIn K (.builtin "object.__class__") "__get__" = some (some (.builtin "getset_descriptor.__get__")))
    (ht237 : PySem.W.takesIn K (.builtin "object.__class__") = some true)
    (hm238 : PySem.W.mroIn K C57 (.type "object") = some true)
    (kt239 : ∀ t ∈ kinds, PySem.W.kitOne K (.type t) (.ref C57) = some false)
    (kd240 : ∀ t ∈ kinds, PySem.W.notFirst K C57 (.type t) = true)
    (a242 : PySem.W.nsIn K mainGlobals "Pool" = some (some (.ref C241)))
    (pg243 : PySem.W.plainGet K C241 Str.empty = true)
    (hd244 : PySem.W.hasDictIn K C241 = true)
    (po245 : PySem.W.plainOver K C241 = true)
    (sa246 : PySem.W.findIn K (.ref C241) "__setattr__" = some (some (.builtin "object.__setattr__")))
    (rd247 : PySem.W.readsIn K C241 (.type "type") = true)
    (ga248 : PySem.W.specialIn K (.ref C241) "__getattribute__" = some (some (.builtin "type.__getattribute__")))
    (a259 : PySem.W.findIn K (.ref C241) "__init__" = some (some (.ref f249)))
    (i260 : PySem.W.isFn K (.ref f249) = true)
    (mk261 : PySem.W.makesIn K C241 = true)
    (kc262 : PySem.W.keepIn K (.ref C241) = true)
    (l263 : K.lookup f249 = some ⟨oc250, od256, .func (PySem.W.fnOf "__init__" "Pool.__init__" (defArgs s_Pool___init__) (defBody s_Pool___init__) (defScope s_Pool___init__) .none kV255 dc251 pm252 an257 cd253 ct254), sl258⟩)
    (c264 : PySem.W.codeIn K cd253 "Pool.__init__" = true)
    (k265 : PySem.W.keepIn K (.ref f249) = true)
    (a278 : PySem.W.findCls K (.ref C241) (.type "type") "read" = some (.get (.builtin "classmethod.__get__") (.ref p276) .none (.ref C241)))
    (rc279 : PySem.W.recIn K p276 "classmethod" = some (.ref f266 :: r277))
    (l280 : K.lookup f266 = some ⟨oc267, od273, .func (PySem.W.fnOf "read" "Pool.read" (defArgs s_Pool_read) (defBody s_Pool_read) (defScope s_Pool_read) .none kV272 dc268 pm269 an274 cd270 ct271), sl275⟩)
    (c281 : PySem.W.codeIn K cd270 "Pool.read" = true)
    (k282 : PySem.W.keepIn K (.ref f266) = true)
    (fi283 : PySem.W.fnIn K f266 = true)
    (pg284 : PySem.W.plainGet K C241 Str.empty = true)
    (ic285 : PySem.W.isClsIn K C241 = true)
    (a286 : PySem.W.findIn K (.ref C241) "read" = some (some (.ref p276)))
    (ty287 : PySem.W.typeIn K (.ref p276) = some (.type "classmethod"))
    (gt288 : PySem.W.specialIn K (.ref p276) "__get__" = some (some (.builtin "classmethod.__get__")))
    (tk289 : PySem.W.takesIn K (.ref p276) = some false)
    (a302 : PySem.W.findIn K (.ref C241) "names" = some (some (.ref p300)))
    (gt303 : PySem.W.specialIn K (.ref p300) "__get__" = some (some (.builtin "property.__get__")))
    (tk304 : PySem.W.takesIn K (.ref p300) = some true)
    (rc305 : PySem.W.recIn K p300 "property" = some (.ref f290 :: r301))
    (l306 : K.lookup f290 = some ⟨oc291, od297, .func (PySem.W.fnOf "names" "Pool.names" (defArgs s_Pool_names) (defBody s_Pool_names) (defScope s_Pool_names) .none kV296 dc292 pm293 an298 cd294 ct295), sl299⟩)
    (c307 : PySem.W.codeIn K cd294 "Pool.names" = true)
    (k308 : PySem.W.keepIn K (.ref f290) = true)
    (a319 : PySem.W.findIn K (.ref C241) "item" = some (some (.ref f309)))
    (i320 : PySem.W.isFn K (.ref f309) = true)
    (l321 : K.lookup f309 = some ⟨oc310, od316, .func (PySem.W.fnOf "item" "Pool.item" (defArgs s_Pool_item) (defBody s_Pool_item) (defScope s_Pool_item) .none kV315 dc311 pm312 an317 cd313 ct314), sl318⟩)
    (c322 : PySem.W.codeIn K cd313 "Pool.item" = true)
    (k323 : PySem.W.keepIn K (.ref f309) = true)
    (a334 : PySem.W.findIn K (.ref C241) "with_items" = some (some (.ref f324)))
    (i335 : PySem.W.isFn K (.ref f324) = true)
    (l336 : K.lookup f324 = some ⟨oc325, od331, .func (PySem.W.fnOf "with_items" "Pool.with_items" (defArgs s_Pool_with_items) (defBody s_Pool_with_items) (defScope s_Pool_with_items) .none kV330 dc326 pm327 an332 cd328 ct329), sl333⟩)
    (c337 : PySem.W.codeIn K cd328 "Pool.with_items" = true)
    (k338 : PySem.W.keepIn K (.ref f324) = true)
    (gf339 : PySem.W.specialIn K (.ref f324) "__get__" = some (some (.builtin "function.__get__")))
    (tk340 : PySem.W.takesIn K (.ref f324) = some false)
    (fi341 : PySem.W.fnIn K f324 = true)
    (a352 : PySem.W.findIn K (.ref C241) "__eq__" = some (some (.ref f342)))
    (i353 : PySem.W.isFn K (.ref f342) = true)
    (l354 : K.lookup f342 = some ⟨oc343, od349, .func (PySem.W.fnOf "__eq__" "Pool.__eq__" (defArgs s_Pool___eq__) (defBody s_Pool___eq__) (defScope s_Pool___eq__) .none kV348 dc344 pm345 an350 cd346 ct347), sl351⟩)
    (c355 : PySem.W.codeIn K cd346 "Pool.__eq__" = true)
    (k356 : PySem.W.keepIn K (.ref f342) = true)
    (lc373 : K.lookup C241 = some (excClassObj e358 e359 C241 N357 e360 [.type "object"] e361 e362 e363 e364 e365 e366 e367 e368 e369 e370 e371 e372))
    (no374 : PySem.W.nsOkIn K N357 = true)
    (ee375 : PySem.W.nsIn K N357 "__eq__" = some (some (.ref f342)))
    (en376 : PySem.W.nsIn K N357 "__ne__" = some none)
    (na377 : PySem.W.findIn K (.ref C241) "_by_name" = some none)
    (ha378 : PySem.W.findIn K (.ref C241) "__class__" = some (some (.builtin "object.__class__")))
    (hn379 : PySem.W.specialIn K (.builtin "object.__class__") "__get__" = some (some (.builtin "getset_descriptor.__get__")))
    (ht380 : PySem.W.takesIn K (.builtin "object.__class__") = some true)
    (hm381 : PySem.W.mroIn K C241 (.type "object") = some true)
    (kt382 : ∀ t ∈ kinds, PySem.W.kitOne K (.type t) (.ref C241) = some false)
    (kd383 : ∀ t ∈ kinds, PySem.W.notFirst K C241 (.type t) = true)
    (a394 : PySem.W.nsIn K mainGlobals "_check_items" = some (some (.ref f384)))
    (l395 : K.lookup f384 = some ⟨oc385, od391, .func (PySem.W.fnOf "_check_items" "_check_items" (defArgs s__check_items) (defBody s__check_items) (defScope s__check_items) .none kV390 dc386 pm387 an392 cd388 ct389), sl393⟩)
    (c396 : PySem.W.codeIn K cd388 "_check_items" = true)
    (k397 : PySem.W.keepIn K (.ref f384) = true)
    (a408 : PySem.W.nsIn K mainGlobals "_law_pen" = some (some (.ref f398)))
    (l409 : K.lookup f398 = some ⟨oc399, od405, .func (PySem.W.fnOf "_law_pen" "_law_pen" (defArgs s__law_pen) (defBody s__law_pen) (defScope s__law_pen) .none kV404 dc400 pm401 an406 cd402 ct403), sl407⟩)
    (c410 : PySem.W.codeIn K cd402 "_law_pen" = true)
    (k411 : PySem.W.keepIn K (.ref f398) = true)
    (a422 : PySem.W.nsIn K mainGlobals "_law_next" = some (some (.ref f412)))
    (l423 : K.lookup f412 = some ⟨oc413, od419, .func (PySem.W.fnOf "_law_next" "_law_next" (defArgs s__law_next) (defBody s__law_next) (defScope s__law_next) .none kV418 dc414 pm415 an420 cd416 ct417), sl421⟩)
    (c424 : PySem.W.codeIn K cd416 "_law_next" = true)
    (k425 : PySem.W.keepIn K (.ref f412) = true)
    (a436 : PySem.W.nsIn K mainGlobals "_law_draw" = some (some (.ref f426)))
    (l437 : K.lookup f426 = some ⟨oc427, od433, .func (PySem.W.fnOf "_law_draw" "_law_draw" (defArgs s__law_draw) (defBody s__law_draw) (defScope s__law_draw) .none kV432 dc428 pm429 an434 cd430 ct431), sl435⟩)
    (c438 : PySem.W.codeIn K cd430 "_law_draw" = true)
    (k439 : PySem.W.keepIn K (.ref f426) = true)
    (a450 : PySem.W.nsIn K mainGlobals "_law_made" = some (some (.ref f440)))
    (l451 : K.lookup f440 = some ⟨oc441, od447, .func (PySem.W.fnOf "_law_made" "_law_made" (defArgs s__law_made) (defBody s__law_made) (defScope s__law_made) .none kV446 dc442 pm443 an448 cd444 ct445), sl449⟩)
    (c452 : PySem.W.codeIn K cd444 "_law_made" = true)
    (k453 : PySem.W.keepIn K (.ref f440) = true)
    (a464 : PySem.W.nsIn K mainGlobals "_law_all_values" = some (some (.ref f454)))
    (l465 : K.lookup f454 = some ⟨oc455, od461, .func (PySem.W.fnOf "_law_all_values" "_law_all_values" (defArgs s__law_all_values) (defBody s__law_all_values) (defScope s__law_all_values) .none kV460 dc456 pm457 an462 cd458 ct459), sl463⟩)
    (c466 : PySem.W.codeIn K cd458 "_law_all_values" = true)
    (k467 : PySem.W.keepIn K (.ref f454) = true)
    (a478 : PySem.W.nsIn K mainGlobals "_law_small" = some (some (.ref f468)))
    (l479 : K.lookup f468 = some ⟨oc469, od475, .func (PySem.W.fnOf "_law_small" "_law_small" (defArgs s__law_small) (defBody s__law_small) (defScope s__law_small) .none kV474 dc470 pm471 an476 cd472 ct473), sl477⟩)
    (c480 : PySem.W.codeIn K cd472 "_law_small" = true)
    (k481 : PySem.W.keepIn K (.ref f468) = true)
    (a492 : PySem.W.nsIn K mainGlobals "_law_orders" = some (some (.ref f482)))
    (l493 : K.lookup f482 = some ⟨oc483, od489, .func (PySem.W.fnOf "_law_orders" "_law_orders" (defArgs s__law_orders) (defBody s__law_orders) (defScope s__law_orders) .none kV488 dc484 pm485 an490 cd486 ct487), sl491⟩)
    (c494 : PySem.W.codeIn K cd486 "_law_orders" = true)
    (k495 : PySem.W.keepIn K (.ref f482) = true)
    (a506 : PySem.W.nsIn K mainGlobals "_law_climbs" = some (some (.ref f496)))
    (l507 : K.lookup f496 = some ⟨oc497, od503, .func (PySem.W.fnOf "_law_climbs" "_law_climbs" (defArgs s__law_climbs) (defBody s__law_climbs) (defScope s__law_climbs) .none kV502 dc498 pm499 an504 cd500 ct501), sl505⟩)
    (c508 : PySem.W.codeIn K cd500 "_law_climbs" = true)
    (k509 : PySem.W.keepIn K (.ref f496) = true)
    (a520 : PySem.W.nsIn K mainGlobals "law" = some (some (.ref f510)))
    (l521 : K.lookup f510 = some ⟨oc511, od517, .func (PySem.W.fnOf "law" "law" (defArgs s_law) (defBody s_law) (defScope s_law) .none kV516 dc512 pm513 an518 cd514 ct515), sl519⟩)
    (c522 : PySem.W.codeIn K cd514 "law" = true)
    (k523 : PySem.W.keepIn K (.ref f510) = true)
    (a525 : PySem.W.nsIn K mainGlobals "LONGEST_NAME" = some (some (.int 8 t524)))
    (z526 : PySem.W.nsIn K mainGlobals "len" = some none)
    (z527 : PySem.W.nsIn K mainGlobals "list" = some none)
    (z528 : PySem.W.nsIn K mainGlobals "isinstance" = some none)
    (z529 : PySem.W.nsIn K mainGlobals "str" = some none)
    (z530 : PySem.W.nsIn K mainGlobals "int" = some none)
    (z531 : PySem.W.nsIn K mainGlobals "bool" = some none)
    (z532 : PySem.W.nsIn K mainGlobals "range" = some none)
    (z533 : PySem.W.nsIn K mainGlobals "repr" = some none)
    (z534 : PySem.W.nsIn K mainGlobals "all" = some none)
    (z535 : PySem.W.nsIn K mainGlobals "dict" = some none)
    (z536 : PySem.W.nsIn K mainGlobals "tuple" = some none)
    (z537 : PySem.W.nsIn K mainGlobals "sorted" = some none)
    (z538 : PySem.W.nsIn K mainGlobals "max" = some none)
    (z539 : PySem.W.nsIn K mainGlobals "enumerate" = some none)
    (z540 : PySem.W.nsIn K mainGlobals "any" = some none)
    : ∃ a : Ad, Txt K mg a := ⟨{ f_assignment := f1, d_assignment := _, f_may_precede := f15, d_may_precede := _, f__check_order := f29, d__check_order := _, f_is_whole := f43, d_is_whole := _, c_Item := C57, f_Item___init__ := f70, d_Item___init__ := _, f_Item_is_name := f88, d_Item_is_name := _, p_Item_is_name := p98, f_Item_name := f105, d_Item_name := _, p_Item_name := p115, f_Item_least := f124, d_Item_least := _, p_Item_least := p134, f_Item_greatest := f143, d_Item_greatest := _, p_Item_greatest := p153, f_Item_is_exact := f162, d_Item_is_exact := _, p_Item_is_exact := p172, f_Item_is_surely_before := f181, d_Item_is_surely_before := _, f_Item___eq__ := f196, d_Item___eq__ := _, c_Pool := C241, f_Pool___init__ := f249, d_Pool___init__ := _, f_Pool_read := f266, d_Pool_read := _, p_Pool_read := p276, f_Pool_names := f290, d_Pool_names := _, p_Pool_names := p300, f_Pool_item := f309, d_Pool_item := _, f_Pool_with_items := f324, d_Pool_with_items := _, f_Pool___eq__ := f342, d_Pool___eq__ := _, f__check_items := f384, d__check_items := _, f__law_pen := f398, d__law_pen := _, f__law_next := f412, d__law_next := _, f__law_draw := f426, d__law_draw := _, f__law_made := f440, d__law_made := _, f__law_all_values := f454, d__law_all_values := _, f__law_small := f468, d__law_small := _, f__law_orders := f482, d__law_orders := _, f__law_climbs := f496, d__law_climbs := _, f_law := f510, d_law := _ },
  { F_assignment := fun_mk l12 c13 k14
    g_assignment := PySem.W.mg_of X G a11
    F_may_precede := fun_mk l26 c27 k28
    g_may_precede := PySem.W.mg_of X G a25
    F__check_order := fun_mk l40 c41 k42
    g__check_order := PySem.W.mg_of X G a39
    F_is_whole := fun_mk l54 c55 k56
    g_is_whole := PySem.W.mg_of X G a53
    g_Item := PySem.W.mg_of X G a58
    cl_Item := ⟨pg59, hd60, po61, sa62⟩
    rd_Item := ⟨rd63, ga64⟩
    co_Item_MOST := ⟨_, fa66, ⟨_, rfl⟩, gt67, by decide⟩
    cv_Item_MOST := ⟨_, cv68, ⟨_, rfl⟩⟩
    mk_Item := ⟨mk81, a79, i80, kc82⟩
    F_Item___init__ := ⟨⟨_, _, .none, _, _, _, _, _, _, _, rfl, l83, c84, .inl ⟨rfl, rfl⟩, .inr ⟨_, rfl, fun z hz => by obtain rfl := List.mem_singleton.mp hz; exact ⟨_, q87, _, rfl⟩⟩⟩, k85⟩
    F_Item_is_name := fun_mk l102 c103 k104
    m_Item_is_name := ⟨a100, ⟨_, rc101⟩, k104⟩
    F_Item_name := fun_mk l121 c122 k123
    m_Item_name := ⟨a117, gt118, tk119, _, rc120⟩
    F_Item_least := fun_mk l140 c141 k142
    m_Item_least := ⟨a136, gt137, tk138, _, rc139⟩
    F_Item_greatest := fun_mk l159 c160 k161
    m_Item_greatest := ⟨a155, gt156, tk157, _, rc158⟩
    F_Item_is_exact := fun_mk l178 c179 k180
    m_Item_is_exact := ⟨a174, gt175, tk176, _, rc177⟩
    F_Item_is_surely_before := fun_mk l193 c194 k195
    m_Item_is_surely_before := ⟨a191, i192, k195⟩
    F_Item___eq__ := fun_mk l208 c209 k210
    m_Item___eq__ := ⟨a206, i207, k210⟩
    eq_Item := ⟨⟨_, _, _, _, _, _, _, _, _, _, _, _, _, _, _, _, lc227, no228, ee229, en230⟩, a206, i207⟩
    n_Item__name := na231
    n_Item__least := na232
    n_Item__greatest := na233
    n_Item__price := na234
    ty_Item := ⟨ha235, hn236, ht237, hm238, kt239⟩
    kd_Item := kd240
    g_Pool := PySem.W.mg_of X G a242
    cl_Pool := ⟨pg243, hd244, po245, sa246⟩
    rd_Pool := ⟨rd247, ga248⟩
    mk_Pool := ⟨mk261, a259, i260, kc262⟩
    F_Pool___init__ := fun_mk l263 c264 k265
    F_Pool_read := fun_mk l280 c281 k282
    m_Pool_read := ⟨a278, ⟨_, rc279⟩, fi283⟩
    i_Pool_read := ⟨pg284, ic285, a286, ty287, gt288, tk289, by decide, ⟨_, rc279⟩, fi283⟩
    F_Pool_names := fun_mk l306 c307 k308
    m_Pool_names := ⟨a302, gt303, tk304, _, rc305⟩
    F_Pool_item := fun_mk l321 c322 k323
    m_Pool_item := ⟨a319, i320, k323⟩
    F_Pool_with_items := fun_mk l336 c337 k338
    m_Pool_with_items := ⟨a334, i335, k338⟩
    bm_Pool_with_items := ⟨⟨a334, i335, k338⟩, gf339, tk340, by decide, fi341⟩
    F_Pool___eq__ := fun_mk l354 c355 k356
    m_Pool___eq__ := ⟨a352, i353, k356⟩
    eq_Pool := ⟨⟨_, _, _, _, _, _, _, _, _, _, _, _, _, _, _, _, lc373, no374, ee375, en376⟩, a352, i353⟩
    n_Pool__by_name := na377
    ty_Pool := ⟨ha378, hn379, ht380, hm381, kt382⟩
    kd_Pool := kd383
    F__check_items := fun_mk l395 c396 k397
    g__check_items := PySem.W.mg_of X G a394
    F__law_pen := fun_mk l409 c410 k411
    g__law_pen := PySem.W.mg_of X G a408
    F__law_next := fun_mk l423 c424 k425
    g__law_next := PySem.W.mg_of X G a422
    F__law_draw := fun_mk l437 c438 k439
    g__law_draw := PySem.W.mg_of X G a436
    F__law_made := fun_mk l451 c452 k453
    g__law_made := PySem.W.mg_of X G a450
    F__law_all_values := fun_mk l465 c466 k467
    g__law_all_values := PySem.W.mg_of X G a464
    F__law_small := fun_mk l479 c480 k481
    g__law_small := PySem.W.mg_of X G a478
    F__law_orders := fun_mk l493 c494 k495
    g__law_orders := PySem.W.mg_of X G a492
    F__law_climbs := fun_mk l507 c508 k509
    g__law_climbs := PySem.W.mg_of X G a506
    F_law := fun_mk l521 c522 k523
    g_law := PySem.W.mg_of X G a520
    g_LONGEST_NAME := ⟨_, PySem.W.mg_of X G a525, _, rfl⟩
    b_len := PySem.W.mg_none_of X G z526
    b_list := PySem.W.mg_none_of X G z527
    b_isinstance := PySem.W.mg_none_of X G z528
    b_str := PySem.W.mg_none_of X G z529
    b_int := PySem.W.mg_none_of X G z530
    b_bool := PySem.W.mg_none_of X G z531
    b_range := PySem.W.mg_none_of X G z532
    b_repr := PySem.W.mg_none_of X G z533
    b_all := PySem.W.mg_none_of X G z534
    b_dict := PySem.W.mg_none_of X G z535
    b_tuple := PySem.W.mg_none_of X G z536
    b_sorted := PySem.W.mg_none_of X G z537
    b_max := PySem.W.mg_none_of X G z538
    b_enumerate := PySem.W.mg_none_of X G z539
    b_any := PySem.W.mg_none_of X G z540 }⟩
end Ask

set_option Elab.async false
set_option linter.all false
set_option maxRecDepth 100000
set_option maxHeartbeats 4000000
namespace Ask
open PySem L2
open PyProof.Rows
section
variable {P : Program} {w : World} {K : PySem.W.Frag} {mg : Str → Option Value} {base : Heap} {a : Ad}

/-- any object of a built-in kind -/
def Obj' (K : PySem.W.Frag) (H : Hp) (v : V) (t : String) : Prop := TyX K H v (.type t) ∧ t ∈ kinds
def spWhole (K : PySem.W.Frag) : Sp := fun vs H Q _ => ∃ v t, vs = [v] ∧ Obj' K H v t ∧ Q (.bl (t == "int")) H
theorem ok_whole (T : Txt K mg a) : FnOk P w K mg base CX0 1 a.f_is_whole a.d_is_whole ["thing"] (spWhole K) := by
  refine T.F_is_whole.ok sc_is_whole (fun vs H Q E h => ?_) (fun cdv A outer s H vs Q E hr h => ?_)
  · obtain ⟨v, t, rfl, _⟩ := h
    rfl
  · obtain ⟨v, t, rfl, ⟨ty, ht⟩, q⟩ := h
    refine ⟨_, (pss_one (ps_ret (pe_and (pe_callB call_isi (by rfl) T.b_isinstance (by decide +kernel) (pa_cons (pv 0) (pa_cons (pe_bltn (v := .ty "int") (by rfl) T.b_int (by decide +kernel) rfl) pa_nil))) (pe_one (pe_not (pe_callB call_isi (by rfl) T.b_isinstance (by decide +kernel) (pa_cons (pv 0) (pa_cons (pe_bltn (v := .ty "bool") (by rfl) T.b_bool (by decide +kernel) rfl) pa_nil)))))))), ?_⟩
    refine ⟨v, rfl, ?_⟩
    simp only [kinds, List.mem_cons, List.not_mem_nil, or_false] at ht
    rcases ht with rfl | rfl | rfl | rfl | rfl | rfl | rfl
    · exact ⟨v, .ty "int", _, _, false, rfl, .ty _, ty, kit_ty (by decide +kernel), false, rfl, iteF q⟩
    · refine ⟨v, .ty "int", _, _, true, rfl, .ty _, ty, kit_ty (by decide +kernel), true, rfl, iteT ?_⟩
      exact ⟨v, rfl, v, .ty "bool", _, _, true, rfl, .ty _, ty, kit_ty (by decide +kernel), true, rfl, q⟩
    · refine ⟨v, .ty "int", _, _, true, rfl, .ty _, ty, kit_ty (by decide +kernel), true, rfl, iteT ?_⟩
      exact ⟨v, rfl, v, .ty "bool", _, _, false, rfl, .ty _, ty, kit_ty (by decide +kernel), false, rfl, q⟩
    · exact ⟨v, .ty "int", _, _, false, rfl, .ty _, ty, kit_ty (by decide +kernel), false, rfl, iteF q⟩
    · exact ⟨v, .ty "int", _, _, false, rfl, .ty _, ty, kit_ty (by decide +kernel), false, rfl, iteF q⟩
    · exact ⟨v, .ty "int", _, _, false, rfl, .ty _, ty, kit_ty (by decide +kernel), false, rfl, iteF q⟩
    · exact ⟨v, .ty "int", _, _, false, rfl, .ty _, ty, kit_ty (by decide +kernel), false, rfl, iteF q⟩

/-- the name's signs, the name's length -/
def signB (c : Nat) : Bool := decide (97 ≤ c) && decide (c ≤ 122)
def nameB (x : Str) : Bool := decide (1 ≤ x.length) && decide (x.length ≤ 8) && x.cps.toList.all signB
def spIsName (K : PySem.W.Frag) : Sp := fun vs H Q _ => ∃ v t, vs = [v] ∧ Obj' K H v t ∧
  ((t ≠ "str" ∧ Q (.bl false) H) ∨ ∃ x, v = .str x ∧ x.length ≤ sizeLine ∧ ∀ H', Same H H' → Q (.bl (nameB x)) H')
theorem lt_one (c d : Nat) : decide ((⟨#[c]⟩ : Str).cps.toList < (⟨#[d]⟩ : Str).cps.toList) = decide (c < d) := by
  congr 1
  apply propext
  constructor
  · intro h
    cases h with
    | rel h => exact h
    | cons h => cases h
  · intro h
    exact List.Lex.rel h
theorem lt_a (c : Nat) : decide ((⟨#[c]⟩ : Str).cps.toList < (Str.ofString "a").cps.toList) = decide (c < 97) := by
  rw [show Str.ofString "a" = ⟨#[97]⟩ from by decide +kernel]
  exact lt_one c 97
theorem lt_z (c : Nat) : decide ((Str.ofString "z").cps.toList < (⟨#[c]⟩ : Str).cps.toList) = decide (122 < c) := by
  rw [show Str.ofString "z" = ⟨#[122]⟩ from by decide +kernel]
  exact lt_one 122 c
theorem ok_is_name (T : Txt K mg a) : FnOk P w K mg base CX0 1 a.f_Item_is_name a.d_Item_is_name ["thing"] (spIsName K) := by
  refine T.F_Item_is_name.ok sc_Item_is_name (fun vs H Q E h => ?_) (fun cdv A outer s H vs Q E hr h => ?_)
  · obtain ⟨v, t, rfl, _⟩ := h
    rfl
  · obtain ⟨v, t, rfl, ⟨ty, ht⟩, q⟩ := h
    have nd := sc_Item_is_name.nd
    refine ⟨_, (pss_cons (ps_if (PW.pt (pw_or (pt_not (pt_val (pe_callB call_isi (by rfl) T.b_isinstance (by decide +kernel) (pa_cons (pv 0) (pa_cons (pe_bltn (v := .ty "str") (by rfl) T.b_str (by decide +kernel) rfl) pa_nil))))) (pw_or1 (pt_not (pt_chain op_le op_le pe_int (pe_callB call_len_str (by rfl) T.b_len PySem.boot_len (pa_cons (pv 0) pa_nil)) (pe_gi rfl T.g_LONGEST_NAME))))))
    (pss_one (ps_ret pe_bl))
    pss_nil)
  (pss_one (ps_ret (pe_callB (cr_all rfl) (by rfl) T.b_all (by decide +kernel) (pa_cons (pe_lc (own := [("sign", 1)]) (g := gName 1) (tt := tYes) rfl nd (pi_str (pv 0)) (blkOk_by (N := ["thing", "sign"]) (sc := defScope s_Item_is_name) (by decide +kernel)) (fun _ _ _ _ _ => (pg_name (i := 1) nd rfl (by first | exact Or.inl rfl | exact Or.inr rfl))) (fun _ _ _ _ _ => pts_nil) (fun _ _ _ _ _ => (pe_chain op_le_str op_le_str pe_str (pv 1) pe_str))) pa_nil))))), ?_⟩
    refine ⟨v, rfl, ?_⟩
    rcases q with ⟨hn, q⟩ | ⟨x, rfl, hx, q⟩
    · refine ⟨v, .ty "str", _, _, false, rfl, .ty _, ty, kit_ty ?_, false, rfl, iteT (iteT q)⟩
      simp only [kinds, List.mem_cons, List.not_mem_nil, or_false] at ht
      rcases ht with rfl | rfl | rfl | rfl | rfl | rfl | rfl
      all_goals first | decide +kernel | exact absurd rfl hn
    · refine ⟨.str x, .ty "str", _, _, true, rfl, .ty _, .base (.str x), kit_ty (by decide +kernel), true, rfl, iteF ?_⟩
      refine ⟨_, rfl, x, rfl, hx, _, _, rfl, rfl, _, rfl, ?_⟩
      have hlen : x.cps.toList.length = x.length := by simp [Str.length]
      by_cases h1 : (1 : Int) ≤ ((x.length : Nat) : Int)
      · rw [decide_eq_true h1]
        refine iteT ⟨_, _, rfl, rfl, _, rfl, ?_⟩
        by_cases h8 : ((x.length : Nat) : Int) ≤ 8
        · rw [decide_eq_true h8]
          refine iteF ?_
          refine ⟨_, rfl, x, rfl, fun D hD => ?_⟩
          refine lc_it (walk_str (z := x)) (fun i H' => Same H H' ∧ H' D = some (.lst (((x.cps.toList.take i).map signB).map V.bl))) ⟨Same.new hD, upd_same⟩ (fun _ _ _ _ => trivial) ?_ ?_
          · rintro i z H1 H2 hi ⟨b1, b2⟩ ⟨rfl, c, hc, rfl⟩
            have hc' : x.cps.toList[i]? = some c := by rw [Array.getElem?_toList]; exact hc
            have step : x.cps.toList.take (i + 1) = x.cps.toList.take i ++ [c] := by
              rw [List.take_add_one, hc']
              rfl
            have fin : ∀ y, y = V.bl (signB c) → ∃ acc, H2 D = some (.lst acc) ∧ acc.length < sizeLine ∧
                (Same H (upd H2 D (.lst (acc ++ [y]))) ∧ upd H2 D (.lst (acc ++ [y])) D = some (.lst (((x.cps.toList.take (i + 1)).map signB).map V.bl))) := by
              rintro y rfl
              refine ⟨_, b2, ?_, Same.of b1 hD, ?_⟩
              · rw [List.length_map, List.length_map, List.length_take]
                exact Nat.lt_of_le_of_lt (show _ ≤ 8 by omega) (by decide)
              · rw [upd_same, step, List.map_append, List.map_append]
                rfl
            refine ⟨rfl, ?_⟩
            refine ⟨_, rfl, _, _, rfl, rfl, _, rfl, ?_⟩
            rw [lt_a]
            by_cases ha : 97 ≤ c
            · rw [decide_eq_false (show ¬ c < 97 by omega)]
              refine iteT ⟨_, _, rfl, rfl, ?_⟩
              rw [lt_z]
              refine fin _ ?_
              unfold signB
              rw [decide_eq_true ha, Bool.true_and]
              congr 1
              by_cases hz : c ≤ 122
              · rw [decide_eq_true hz, decide_eq_false (by omega)]
                rfl
              · rw [decide_eq_false hz, decide_eq_true (by omega)]
                rfl
            · rw [decide_eq_true (show c < 97 by omega)]
              refine iteF (fin _ ?_)
              unfold signB
              rw [decide_eq_false ha]
              rfl
          · rintro H1 ⟨b1, b2⟩
            refine ⟨D, _, rfl, SqL.of b2, ?_⟩
            have e : nameB x = (List.map signB (x.cps.toList.take x.cps.size)).all id := by
              unfold nameB
              rw [decide_eq_true (show 1 ≤ x.length by omega), decide_eq_true (show x.length ≤ 8 by omega), Bool.true_and, Bool.true_and]
              rw [List.take_of_length_le (by rw [Array.length_toList]; exact Nat.le_refl _), List.all_map]
              rfl
            rw [← e]
            exact q H1 b1
        · rw [decide_eq_false h8]
          refine iteT ?_
          have e : nameB x = false := by
            unfold nameB
            rw [decide_eq_false (show ¬ x.length ≤ 8 by omega), Bool.and_false, Bool.false_and]
          rw [← e]
          exact q H (Same.refl H)
      · rw [decide_eq_false h1]
        refine iteF ⟨_, rfl, ?_⟩
        have e : nameB x = false := by
          unfold nameB
          rw [decide_eq_false (show ¬ 1 ≤ x.length by omega), Bool.false_and, Bool.false_and]
        have q2 := q H (Same.refl H)
        rw [e] at q2
        exact q2
end
end Ask

set_option Elab.async false
set_option linter.all false
set_option maxRecDepth 100000
set_option maxHeartbeats 4000000
namespace Ask
open PySem L2
open PyProof.Rows
section
variable {P : Program} {w : World} {K : PySem.W.Frag} {mg : Str → Option Value} {base : Heap} {a : Ad}
def itF (nm : Str) (lo hi pr : Int) : List (Str × V) := [("_name", .str nm), ("_least", .int lo), ("_greatest", .int hi), ("_price", .int pr)]
theorem itF_put (nm : Str) (lo hi pr : Int) : putF "_price" (.int pr) (putF "_greatest" (.int hi) (putF "_least" (.int lo) (putF "_name" (.str nm) []))) = itF nm lo hi pr := by
  with_unfolding_all rfl
/-- what a new item's price is -/
def prI (lo hi pr : Int) : Int := if lo = hi then 0 else pr
/-- __init__, arguments that form an item -/
def spInit (C : Addr) : Sp := fun vs H Q _ => ∃ (x dx : Addr) (nm : Str) (lo hi pr : Int), vs = [.ref x, .str nm, .int lo, .int hi, .int pr] ∧
  H x = some (.ins C dx []) ∧ nameB nm = true ∧ lo ≤ hi ∧ 1 ≤ pr ∧ pr ≤ 999 ∧
  ∀ H', But x H H' → H' x = some (.ins C dx (itF nm lo hi (prI lo hi pr))) → Q .non H'
theorem name_len {nm : Str} (h : nameB nm = true) : nm.length ≤ 8 := by
  unfold nameB at h
  rw [Bool.and_eq_true, Bool.and_eq_true] at h
  exact of_decide_eq_true h.1.2
theorem ok_init (T : Txt K mg a) : FnOk P w K mg base CX0 3 a.f_Item___init__ a.d_Item___init__ ["self", "name", "least", "greatest", "price"] (spInit a.c_Item) := by
  have G_is_name : FnOk P w K mg base CX0 1 a.f_Item_is_name a.d_Item_is_name ["thing"] (spIsName K) := ok_is_name T
  have Gis_whole : FnOk P w K mg base CX0 1 a.f_is_whole a.d_is_whole ["thing"] (spWhole K) := ok_whole T
  refine T.F_Item___init__.ok sc_Item___init__ (fun vs H Q E h => ?_) (fun cdv A outer s H vs Q E hr h => ?_)
  · obtain ⟨x, dx, nm, lo, hi, pr, rfl, _⟩ := h
    rfl
  · obtain ⟨x, dx, nm, lo, hi, pr, rfl, hx, hn, hlh, p1, p2, k⟩ := h
    have nd := sc_Item___init__.nd
    have hl := name_len hn
    have oS : ∀ H, Obj' K H (.str nm) "str" := fun H => ⟨.base (.str nm), by decide⟩
    have oI : ∀ H (i : Int), Obj' K H (.int i) "int" := fun H i => ⟨.base (.int i), by decide⟩
    refine ⟨_, (pss_cons (ps_if (pt_not (pt_val (pe_smeth (pe_glob (v := .ref a.c_Item) rfl T.g_Item rfl) T.rd_Item T.m_Item_is_name G_is_name (hr.mono (by decide)) T.b_Item_is_name pass0 (pa_cons (pv 1) pa_nil))))
    (pss_one ps_never)
    pss_nil)
  (pss_cons (ps_if (PW.pt (pw_or (pt_not (pt_val (pe_call Gis_whole (hr.mono (by first | decide | omega)) rfl T.g_is_whole T.F_is_whole.kp T.b_is_whole .nil pass0 (pa_cons (pv 2) pa_nil)))) (pw_or1 (pt_not (pt_val (pe_call Gis_whole (hr.mono (by first | decide | omega)) rfl T.g_is_whole T.F_is_whole.kp T.b_is_whole .nil pass0 (pa_cons (pv 3) pa_nil)))))))
    (pss_one ps_never)
    pss_nil)
  (pss_cons (ps_if (pt_cmpR op_gt (pv 2) (pv 3) (nomark _))
    (pss_one ps_never)
    pss_nil)
  (pss_cons (ps_if (PW.pt (pw_or (pt_not (pt_val (pe_call Gis_whole (hr.mono (by first | decide | omega)) rfl T.g_is_whole T.F_is_whole.kp T.b_is_whole .nil pass0 (pa_cons (pv 4) pa_nil)))) (pw_or1 (pt_not (pt_chain op_le op_le pe_int (pv 4) (ClX.pe_cval (pe_glob (v := .ref a.c_Item) rfl T.g_Item rfl)))))))
    (pss_one ps_never)
    pss_nil)
  (pss_cons (ps_fld (pv 0) (pv 1) rfl)
  (pss_cons (ps_fld (pv 0) (pv 2) rfl)
  (pss_cons (ps_fld (pv 0) (pv 3) rfl)
  (pss_one (ps_fld (pv 0) (pe_ifExp (pt_cmpR op_eq (pv 2) (pv 3) (nomark _)) pe_int (pv 4)) rfl))))))))), ?_⟩
    refine ⟨rfl, _, rfl, .str nm, "str", rfl, oS H, .inr ⟨nm, rfl, Nat.le_trans hl (by decide), fun H1 s1 => ?_⟩⟩
    rw [hn]
    have hx1 := s1 _ _ hx
    refine ⟨_, rfl, iteF ?_⟩
    -- the ends of the range
    refine ⟨_, rfl, _, "int", rfl, oI H1 lo, _, rfl, iteF ?_⟩
    refine ⟨_, rfl, _, "int", rfl, oI H1 hi, _, rfl, iteF ?_⟩
    refine ⟨_, rfl, _, rfl, _, _, rfl, rfl, _, rfl, ?_⟩
    rw [decide_eq_false (show ¬ hi < lo by omega)]
    refine iteF ?_
    -- the price
    refine ⟨_, rfl, _, "int", rfl, oI H1 pr, _, rfl, iteF ?_⟩
    refine ⟨_, rfl, _, _, rfl, rfl, _, rfl, ?_⟩
    rw [decide_eq_true p1]
    obtain ⟨u, cv⟩ := T.cv_Item_MOST
    refine iteT ⟨_, _, _, u, rfl, T.rd_Item, cv, _, _, rfl, rfl, _, rfl, ?_⟩
    rw [decide_eq_true p2]
    refine iteF ?_
    -- the fields
    refine ⟨_, rfl, _, rfl, x, _, dx, _, rfl, hx1, T.cl_Item, T.n_Item__name, (by show 0 < 1000; decide), ?_⟩
    refine ⟨_, rfl, _, rfl, x, _, dx, _, rfl, upd_same, T.cl_Item, T.n_Item__least, (by show 1 < 1000; decide), ?_⟩
    refine ⟨_, rfl, _, rfl, x, _, dx, _, rfl, upd_same, T.cl_Item, T.n_Item__greatest, (by show 2 < 1000; decide), ?_⟩
    refine ⟨_, rfl, _, rfl, rfl, _, rfl, ?_⟩
    have fin : ∀ z, z = prI lo hi pr → Q .non (upd (upd (upd (upd H1 x (.ins a.c_Item dx (putF "_name" (.str nm) []))) x (.ins a.c_Item dx (putF "_least" (.int lo) (putF "_name" (.str nm) [])))) x
        (.ins a.c_Item dx (putF "_greatest" (.int hi) (putF "_least" (.int lo) (putF "_name" (.str nm) []))))) x (.ins a.c_Item dx (putF "_price" (.int z) (putF "_greatest" (.int hi) (putF "_least" (.int lo) (putF "_name" (.str nm) [])))))) := by
      rintro z rfl
      refine k _ ?_ ?_
      · intro b o hb e
        rw [upd_ne hb, upd_ne hb, upd_ne hb, upd_ne hb]
        exact s1 b o e
      · rw [upd_same, itF_put]
    by_cases e : lo = hi
    · rw [decide_eq_true (congrArg V.int e)]
      refine iteT ?_
      refine ⟨_, rfl, x, _, dx, _, rfl, upd_same, T.cl_Item, T.n_Item__price, (by show 3 < 1000; decide), ?_⟩
      exact fin 0 (by unfold prI; rw [if_pos e])
    · rw [decide_eq_false (fun q => e (V.int.inj q))]
      refine iteF ?_
      refine ⟨_, rfl, _, rfl, x, _, dx, _, rfl, upd_same, T.cl_Item, T.n_Item__price, (by show 3 < 1000; decide), ?_⟩
      exact fin pr (by unfold prI; rw [if_neg e])
end
end Ask

set_option Elab.async false
set_option linter.all false
set_option maxRecDepth 100000
set_option maxHeartbeats 4000000
set_option pp.deepTerms false
set_option pp.deepTerms.threshold 14
namespace Ask
open PySem L2
open PyProof.Rows
section
variable {P : Program} {w : World} {K : PySem.W.Frag} {mg : Str → Option Value} {base : Heap} {a : Ad}
theorem eqv_ints : ∀ xs ys : List Int, PyData.eqv (.list (xs.map PyData.int)) (.list (ys.map PyData.int)) = decide (xs = ys) := by
  have h : ∀ xs ys : List Int, PyData.eqvAll (xs.map PyData.int) (ys.map PyData.int) = decide (xs = ys) := by
    intro xs
    induction xs with
    | nil => intro ys; cases ys <;> rfl
    | cons x xs ih =>
      intro ys
      cases ys with
      | nil => rfl
      | cons y ys =>
        show (PyData.eqv (.int x) (.int y) && PyData.eqvAll (xs.map PyData.int) (ys.map PyData.int)) = _
        rw [ih ys, show PyData.eqv (.int x) (.int y) = (x == y) from rfl]
        by_cases h : x = y
        · subst h
          by_cases g : xs = ys
          · subst g
            simp
          · simp [g]
        · simp [h]
  exact h
def wsOf (kn : List (Str × Int)) (xs : List Str) : List Int := xs.map fun x => (kn.lookup x).getD 0
def spClimbs : Sp := fun vs H Q _ => ∃ (o d : Addr) (xs : List Str) (kn : List (Str × Int)), vs = [.ref o, .ref d] ∧ H o = some (.lst (xs.map V.str)) ∧ H d = some (.dK (kents kn)) ∧ (kn.map (·.1)).Nodup ∧ (∀ x ∈ xs, x ∈ kn.map (·.1)) ∧ xs.length < 64 ∧
  ∀ H', Same H H' → Q (.bl (decide ((wsOf kn xs).Pairwise (· ≤ ·)))) H'
theorem ok_climbs (T : Txt K mg a) : FnOk P w K mg base CX0 1 a.f__law_climbs a.d__law_climbs ["order", "known"] spClimbs := by
  refine T.F__law_climbs.ok sc__law_climbs (fun vs H Q E h => ?_) (fun cdv A outer s H vs Q E hr h => ?_)
  · obtain ⟨o, d, xs, kn, rfl, _⟩ := h
    rfl
  · obtain ⟨o, d, xs, kn, rfl, ho, hd, nk, sub, n64, k⟩ := h
    have nd := sc__law_climbs.nd
    refine ⟨_, (Evl.pss_cut (ps_setLc (i := 2) (own := [("one", 3)]) (g := gName 3) (tt := tYes) rfl nd rfl rfl (sw_true rfl rfl rfl (by decide +kernel)) (pi_list (pv 0)) (blkOk_by (N := ["order", "known", "worths", "one"]) (sc := defScope s__law_climbs) (by decide +kernel)) (fun _ _ _ _ _ => (pg_name (i := 3) nd rfl (by first | exact Or.inl rfl | exact Or.inr rfl))) (fun _ _ _ _ _ => pts_nil) (fun _ _ _ _ _ => (pe_dget (hu_of hr) (pv 1) (pv 3) (fun _ _ => rfl))))
  (pss_one (ps_ret (pe_cmpR (op_eqD hr.units) (pv 2) (pe_callB cr_sorted (by rfl) T.b_sorted (by decide +kernel) (pa_cons (pv 2) pa_nil)) (nomark _))))), ?_⟩
    refine ⟨fun σ' H' => ∃ W, σ' = [some (.ref o), some (.ref d), some (.ref W), none] ∧ Same H H' ∧ H' W = some (.lst ((wsOf kn xs).map V.int)), ?_, ?_⟩
    · refine ⟨_, rfl, o, rfl, ⟨_, SqL.of ho⟩, fun D hD => ?_⟩
      refine lc_pure (walk_list (K := K) (a := o) (xs := xs.map V.str)) xs (fun _ => true) (fun x v _ => v = .int ((kn.lookup x).getD 0)) (by rw [List.length_map]) hD (fun H' s => SqL.of (s _ _ ho)) (fun i H x H' e => ⟨by rw [e.1]; exact Same.refl _, fun o h => by rw [e.1]; exact h⟩) (by rw [List.length_map, sizeLine_eq]; omega) (fun _ _ _ _ h _ _ => h) ?_ ?_
      · rintro N i x d' H1 H1' ed s1 - ⟨rfl, ex⟩ - s1' fin -
        rw [List.getElem?_map, ed] at ex
        obtain rfl : V.str d' = x := Option.some.inj ex
        obtain ⟨v, hv⟩ : ∃ v, (d', v) ∈ kn := by
          obtain ⟨p, hp, e⟩ := List.mem_map.mp (sub d' (List.mem_of_getElem? ed))
          exact ⟨p.2, by rw [← e]; exact hp⟩
        have gd : DGet H1' d (.str d') (some (.int v)) := by
          rw [← kents_get nk hv]
          exact DGet.k (k := Sum.inr d') (s1 _ _ hd)
        have lk : (kn.lookup d').getD 0 = v := by rw [lookup_of_mem nk hv]; rfl
        refine ⟨rfl, ?_⟩
        dsimp only [tYes]
        rw [if_pos rfl]
        exact ⟨_, rfl, _, rfl, d, _, rfl, gd, fin rfl _ _ (Same.refl _) (by rw [lk])⟩
      · intro ys H1 s1 eD pz
        rw [all_keep] at pz
        have ez := paired_vals (fun x => V.int ((kn.lookup x).getD 0)) (H := H1) pz
        subst ez
        refine ⟨D, rfl, s1, ?_⟩
        rw [eD]
        unfold wsOf
        rw [List.map_map]
        rfl
    rintro σ1 H1 ⟨W, rfl, S1, eW⟩
    have wl : (wsOf kn xs).length < 64 := by unfold wsOf; rw [List.length_map]; exact n64
    refine ⟨_, rfl, _, rfl, W, wsOf kn xs, rfl, SqL.of eW, wl, fun ns p pm srt hp0 => ?_⟩
    have S2 := Same.grow S1 hp0 (o := .lst (ns.map V.int))
    refine ⟨_, _, .lst (SqL.of (Same.new hp0 _ _ eW)) (dp_ints _), .lst (SqL.of upd_same) (dp_ints _), shaped_ints _, shaped_ints _, ?_⟩
    rw [eqv_ints]
    have e : decide (wsOf kn xs = ns) = decide ((wsOf kn xs).Pairwise (· ≤ ·)) := by
      by_cases c : (wsOf kn xs).Pairwise (· ≤ ·)
      · rw [decide_eq_true c, decide_eq_true]
        exact (List.Perm.eq_of_pairwise (fun a b _ _ h1 h2 => Int.le_antisymm h1 h2) c srt pm.symm)
      · rw [decide_eq_false c, decide_eq_false]
        intro e
        rw [e] at c
        exact c srt
    rw [e]
    exact k _ S2
end
end Ask

set_option Elab.async false
set_option linter.all false
set_option maxRecDepth 100000
set_option maxHeartbeats 4000000
namespace Ask
open PySem L2
open PyProof.Rows
section
variable {P : Program} {w : World} {K : PySem.W.Frag} {mg : Str → Option Value} {base : Heap} {a : Ad}
/-- the item (nm, lo, hi, pr) stands at x -/
def ItemAt (C : Addr) (H : Hp) (x : Addr) (nm : Str) (lo hi pr : Int) : Prop := ∃ dx, H x = some (.ins C dx (itF nm lo hi pr))
theorem l_name {nm : Str} {lo hi pr : Int} : (itF nm lo hi pr).lookup (Str.ofString "_name") = some (.str nm) := by with_unfolding_all rfl
theorem l_least {nm : Str} {lo hi pr : Int} : (itF nm lo hi pr).lookup (Str.ofString "_least") = some (.int lo) := by with_unfolding_all rfl
theorem l_greatest {nm : Str} {lo hi pr : Int} : (itF nm lo hi pr).lookup (Str.ofString "_greatest") = some (.int hi) := by with_unfolding_all rfl
theorem l_price {nm : Str} {lo hi pr : Int} : (itF nm lo hi pr).lookup (Str.ofString "_price") = some (.int pr) := by with_unfolding_all rfl
/-- a property: what it tells of the item's parts -/
def spPart (C : Addr) (g : Str → Int → Int → Int → V) : Sp := fun vs H Q _ => ∃ x nm lo hi pr, vs = [.ref x] ∧ ItemAt C H x nm lo hi pr ∧ Q (g nm lo hi pr) H
abbrev spName (C : Addr) : Sp := spPart C fun nm _ _ _ => .str nm
abbrev spLeast (C : Addr) : Sp := spPart C fun _ lo _ _ => .int lo
abbrev spGreatest (C : Addr) : Sp := spPart C fun _ _ hi _ => .int hi
abbrev spIsExact (C : Addr) : Sp := spPart C fun _ lo hi _ => .bl (decide (lo = hi))
theorem ok_name (T : Txt K mg a) : FnOk P w K mg base CX0 1 a.f_Item_name a.d_Item_name ["self"] (spName a.c_Item) := by
  refine T.F_Item_name.ok sc_Item_name (fun vs H Q E h => ?_) (fun cdv A outer s H vs Q E hr h => ?_)
  · obtain ⟨x, nm, lo, hi, pr, rfl, _⟩ := h
    rfl
  · obtain ⟨x, nm, lo, hi, pr, rfl, ⟨dx, hx⟩, q⟩ := h
    exact ⟨_, (pss_one (ps_ret (pe_fld (pv 0) rfl))), _, rfl, x, _, dx, _, _, rfl, hx, T.cl_Item, T.n_Item__name, l_name, q⟩
theorem ok_least (T : Txt K mg a) : FnOk P w K mg base CX0 1 a.f_Item_least a.d_Item_least ["self"] (spLeast a.c_Item) := by
  refine T.F_Item_least.ok sc_Item_least (fun vs H Q E h => ?_) (fun cdv A outer s H vs Q E hr h => ?_)
  · obtain ⟨x, nm, lo, hi, pr, rfl, _⟩ := h
    rfl
  · obtain ⟨x, nm, lo, hi, pr, rfl, ⟨dx, hx⟩, q⟩ := h
    exact ⟨_, (pss_one (ps_ret (pe_fld (pv 0) rfl))), _, rfl, x, _, dx, _, _, rfl, hx, T.cl_Item, T.n_Item__least, l_least, q⟩
theorem ok_greatest (T : Txt K mg a) : FnOk P w K mg base CX0 1 a.f_Item_greatest a.d_Item_greatest ["self"] (spGreatest a.c_Item) := by
  refine T.F_Item_greatest.ok sc_Item_greatest (fun vs H Q E h => ?_) (fun cdv A outer s H vs Q E hr h => ?_)
  · obtain ⟨x, nm, lo, hi, pr, rfl, _⟩ := h
    rfl
  · obtain ⟨x, nm, lo, hi, pr, rfl, ⟨dx, hx⟩, q⟩ := h
    exact ⟨_, (pss_one (ps_ret (pe_fld (pv 0) rfl))), _, rfl, x, _, dx, _, _, rfl, hx, T.cl_Item, T.n_Item__greatest, l_greatest, q⟩
theorem ok_is_exact (T : Txt K mg a) : FnOk P w K mg base CX0 1 a.f_Item_is_exact a.d_Item_is_exact ["self"] (spIsExact a.c_Item) := by
  refine T.F_Item_is_exact.ok sc_Item_is_exact (fun vs H Q E h => ?_) (fun cdv A outer s H vs Q E hr h => ?_)
  · obtain ⟨x, nm, lo, hi, pr, rfl, _⟩ := h
    rfl
  · obtain ⟨x, nm, lo, hi, pr, rfl, ⟨dx, hx⟩, q⟩ := h
    refine ⟨_, (pss_one (ps_ret (pe_cmpR op_eq (pe_fld (pv 0) rfl) (pe_fld (pv 0) rfl) (nomark _)))), _, rfl, x, _, dx, _, _, rfl, hx, T.cl_Item, T.n_Item__least, l_least, _, rfl, x, _, dx, _, _, rfl, hx, T.cl_Item, T.n_Item__greatest, l_greatest, rfl, ?_⟩
    rw [dV_int]
    exact q
end
end Ask

set_option Elab.async false
set_option linter.all false
set_option maxRecDepth 100000
set_option maxHeartbeats 4000000
namespace Ask
open PySem L2
open PyProof.Rows
local macro_rules | `(tactic| walk_at "h") => `(tactic| first
  | assumption | exact upd_same
  | (refine Eq.trans (upd_ne (by first | assumption | exact Ne.symm (by assumption) | exact ne_of_none (by walk_at "h") (by assumption))) ?_; walk_at "h"))
local macro_rules | `(tactic| walk_at "rd") => `(tactic| repeat (first
  | (refine ⟨_, rfl, ?_⟩) | (refine ⟨_, _, rfl, rfl, ?_⟩)
  | (apply rd_ixL 0; walk_at "h"; exact rfl)
  | (apply rd_ixL 1; walk_at "h"; exact rfl)
  | (apply rd_ixL 2; walk_at "h"; exact rfl)
  | (refine ⟨by show (0 : Int) < _; decide, ?_⟩)
  | (refine ⟨.inr ⟨by decide, by decide⟩, ?_⟩)
  | (refine iteT ?_) | (refine iteF ?_)))
section
variable {P : Program} {w : World} {K : PySem.W.Frag} {mg : Str → Option Value} {base : Heap} {a : Ad}
theorem ok_pen (T : Txt K mg a) :
    FnOk P w K mg base CX0 1 a.f__law_pen a.d__law_pen ["script"] (spPen K) := by
  refine T.F__law_pen.ok sc__law_pen (fun vs H Q E h => ?_) (fun cdv A outer s H vs Q E hr h => ?_)
  · obtain ⟨a, ns, rfl, _⟩ := h
    rfl
  · obtain ⟨a, ns, rfl, hS, hl, k⟩ := h
    refine ⟨_, (pss_one (ps_ret (pe_lst (pa_cons (pe_callTy call_list_of (by rfl) T.b_list (by decide +kernel) (pa_cons (pe_slice sl_list (pv 0) po_none (po_some pe_int)) pa_nil)) (pa_cons pe_int (pa_cons pe_int pa_nil)))))), ?_⟩
    refine ⟨_, rfl, _, rfl, a, _, rfl, hS, fun q hq => ?_⟩
    refine ⟨q, _, rfl, .inl (SqL.of upd_same), fun l hl' => ?_⟩
    refine ⟨by show 3 ≤ sizeLine; decide, fun p hp => ?_⟩
    have nlq : l ≠ q := fun z => by
      rw [z, upd_same] at hl'
      cases hl'
    have npl : p ≠ l := fun z => by
      rw [z, upd_same] at hp
      cases hp
    have npq : p ≠ q := fun z => by
      rw [z, upd_ne nlq.symm, upd_same] at hp
      cases hp
    have hl0 : H l = none := by
      rw [upd_ne nlq] at hl'
      exact hl'
    have hp0 : H p = none := by
      rw [upd_ne npl, upd_ne npq] at hp
      exact hp
    refine k p _ hp0 ?_ ⟨l, 0, 0, ns.take 60, upd_same, ?_, by omega, by omega, by omega, ?_⟩
    · intro b o hb e
      rw [upd_ne hb, upd_ne (ne_of_none e hl0), upd_ne (ne_of_none e hq)]
      exact e
    · rw [upd_ne npl.symm, upd_same]
      rw [show (60 : Int) = ((60 : Nat) : Int) from rfl, cut_ints]
    · rw [List.length_take]
      omega
theorem ok_next (T : Txt K mg a) :
    FnOk P w K mg base CX0 1 a.f__law_next a.d__law_next ["pen"] spNext := by
  refine T.F__law_next.ok sc__law_next (fun vs H Q E h => ?_) (fun cdv A outer s H vs Q E hr h => ?_)
  · obtain ⟨p, n, l, i, v, ns, rfl, _⟩ := h
    rfl
  · obtain ⟨p, n, l, i, v, ns, rfl, hp, hl, i0, i1, n1, hns, k⟩ := h
    have nd := sc__law_next.nd
    have npl : l ≠ p := ne_of hl hp (by
      intro q
      have q2 := HO.lst.inj q
      cases ns with
      | nil => cases q2
      | cons a r => cases q2)
    refine ⟨_, (pss_cons (ps_set (i := 1) nd rfl (by first | exact Or.inl rfl | exact Or.inr rfl) (pe_ix ix_list (pv 0) pe_int (fun _ _ => rfl)))
  (pss_cons (ps_asg (pe_op op_add (pv 1) pe_int) (pg_sub (pv 0) pe_int set_list))
  (pss_cons (ps_set (i := 2) nd rfl (by first | exact Or.inl rfl | exact Or.inr rfl) (pe_op op_add (pe_op op_mul (pv 1) pe_int) pe_int))
  (Evl.pss_cut (ps_if (pt_cmpR (op_neD hr.units) (pe_ix ix_list (pv 0) pe_int (fun _ _ => rfl)) (pe_lst pa_nil) (nomark _))
    (pss_one (ps_set (i := 2) nd rfl (by first | exact Or.inl rfl | exact Or.inr rfl) (pe_ix ix_list (pe_ix ix_list (pv 0) pe_int (fun _ _ => rfl)) (pe_op op_mod (pv 1) (pe_callB call_len_seq (by rfl) T.b_len PySem.boot_len (pa_cons (pe_ix ix_list (pv 0) pe_int (fun _ _ => rfl)) pa_nil))) (fun _ _ => rfl))))
    pss_nil)
  (Evl.pss_cut (ps_if (PW.pt (pw_and (pt_cmpR op_lt (pv 1) (pe_callB call_len_seq (by rfl) T.b_len PySem.boot_len (pa_cons (pe_ix ix_list (pv 0) pe_int (fun _ _ => rfl)) pa_nil)) (nomark _)) (pw_and1 (pt_cmpR op_ge (pv 2) (pe_op op_pow pe_int pe_int) (nomark _)))))
    (pss_one (ps_ret (pv 2)))
    pss_nil)
  (Evl.pss_cut (ps_set (i := 3) nd rfl (by first | exact Or.inl rfl | exact Or.inr rfl) (pe_op op_mod (pe_op op_add (pe_op op_add (pe_op op_mod (pv 2) pe_int) (pe_op op_mul (pv 1) pe_int)) pe_int) pe_int))
  (Evl.pss_cut (ps_set (i := 4) nd rfl (by first | exact Or.inl rfl | exact Or.inr rfl) (pe_op op_mod (pe_op op_add (pe_op op_add (pe_op op_mul (pv 3) (pv 3)) (pe_op op_mul (pv 1) pe_int)) pe_int) pe_int))
  (Evl.pss_cut (ps_set (i := 5) nd rfl (by first | exact Or.inl rfl | exact Or.inr rfl) (pe_op op_mod (pe_op op_add (pe_op op_add (pe_op op_mul (pv 4) (pv 4)) (pv 3)) (pe_op op_mul (pe_op op_mul (pv 1) (pv 1)) pe_int)) pe_int))
  (pss_one (ps_ret (pe_op op_add (pe_op op_mul (pe_op op_add (pe_op op_mul (pv 5) pe_int) (pv 4)) pe_int) (pv 3)))))))))))), ?_⟩
    walk_at "rd"
    refine ⟨p, _, _, 1, rfl, rfl, hp, rfl, ?_⟩
    walk_at "rd"
    have hp' : upd H p (.lst [.ref l, .int (i + 1), .int v]) p = some (.lst [.ref l, .int (i + 1), .int v]) := upd_same
    have hl' : upd H p (.lst [.ref l, .int (i + 1), .int v]) l = some (.lst (ns.map V.int)) := by
      rw [upd_ne npl]
      exact hl
    show Evl.tCut _ _ _ _ _
    refine ⟨fun σ' H' => ∃ c : Int, σ' = [some (.ref p), some (.int i), some (.int c), none, none, none] ∧
      H' p = some (.lst [.ref l, .int (i + 1), .int v]) ∧ H' l = some (.lst (ns.map V.int)) ∧ (∀ z : Int, 0 ≤ z → Q (.int z) H'), ?_, ?_⟩
    · walk_at "rd"
      refine ⟨Nat.zero_le _, fun q hq => ?_⟩
      have nql : l ≠ q := ne_of_none hl' hq
      have nqp : p ≠ q := ne_of_none hp' hq
      have hp3 : upd (upd H p (.lst [.ref l, .int (i + 1), .int v])) q (.lst []) p = some (.lst [.ref l, .int (i + 1), .int v]) := by
        rw [upd_ne nqp]
        exact hp'
      have hl3 : upd (upd H p (.lst [.ref l, .int (i + 1), .int v])) q (.lst []) l = some (.lst (ns.map V.int)) := by
        rw [upd_ne nql]
        exact hl'
      refine ⟨_, _, .lst (SqL.of hl3) (dp_ints ns), .lst (SqL.of upd_same) .nil, shaped_ints ns, rfl, _, rfl, ?_⟩
      rw [ne_nil]
      have k3 : ∀ z : Int, 0 ≤ z → Q (.int z) (upd (upd H p (.lst [.ref l, .int (i + 1), .int v])) q (.lst [])) := fun z hz => k z hz _ (But.trans But.upd (But.new hq)) hp3
      cases ns with
      | nil => exact iteF ⟨_, rfl, hp3, hl3, k3⟩
      | cons a r =>
        refine iteT ?_
        walk_at "rd"
        refine ⟨_, _, rfl, .inl (SqL.of (by walk_at "h")), ?_⟩
        walk_at "rd"
        obtain ⟨j, ej, hj⟩ := mod_below i (n := (List.map V.int (a :: r)).length) (by rw [List.length_map]; exact Nat.succ_pos _)
        obtain ⟨c, hc⟩ := ints_at (ns := a :: r) (j := j) (by rw [List.length_map] at hj; exact hj)
        refine ⟨by rw [List.length_map]; show (0 : Int) < ((r.length + 1 : Nat) : Int); omega, ?_⟩
        refine ⟨l, _, _, .int c, rfl, rfl, SqL.of (by walk_at "h"), by rw [ej]; exact atI_nat hc, ?_⟩
        exact ⟨c, rfl, hp3, hl3, k3⟩
    · rintro σ' H' ⟨c, rfl, hp2, hl2, k2⟩
      have hi : -(2 ^ 64) < i ∧ i < 2 ^ 64 := ⟨by omega, by omega⟩
      refine ⟨fun σ' H2 => σ' = [some (.ref p), some (.int i), some (.int c), none, none, none] ∧ H2 = H', ?_, ?_⟩
      · walk_at "rd"
        refine ⟨_, _, rfl, .inl (SqL.of (by walk_at "h")), ?_⟩
        walk_at "rd"
        refine ite2 (fun hc => ?_) (fun hc => ?_)
        · walk_at "rd"
          refine ⟨⟨by decide, by decide, by decide⟩, ?_⟩
          walk_at "rd"
          refine ite2 (fun hd => ?_) (fun hd => ?_)
          · walk_at "rd"
            refine k2 c ?_
            have h := of_decide_eq_true hd
            have e : (10 : Int) ^ (18 : Int).toNat = 1000000000000000000 := by decide
            rw [e] at h
            omega
          · exact ⟨rfl, rfl⟩
        · exact iteF ⟨rfl, rfl⟩
      · rintro σ' H2' ⟨rfl, rfl⟩
        refine ⟨fun σ' H2 => ∃ low : Int, (0 ≤ low ∧ low < 2147483587) ∧ σ' = [some (.ref p), some (.int i), some (.int c), some (.int low), none, none] ∧ H2 = H2', ?_, ?_⟩
        · walk_at "rd"
          exact ⟨_, ⟨Int.emod_nonneg _ (by decide), Int.emod_lt_of_pos _ (by decide)⟩, rfl, rfl⟩
        · rintro σ' H2 ⟨low, ⟨l0, l1⟩, rfl, rfl⟩
          refine ⟨fun σ' H3 => ∃ mid : Int, (0 ≤ mid ∧ mid < 2147483563) ∧ σ' = [some (.ref p), some (.int i), some (.int c), some (.int low), some (.int mid), none] ∧ H3 = H2, ?_, ?_⟩
          · walk_at "rd"
            refine ⟨.inl ⟨by omega, by omega⟩, ?_⟩
            walk_at "rd"
            exact ⟨_, ⟨Int.emod_nonneg _ (by decide), Int.emod_lt_of_pos _ (by decide)⟩, rfl, rfl⟩
          · rintro σ' H3 ⟨mid, ⟨m0, m1⟩, rfl, rfl⟩
            refine ⟨fun σ' H4 => ∃ top : Int, (0 ≤ top ∧ top < 2147483549) ∧ σ' = [some (.ref p), some (.int i), some (.int c), some (.int low), some (.int mid), some (.int top)] ∧ H4 = H3, ?_, ?_⟩
            · walk_at "rd"
              refine ⟨.inl ⟨by omega, by omega⟩, ?_⟩
              walk_at "rd"
              refine ⟨.inl hi, ?_⟩
              walk_at "rd"
              exact ⟨_, ⟨Int.emod_nonneg _ (by decide), Int.emod_lt_of_pos _ (by decide)⟩, rfl, rfl⟩
            · rintro σ' H4 ⟨top, ⟨t0, t1⟩, rfl, rfl⟩
              walk_at "rd"
              exact k2 _ (by omega)
end
section
variable {P : Program} {w : World} {K : PySem.W.Frag} {mg : Str → Option Value} {base : Heap} {a : Ad}
/-- the pen's list of cells stays the same one -/
def SameL (p : Addr) (H H' : Hp) : Prop := ∀ l i v, H p = some (.lst [.ref l, .int i, .int v]) → ∃ i' v', H' p = some (.lst [.ref l, .int i', .int v'])
theorem SameL.trans {p : Addr} {H H1 H2 : Hp} (a : SameL p H H1) (b : SameL p H1 H2) : SameL p H H2 := fun l i v e => by
  obtain ⟨i', v', e'⟩ := a l i v e
  exact b l i' v' e'
theorem SameL.new {p q : Addr} {H : Hp} {o : HO} (e : p ≠ q) : SameL p H (upd H q o) := fun l i v z => ⟨i, v, by rw [upd_ne e]; exact z⟩
theorem SameL.of {p : Addr} {H H' : Hp} (s : Same H H') : SameL p H H' := fun l i v z => ⟨i, v, s _ _ z⟩
def spDrawL : Sp := fun vs H Q _ => ∃ (p : Addr) (n : Nat) (b : Int), vs = [.ref p, .int b] ∧ Pen H p n ∧ n ≤ 1000000 ∧
  0 < b ∧ b < 2 ^ 200 ∧ ∀ (z : Int) H', 0 ≤ z → z < b → But p H H' → Pen H' p (n + 1) → SameL p H H' → Q (.int z) H'
theorem ok_drawL (T : Txt K mg a) : FnOk P w K mg base CX0 2 a.f__law_draw a.d__law_draw ["pen", "below"] spDrawL := by
  have G_law_next : FnOk P w K mg base CX0 1 a.f__law_next a.d__law_next ["pen"] spNext := ok_next T
  refine T.F__law_draw.ok sc__law_draw (fun vs H Q E h => ?_) (fun cdv A outer s H vs Q E hr h => ?_)
  · obtain ⟨p, n, b, rfl, _⟩ := h
    rfl
  · obtain ⟨p, n, b, rfl, ⟨l, i, v, ns, hp, hl, i0, i1, v0, hns⟩, n1, b0, b1, k⟩ := h
    have nd := sc__law_draw.nd
    refine ⟨_, (Evl.pss_cut (ps_if (pt_cmpR op_lt (pe_ix ix_list (pv 0) pe_int (fun _ _ => rfl)) (pv 1) (nomark _))
    (pss_one (ps_asg (pe_call G_law_next (hr.mono (by first | decide | omega)) rfl T.g__law_next T.F__law_next.kp T.b__law_next .nil pass0 (pa_cons (pv 0) pa_nil)) (pg_sub (pv 0) pe_int set_list)))
    pss_nil)
  (pss_cons (ps_set (i := 2) nd rfl (by first | exact Or.inl rfl | exact Or.inr rfl) (pe_op op_mod (pe_ix ix_list (pv 0) pe_int (fun _ _ => rfl)) (pv 1)))
  (pss_cons (ps_asg (pe_op op_fdivW (pe_ix ix_list (pv 0) pe_int (fun _ _ => rfl)) (pv 1)) (pg_sub (pv 0) pe_int set_list))
  (pss_one (ps_ret (pv 2)))))), ?_⟩
    refine ⟨fun σ' H' => ∃ j u : Int, σ' = [some (.ref p), some (.int b), none] ∧ H' p = some (.lst [.ref l, .int j, .int u]) ∧
      0 ≤ j ∧ j ≤ i + 1 ∧ 0 ≤ u ∧ But p H H', ?_, ?_⟩
    · walk_at "rd"
      refine ite2 (fun hc => ?_) (fun hc => ?_)
      · walk_at "rd"
        refine ⟨p, n, l, i, v, ns, rfl, hp, hl, i0, i1, n1, hns, fun z hz H' hb' hp' => ?_⟩
        walk_at "rd"
        refine ⟨p, _, _, 2, rfl, rfl, hp', rfl, ?_⟩
        exact ⟨i + 1, z, rfl, upd_same, by omega, by omega, hz, But.trans hb' But.upd⟩
      · exact ⟨i, v, rfl, hp, i0, by omega, v0, But.refl p H⟩
    · rintro σ' H' ⟨j, u, rfl, hp', j0, j1, u0, hb'⟩
      walk_at "rd"
      refine ⟨b0, ?_⟩
      walk_at "rd"
      refine ⟨⟨b0, Nat.lt_of_lt_of_le (PySem.Flt.log2_lt_of (by decide : 0 < 200) (by omega)) (by decide)⟩, ?_⟩
      walk_at "rd"
      refine ⟨p, _, _, 2, rfl, rfl, hp', rfl, ?_⟩
      walk_at "rd"
      have nlp : l ≠ p := by
        refine ne_of hl hp ?_
        intro q
        have q2 := HO.lst.inj q
        cases ns with
        | nil => cases q2
        | cons a r => cases q2
      refine k _ _ (Int.emod_nonneg _ (by omega)) (Int.emod_lt_of_pos _ b0) (But.trans hb' But.upd) ⟨l, j, _, ns, upd_same, ?_, j0, by omega, ?_, hns⟩ ?_
      · rw [upd_ne nlp]
        exact hb' _ _ nlp hl
      · exact Int.ediv_nonneg u0 (by omega)
      · intro l2 i2 v2 e
        rw [hp] at e
        cases e
        exact ⟨_, _, upd_same⟩
theorem ok_draw (T : Txt K mg a) : FnOk P w K mg base CX0 2 a.f__law_draw a.d__law_draw ["pen", "below"] spDraw :=
  (ok_drawL T).imp fun vs H Q E ⟨p, n, b, e, hp, h1, h2, h3, k⟩ => ⟨p, n, b, e, hp, h1, h2, h3, fun z H' z0 z1 b1 p1 _ => k z H' z0 z1 b1 p1⟩
end
end Ask

set_option Elab.async false
set_option linter.all false
set_option maxRecDepth 100000
set_option maxHeartbeats 4000000
set_option pp.deepTerms false
set_option pp.deepTerms.threshold 14
namespace Ask
open PySem L2
open PyProof.Rows
section
variable {P : Program} {w : World} {K : PySem.W.Frag} {mg : Str → Option Value} {base : Heap} {a : Ad}
/-- at x: the item of the row r -/
def ItemIs (C : Addr) (H : Hp) (x : Addr) (r : Rw) : Prop := ItemAt C H x r.nm r.lo r.hi r.pr
theorem ItemIs.same {C : Addr} {H H' : Hp} {x : Addr} {r : Rw} (h : ItemIs C H x r) (s : Same H H') : ItemIs C H' x r := by
  obtain ⟨dx, h⟩ := h
  exact ⟨dx, s _ _ h⟩
abbrev Items (C : Addr) (H : Hp) (as : List Addr) (rs : List Rw) : Prop := Paired (ItemIs C H) as rs
theorem paired_map {α β : Type} {F G : α → β → Prop} (h : ∀ x y, F x y → G x y) : ∀ {xs : List α} {ys : List β}, Paired F xs ys → Paired G xs ys := paired_imp h
theorem Items.same {C : Addr} {H H' : Hp} {as : List Addr} {rs : List Rw} (h : Items C H as rs) (s : Same H H') : Items C H' as rs := paired_imp (fun _ _ z => ItemIs.same z s) h
theorem Items.at {C : Addr} {H : Hp} {as : List Addr} {rs : List Rw} (h : Items C H as rs) {i : Nat} {v : V} (e : (as.map V.ref)[i]? = some v) : ∃ x r, v = .ref x ∧ as[i]? = some x ∧ rs[i]? = some r ∧ ItemIs C H x r := by
  rw [List.getElem?_map] at e
  cases e2 : as[i]? with
  | none => rw [e2] at e; cases e
  | some x =>
    rw [e2] at e
    obtain ⟨r, e3, z⟩ := LiI.paired_get h e2
    exact ⟨x, r, (Option.some.inj e).symm, rfl, e3, z⟩
/-- _check_items, all of them items -/
def spCheck (C : Addr) : Sp := fun vs H Q _ => ∃ t as rs, vs = [.ref t] ∧ H t = some (.tup (as.map V.ref)) ∧ Items C H as rs ∧ Q .non H
theorem ok_check (T : Txt K mg a) : FnOk P w K mg base CX0 1 a.f__check_items a.d__check_items ["things"] (spCheck a.c_Item) := by
  refine T.F__check_items.ok sc__check_items (fun vs H Q E h => ?_) (fun cdv A outer s H vs Q E hr h => ?_)
  · obtain ⟨t, as, rs, rfl, _⟩ := h
    rfl
  · obtain ⟨t, as, rs, rfl, ht, hi, q⟩ := h
    have nd := sc__check_items.nd
    refine ⟨_, (pss_one (ps_for PassesOwn.never rfl (pi_tup (pv 0)) (pg_name (i := 1) nd rfl (by first | exact Or.inl rfl | exact Or.inr rfl))
    (pss_one (ps_if (pt_not (pt_val (pe_callB call_isi (by rfl) T.b_isinstance (by decide +kernel) (pa_cons (pv 1) (pa_cons (pe_glob (v := .ref a.c_Item) rfl T.g_Item rfl) pa_nil)))))
    (pss_one ps_never)
    pss_nil)))), ?_⟩
    refine ⟨_, rfl, t, rfl, ⟨_, SqT.of ht⟩, for_tup (xs := as.map V.ref) (fun _ σ' H' => H' = H ∧ ∃ v, σ' = [some (.ref t), v]) ⟨rfl, none, rfl⟩ (fun _ _ H' _ ⟨e, _⟩ => by rw [e]; exact SqT.of ht) ?_ ?_⟩
    · rintro i v σ' H' e ⟨rfl, v0, rfl⟩
      obtain ⟨x, r, rfl, _, _, dx, hx⟩ := hi.at e
      refine ⟨_, rfl, .ref x, .ref a.c_Item, _, _, true, rfl, .own _, T.ty_Item.of T.cl_Item hx, kit_self, true, rfl, iteF ?_⟩
      exact ⟨rfl, _, rfl⟩
    · rintro σ' H' ⟨rfl, _⟩
      exact q
/-- Pool.__init__, items of different names -/
def spPInit (C CI : Addr) : Sp := fun vs H Q _ => ∃ (x dx t : Addr) (as : List Addr) (rs : List Rw), vs = [.ref x, .ref t] ∧ H x = some (.ins C dx []) ∧ H t = some (.tup (as.map V.ref)) ∧ Items CI H as rs ∧ (rs.map (·.nm)).Nodup ∧ rs.length < 64 ∧
  ∀ H' d as' rs', But x H H' → H' x = some (.ins C dx [("_by_name", .ref d)]) → H' d = some (.dK (ents as' rs')) → Items CI H' as' rs' → (∀ r, r ∈ rs' ↔ r ∈ rs) → Asc rs' → Q .non H'
theorem ok_pinit (T : Txt K mg a) : ∀ (cdv : Value) (A : Around) (outer : List Env) (s : Shared) (H : Hp) (vs : List V) (Q : VK) (E : XK), Room 2 (A.deeper (envOfC "Pool.__init__" (defScope s_Pool___init__) s.heap.objs.size a.f_Pool___init__ cdv)) → spPInit a.c_Pool a.c_Item vs H Q E →
    ∃ t, PSs (cxOf CX0 P w K mg base ["self", "items", "found", "item", "name"] "Pool.__init__" (defScope s_Pool___init__) a.f_Pool___init__ cdv A outer s H E) (defBody s_Pool___init__) t ∧ t { nx := fun _ H' => Q .non H', rt := Q } (start ["self", "items", "found", "item", "name"] vs) H := by
  have G_check_items : FnOk P w K mg base CX0 1 a.f__check_items a.d__check_items ["things"] (spCheck a.c_Item) := ok_check T
  have G_name : FnOk P w K mg base CX0 1 a.f_Item_name a.d_Item_name ["self"] (spName a.c_Item) := ok_name T
  intro cdv A outer s H vs Q E hr h
  obtain ⟨x, dx, t, as, rs, rfl, hx, ht, hi, hn, hl, k⟩ := h
  have nd := sc_Pool___init__.nd
  refine ⟨_, PSs.nox (pss_cons (ps_expr (pe_call G_check_items (hr.mono (by first | decide | omega)) rfl T.g__check_items T.F__check_items.kp T.b__check_items .nil pass0 (pa_cons (pv 1) pa_nil)))
  (Evl.pss_cut (ps_set (i := 2) nd rfl (by first | exact Or.inl rfl | exact Or.inr rfl) pe_dnewK)
  (Evl.pss_cut (ps_for PassesOwn.never rfl (pi_tup (pv 1)) (pg_name (i := 3) nd rfl (by first | exact Or.inl rfl | exact Or.inr rfl))
    (pss_cons (ps_if (pt_cmp (pc_din (hu_of hr) (pe_prop (pv 3) T.cl_Item T.m_Item_name G_name (hr.mono (by decide)) T.b_Item_name .nil pass0 rfl) (pv 2)))
    (pss_one ps_never)
    pss_nil)
  (pss_one (ps_dput (hu_of hr) (pv 2) (pe_prop (pv 3) T.cl_Item T.m_Item_name G_name (hr.mono (by decide)) T.b_Item_name .nil pass0 rfl) (pv 3) rfl))))
  (pss_one (ps_fld (pv 0) (pe_dc (own := [("name", 4)]) (g := gName 4) (tt := tYes) rfl nd (pi_list (pe_callB (call_sortedD rfl) (by rfl) T.b_sorted (by decide +kernel) (pa_cons (pv 2) pa_nil))) (blkOk_by (N := ["self", "items", "found", "item", "name"]) (sc := defScope s_Pool___init__) (by decide +kernel)) (fun _ _ _ _ _ => (pg_name (i := 4) nd rfl (by first | exact Or.inl rfl | exact Or.inr rfl))) (fun _ _ _ _ _ => pts_nil) (fun _ _ _ _ _ => (pv 4)) (fun _ _ _ _ _ => (pe_dget (hu_of hr) (pv 2) (pv 4) (fun _ _ => rfl)))) rfl))))), ?_⟩
  refine ⟨_, rfl, t, as, rs, rfl, ht, hi, ?_⟩
  have hlen : as.length = rs.length := paired_len hi
  -- found
  refine ⟨fun σ' H' => ∃ D, H D = none ∧ σ' = [some (.ref x), some (.ref t), some (.ref D), none, none] ∧ H' = upd H D (.dK []), fun D hD => ⟨D, hD, rfl, rfl⟩, ?_⟩
  rintro σ1 H1 ⟨D, hD, rfl, rfl⟩
  have nxD : x ≠ D := ne_of_none hx hD
  have S1 := Same.new hD (o := .dK [])
  -- the loop
  refine ⟨fun σ' H' => ∃ v, σ' = [some (.ref x), some (.ref t), some (.ref D), v, none] ∧ H' D = some (.dK (ents as rs)) ∧ But D (upd H D (.dK [])) H', ?_, ?_⟩
  · refine ⟨_, rfl, t, rfl, ⟨_, SqT.of (S1 _ _ ht)⟩, for_tup (xs := as.map V.ref) (fun i σ' H' => ∃ v, σ' = [some (.ref x), some (.ref t), some (.ref D), v, none] ∧ H' D = some (.dK (ents (as.take i) (rs.take i))) ∧ But D (upd H D (.dK [])) H')
      ⟨none, rfl, upd_same, But.refl _ _⟩ (fun _ _ H' _ ⟨_, _, _, b⟩ => SqT.of (b _ _ (ne_of_none ht hD) (S1 _ _ ht))) ?_ ?_⟩
    · rintro i v σ' H' e ⟨v0, rfl, hd, b⟩
      obtain ⟨y, r, rfl, ea, er, hy⟩ := hi.at e
      have hy' : ItemIs a.c_Item H' y r := by
        obtain ⟨dy, hy⟩ := hy
        exact ⟨dy, b _ _ (ne_of_none hy hD) (S1 _ _ hy)⟩
      obtain ⟨dy, hy2⟩ := id hy'
      have lt : (as.take i).length = (rs.take i).length := paired_take hi i
      have fresh : r.nm ∉ (rs.take i).map (·.nm) := by
        have hn' := hn
        have sp : rs.map (·.nm) = (rs.take i).map (·.nm) ++ (r.nm :: (rs.drop (i + 1)).map (·.nm)) := by
          have hlt : i < rs.length := (List.getElem?_eq_some_iff.mp er).1
          have e3 : rs.drop i = r :: rs.drop (i + 1) := by
            rw [List.drop_eq_getElem_cons hlt]
            congr 1
            exact (List.getElem?_eq_some_iff.mp er).2
          rw [← List.map_cons, ← e3, ← List.map_append, List.take_append_drop]
        rw [sp, List.nodup_append] at hn'
        intro m
        exact hn'.2.2 _ m _ List.mem_cons_self rfl
      have nv : valV (ents (as.take i) (rs.take i)) (Sum.inr r.nm : Key) = none := ents_none fresh
      refine ⟨_, rfl, y, dy, _, rfl, hy2, y, _, _, _, _, rfl, hy', _, rfl, D, _, rfl, DGet.k (k := Sum.inr r.nm) hd, _, rfl, ?_⟩
      rw [nv]
      refine iteF ⟨_, rfl, _, rfl, _, rfl, y, dy, _, rfl, hy2, y, _, _, _, _, rfl, hy', D, _, rfl, DPut.k (k := Sum.inr r.nm) hd ?_, ?_⟩
      · rw [ents_len lt, List.length_take]
        exact Nat.lt_of_lt_of_le (show _ < 64 by omega) (by decide)
      · refine ⟨_, rfl, ?_, b.trans But.upd⟩
        rw [upd_same, putK_new _ nv, take_snoc ea, take_snoc er, ents_snoc lt]
    · rintro σ' H' ⟨v0, rfl, hd, b⟩
      have e1 : as.take (as.map V.ref).length = as := by rw [List.length_map]; exact List.take_length
      have e2 : rs.take (as.map V.ref).length = rs := by rw [List.length_map, hlen]; exact List.take_length
      rw [e1, e2] at hd
      exact ⟨_, rfl, hd, b⟩
  · rintro σ2 H2 ⟨v, rfl, hd, b⟩
    refine ⟨_, rfl, D, _, rs.map (·.nm), rfl, .inl hd, ents_keys hlen, by rw [List.length_map]; exact hl, fun ys p perm srt hp => ?_⟩
    have ndy : ys.Nodup := perm.symm.nodup hn
    have asc : ys.Pairwise ltS := sortedS_lt srt ndy
    obtain ⟨as', rs', en, pr⟩ := pick_rows hlen ys (fun y hy => perm.subset hy)
    have hl' : as'.length = rs'.length := paired_len pr
    have ly : ys.length = rs'.length := by rw [← en, List.length_map]
    have ly2 : ys.length < 64 := by rw [perm.length_eq, List.length_map]; exact hl
    have nDp : D ≠ p := ne_of_none hd hp
    have S2 := Same.new hp (o := .lst (ys.map V.str))
    refine ⟨p, rfl, ⟨_, SqL.of upd_same⟩, fun E0' hE => ?_⟩
    refine dc_list (K := K) (a := p) (xs := ys.map V.str) (fun i H' => H' E0' = some (.dK (ents (as'.take i) (rs'.take i))) ∧ But E0' (upd H2 p (.lst (ys.map V.str))) H') ⟨upd_same, But.upd⟩ (fun _ H' _ ⟨_, b'⟩ => SqL.of (b' _ _ (ne_of_none upd_same hE) upd_same)) ?_ ?_
    · rintro i v H' e ⟨h1, b'⟩
      rw [List.getElem?_map] at e
      cases ey : ys[i]? with
      | none => rw [ey] at e; cases e
      | some y =>
        rw [ey] at e
        obtain rfl : V.str y = v := Option.some.inj e
        have er0 : (rs'.map (·.nm))[i]? = some y := by rw [en]; exact ey
        rw [List.getElem?_map] at er0
        cases er : rs'[i]? with
        | none => rw [er] at er0; cases er0
        | some r =>
          rw [er] at er0
          obtain rfl : r.nm = y := Option.some.inj er0
          have hlt : i < rs'.length := (List.getElem?_eq_some_iff.mp er).1
          have ea : as'[i]? = some (as'[i]'(by omega)) := List.getElem?_eq_getElem _
          obtain ⟨r2, er2, j, ja, jr⟩ := LiI.paired_get pr ea
          obtain rfl : r = r2 := Option.some.inj (er.symm.trans er2)
          generalize as'[i]'(by omega) = y at ea ja
          have nDE : D ≠ E0' := ne_of_none (S2 _ _ hd) hE
          have hd' : H' D = some (.dK (ents as rs)) := b' _ _ nDE (S2 _ _ hd)
          have lt : (as'.take i).length = (rs'.take i).length := paired_take pr i
          have asc' : Asc rs' := asc_of_names (by rw [en]; exact asc)
          have fresh : r.nm ∉ (rs'.take i).map (·.nm) := by
            have hn' := asc'.nodup
            have sp : rs'.map (·.nm) = (rs'.take i).map (·.nm) ++ (r.nm :: (rs'.drop (i + 1)).map (·.nm)) := by
              have e3 : rs'.drop i = r :: rs'.drop (i + 1) := by
                rw [List.drop_eq_getElem_cons hlt]
                congr 1
                exact (List.getElem?_eq_some_iff.mp er).2
              rw [← List.map_cons, ← e3, ← List.map_append, List.take_append_drop]
            rw [sp, List.nodup_append] at hn'
            intro m
            exact hn'.2.2 _ m _ List.mem_cons_self rfl
          have nv : valV (ents (as'.take i) (rs'.take i)) (Sum.inr r.nm : Key) = none := ents_none fresh
          have gv : valV (ents as rs) (Sum.inr r.nm : Key) = some (.ref y) := ents_some hn ja jr
          refine ⟨rfl, ?_⟩
          have g2 : DGet H' D (V.str r.nm) (some (.ref y)) := by
            rw [← gv]
            exact DGet.k (k := Sum.inr r.nm) hd'
          refine ⟨_, rfl, _, rfl, _, rfl, D, .ref y, rfl, g2, _, Sum.inr r.nm, rfl, h1, ?_, ?_, b'.trans But.upd⟩
          · rw [ents_len lt, List.length_take]
            exact Nat.lt_of_lt_of_le (show _ < 64 by omega) (by decide)
          · rw [upd_same, putK_new _ nv, take_snoc ea, take_snoc er, ents_snoc lt]
    · rintro H3 ⟨h3, b'⟩
      have e1 : as'.take (ys.map V.str).length = as' := by rw [List.length_map, ly, ← hl']; exact List.take_length
      have e2 : rs'.take (ys.map V.str).length = rs' := by rw [List.length_map, ly]; exact List.take_length
      rw [e1, e2] at h3
      have nxE : x ≠ E0' := ne_of_none (S2 _ _ (b _ _ nxD (S1 _ _ hx))) hE
      have hx3 : H3 x = some (.ins a.c_Pool dx []) := b' _ _ nxE (S2 _ _ (b _ _ nxD (S1 _ _ hx)))
      have S03 : Same H H3 := by
        intro c o ec
        have c1 : H2 c = some o := b _ _ (ne_of_none ec hD) (S1 _ _ ec)
        exact b' _ _ (ne_of_none (S2 _ _ c1) hE) (S2 _ _ c1)
      refine ⟨_, rfl, x, _, dx, _, rfl, hx3, T.cl_Pool, T.n_Pool__by_name, (by show 0 < 1000; decide), ?_⟩
      have S4 : But x H (upd H3 x (.ins a.c_Pool dx (putF "_by_name" (.ref E0') []))) := fun c o hc ec => by
        rw [upd_ne hc]
        exact S03 _ _ ec
      refine k _ E0' as' rs' S4 (by rw [upd_same]; with_unfolding_all rfl) (by rw [upd_ne (Ne.symm nxE)]; exact h3) ?_ (fun r => pick_mem hn pr en perm r) (asc_of_names (by rw [en]; exact asc))
      -- the items
      clear h3 hx3 S4 e1 e2
      clear asc srt
      have im : ∀ {z : Addr} {r : Rw}, Both as rs z r → ItemIs a.c_Item (upd H3 x (.ins a.c_Pool dx (putF "_by_name" (.ref E0') []))) z r := by
        rintro z r ⟨j, j1, j2⟩
        obtain ⟨r2, e2, dz, hz⟩ := LiI.paired_get hi j1
        obtain rfl : r = r2 := Option.some.inj (j2.symm.trans e2)
        refine ⟨dz, ?_⟩
        rw [upd_ne (ne_of hz hx (fun q => by have z := (HO.ins.inj q).2.2; unfold itF at z; cases z))]
        exact S03 _ _ hz
      exact paired_imp (fun _ _ z => im z) pr
end
end Ask

set_option Elab.async false
set_option linter.all false
set_option maxRecDepth 100000
set_option maxHeartbeats 4000000
set_option pp.deepTerms false
set_option pp.deepTerms.threshold 14
namespace Ask
open PySem L2
open PyProof.Rows
section
variable {P : Program} {w : World} {K : PySem.W.Frag} {mg : Str → Option Value} {base : Heap} {a : Ad}
theorem same_made {H : Hp} {C x dx : Addr} (hx : H x = none) (hdx : H dx = none) (ne : dx ≠ x) : Same H (upd (upd H dx (.own x)) x (.ins C dx [])) := by
  intro b o e
  rw [upd_ne (ne_of_none e hx), upd_ne (ne_of_none e hdx)]
  exact e
theorem made {H H' : Hp} {C x dx : Addr} (hx : H x = none) (hdx : H dx = none) (hb : But x (upd (upd H dx (.own x)) x (.ins C dx [])) H') : Same H H' := by
  intro b o e
  refine hb b o (ne_of_none e hx) ?_
  rw [upd_ne (ne_of_none e hx), upd_ne (ne_of_none e hdx)]
  exact e
/-- at x: a pool of these rows -/
def PoolAt (C CI : Addr) (H : Hp) (x : Addr) (rs : List Rw) : Prop := ∃ dx d as, H x = some (.ins C dx [("_by_name", .ref d)]) ∧ H d = some (.dK (ents as rs)) ∧ Items CI H as rs
theorem PoolAt.same {C CI : Addr} {H H' : Hp} {x : Addr} {rs : List Rw} (h : PoolAt C CI H x rs) (s : Same H H') : PoolAt C CI H' x rs := by
  obtain ⟨dx, d, as, h1, h2, h3⟩ := h
  exact ⟨dx, d, as, s _ _ h1, s _ _ h2, h3.same s⟩
theorem l_by {v : V} : List.lookup (Str.ofString "_by_name") [(Str.ofString "_by_name", v)] = some v := by with_unfolding_all rfl
def spPI (C CI : Addr) : Sp := fun vs H Q _ => ∃ (x dx : Addr) (as : List Addr) (rs : List Rw), vs = .ref x :: as.map V.ref ∧ H x = some (.ins C dx []) ∧ Items CI H as rs ∧ (rs.map (·.nm)).Nodup ∧ rs.length < 64 ∧
  ∀ H' rs', But x H H' → PoolAt C CI H' x rs' → (∀ r, r ∈ rs' ↔ r ∈ rs) → Asc rs' → Q .non H'
theorem r_pinit (T : Txt K mg a) : FnR P w K mg base CX0 3 a.f_Pool___init__ (spPI a.c_Pool a.c_Item) := by
  obtain ⟨oc, od, kV, doc, pm, an, cdv, ct, osl, e, lk, hcd⟩ := T.F_Pool___init__.ex
  have hb := StX.bind_star1 (p1 := "self") (pv := "items") (B := fun z => bindArgs (PySem.W.fnOf "__init__" "Pool.__init__" (defArgs s_Pool___init__) (defBody s_Pool___init__) (defScope s_Pool___init__) .none kV doc pm an cdv ct) ⟨z, []⟩) (fun _ => rfl) (fun _ _ _ => rfl)
  refine (StX.fn_star (k := 2) (ps := ["self"]) (pv := "items") (N := ["self", "items", "found", "item", "name"]) (sp := spPInit a.c_Pool a.c_Item) (by rw [← e]; exact lk) hcd sc_Pool___init__ StX.cxUp_none hb (fun A outer s H vs Q E hr h => ok_pinit T cdv A outer s H vs Q E hr h)).imp ?_
  rintro vs H Q E ⟨x, dx, as, rs, rfl, hx, hi, hn, hl, k⟩
  refine ⟨[.ref x], as.map V.ref, rfl, rfl, ?_, fun p hp => ?_⟩
  · rw [List.length_map, paired_len hi]
    exact Nat.le_trans (Nat.le_of_lt hl) (by decide)
  · have S := Same.new hp (o := .tup (as.map V.ref))
    refine ⟨x, dx, p, as, rs, rfl, S _ _ hx, upd_same, hi.same S, hn, hl, fun H' d as' rs' b hx' hd hi' hm asc => ?_⟩
    exact k H' rs' (fun c o hc ec => b c o hc (S _ _ ec)) ⟨dx, d, as', hx', hd, hi'⟩ hm asc
/-- names -/
def spPNames (C CI : Addr) : Sp := fun vs H Q _ => ∃ x rs, vs = [.ref x] ∧ PoolAt C CI H x rs ∧ ∀ p, H p = none → Q (.ref p) (upd H p (.lst ((rs.map (·.nm)).map V.str)))
theorem ok_pnames (T : Txt K mg a) : FnOk P w K mg base CX0 1 a.f_Pool_names a.d_Pool_names ["self"] (spPNames a.c_Pool a.c_Item) := by
  refine T.F_Pool_names.ok sc_Pool_names (fun vs H Q E h => ?_) (fun cdv A outer s H vs Q E hr h => ?_)
  · obtain ⟨x, rs, rfl, _⟩ := h
    rfl
  · obtain ⟨x, rs, rfl, ⟨dx, d, as, hx, hd, hi⟩, k⟩ := h
    refine ⟨_, (pss_one (ps_ret (pe_callTy (call_listD rfl) (by rfl) T.b_list (by decide +kernel) (pa_cons (pe_fld (pv 0) rfl) pa_nil)))), ?_⟩
    refine ⟨_, rfl, x, _, dx, _, _, rfl, hx, T.cl_Pool, T.n_Pool__by_name, l_by, d, _, rfl, .inl hd, fun p hp => ?_⟩
    have e : (ents as rs).map (fun kv => kV kv.1) = (rs.map (·.nm)).map V.str := by
      rw [show (fun kv : Key × V => kV kv.1) = kV ∘ (·.1) from rfl, ← List.map_map, ents_keys (paired_len hi), List.map_map]
      rfl
    rw [e]
    exact k p hp
/-- item, a name of the pool -/
def spPItem (C CI : Addr) : Sp := fun vs H Q _ => ∃ x rs r, vs = [.ref x, .str r.nm] ∧ PoolAt C CI H x rs ∧ (rs.map (·.nm)).Nodup ∧ r ∈ rs ∧ nameB r.nm = true ∧ ∀ y H', Same H H' → ItemIs CI H' y r → Q (.ref y) H'
theorem ok_pitem (T : Txt K mg a) : FnOk P w K mg base CX0 2 a.f_Pool_item a.d_Pool_item ["self", "name"] (spPItem a.c_Pool a.c_Item) := by
  have G_is_name : FnOk P w K mg base CX0 1 a.f_Item_is_name a.d_Item_is_name ["thing"] (spIsName K) := ok_is_name T
  refine T.F_Pool_item.ok sc_Pool_item (fun vs H Q E h => ?_) (fun cdv A outer s H vs Q E hr h => ?_)
  · obtain ⟨x, rs, r, rfl, _⟩ := h
    rfl
  · obtain ⟨x, rs, r, rfl, ⟨dx, d, as, hx, hd, hi⟩, hn, hm, hnm, k⟩ := h
    refine ⟨_, (pss_cons (ps_if (PW.pt (pw_or (pt_not (pt_val (pe_smeth (pe_glob (v := .ref a.c_Item) rfl T.g_Item rfl) T.rd_Item T.m_Item_is_name G_is_name (hr.mono (by decide)) T.b_Item_is_name pass0 (pa_cons (pv 1) pa_nil)))) (pw_or1 (pt_cmp (pc_dnotin (hu_of hr) (pv 1) (pe_fld (pv 0) rfl))))))
    (pss_one ps_never)
    pss_nil)
  (pss_one (ps_ret (pe_dget (hu_of hr) (pe_fld (pv 0) rfl) (pv 1) (fun _ _ => rfl))))), ?_⟩
    obtain ⟨y, gy, hy⟩ : ∃ y, valV (ents as rs) (Sum.inr r.nm : Key) = some (.ref y) ∧ ItemIs a.c_Item H y r := by
      obtain ⟨i, hi1, ei⟩ := List.mem_iff_getElem.mp hm
      have er : rs[i]? = some r := by rw [List.getElem?_eq_getElem hi1, ei]
      have ha : i < as.length := by rw [paired_len hi]; exact hi1
      have ea : as[i]? = some as[i] := List.getElem?_eq_getElem ha
      obtain ⟨r2, er2, z⟩ := LiI.paired_get hi ea
      obtain rfl : r = r2 := Option.some.inj (er.symm.trans er2)
      exact ⟨as[i], ents_some hn ea er, z⟩
    refine ⟨rfl, .str r.nm, rfl, .str r.nm, "str", rfl, ⟨.base (.str _), by decide⟩, .inr ⟨r.nm, rfl, Nat.le_trans (name_len hnm) (by decide), fun H1 S1 => ?_⟩⟩
    have hx1 := S1 _ _ hx
    have hd1 := S1 _ _ hd
    rw [hnm]
    have gd : DGet H1 d (.str r.nm) (some (.ref y)) := by
      rw [← gy]
      exact DGet.k (k := Sum.inr r.nm) hd1
    refine ⟨_, rfl, iteF ⟨_, rfl, _, rfl, x, _, dx, _, _, rfl, hx1, T.cl_Pool, T.n_Pool__by_name, l_by, d, _, rfl, gd, _, rfl, iteF ?_⟩⟩
    exact ⟨_, rfl, x, _, dx, _, _, rfl, hx1, T.cl_Pool, T.n_Pool__by_name, l_by, _, rfl, d, .ref y, rfl, gd, k y H1 S1 (hy.same S1)⟩
/-- with_items, items of different names -/
def spPWith0 (C CI : Addr) : Sp := fun vs H Q _ => ∃ (x t : Addr) (bs : List Addr) (rs qs : List Rw), vs = [.ref x, .ref t] ∧ PoolAt C CI H x rs ∧ (rs.map (·.nm)).Nodup ∧ H t = some (.tup (bs.map V.ref)) ∧ Items CI H bs qs ∧ rs.length + qs.length < 1000 ∧ (putAll rs qs).length < 64 ∧
  ∀ y H' rs', H y = none → Same H H' → PoolAt C CI H' y rs' → (∀ r, r ∈ rs' ↔ r ∈ putAll rs qs) → Asc rs' → Q (.ref y) H'
theorem ok_pwith (T : Txt K mg a) : ∀ (cdv : Value) (A : Around) (outer : List Env) (s : Shared) (H : Hp) (vs : List V) (Q : VK) (E : XK), Room 4 (A.deeper (envOfC "Pool.with_items" (defScope s_Pool_with_items) s.heap.objs.size a.f_Pool_with_items cdv)) → spPWith0 a.c_Pool a.c_Item vs H Q E →
    ∃ t, PSs (cxOf CX0 P w K mg base ["self", "items", "found", "item", "changed"] "Pool.with_items" (defScope s_Pool_with_items) a.f_Pool_with_items cdv A outer s H E) (defBody s_Pool_with_items) t ∧ t { nx := fun _ H' => Q .non H', rt := Q } (start ["self", "items", "found", "item", "changed"] vs) H := by
  have G_check_items : FnOk P w K mg base CX0 1 a.f__check_items a.d__check_items ["things"] (spCheck a.c_Item) := ok_check T
  have G_name : FnOk P w K mg base CX0 1 a.f_Item_name a.d_Item_name ["self"] (spName a.c_Item) := ok_name T
  intro cdv A outer s H vs Q E hr h
  obtain ⟨x, t, bs, rs, qs, rfl, ⟨dx, d, as, hx, hd, hi⟩, hn, ht, hq, hl, hl2, k⟩ := h
  have nd := sc_Pool_with_items.nd
  refine ⟨_, PSs.nox (pss_cons (ps_expr (pe_call G_check_items (hr.mono (by first | decide | omega)) rfl T.g__check_items T.F__check_items.kp T.b__check_items .nil pass0 (pa_cons (pv 1) pa_nil)))
  (Evl.pss_cut (ps_set (i := 2) nd rfl (by first | exact Or.inl rfl | exact Or.inr rfl) (pe_callTy call_dictD (by rfl) T.b_dict (by decide +kernel) (pa_cons (pe_fld (pv 0) rfl) pa_nil)))
  (Evl.pss_cut (ps_for PassesOwn.never rfl (pi_tup (pv 1)) (pg_name (i := 3) nd rfl (by first | exact Or.inl rfl | exact Or.inr rfl))
    (pss_one (ps_dput (hu_of hr) (pv 2) (pe_prop (pv 3) T.cl_Item T.m_Item_name G_name (hr.mono (by decide)) T.b_Item_name .nil pass0 rfl) (pv 3) rfl)))
  (pss_cons (ps_set (i := 4) nd rfl (by first | exact Or.inl rfl | exact Or.inr rfl) (pe_listValues rfl (pv 2) (by rfl) T.b_list (by decide +kernel)))
  (pss_one (ps_ret (pe_makeS T.mk_Pool (r_pinit T) (hr.mono (by decide)) rfl T.g_Pool pass0 (pv 4)))))))), ?_⟩
  refine ⟨_, rfl, t, bs, qs, rfl, ht, hq, ?_⟩
  have hlen := paired_len hi
  refine ⟨fun σ' H' => ∃ D, H D = none ∧ σ' = [some (.ref x), some (.ref t), some (.ref D), none, none] ∧ H' = upd H D (.dK (ents as rs)), ⟨_, rfl, x, _, dx, _, _, rfl, hx, T.cl_Pool, T.n_Pool__by_name, l_by, d, _, rfl, .inl hd, fun D hD => ⟨D, hD, rfl, rfl⟩⟩, ?_⟩
  rintro σ1 H1 ⟨D, hD, rfl, e1⟩
  have S1 : Same H H1 := e1 ▸ Same.new hD
  have hD1 : H1 D = some (.dK (ents as rs)) := by rw [e1]; exact upd_same
  have hi1 := hi.same S1
  have hq1 := hq.same S1
  have ht1 := S1 _ _ ht
  have ntD : t ≠ D := ne_of_none ht hD
  clear e1
  -- the loop
  refine ⟨fun σ' H' => ∃ v as', σ' = [some (.ref x), some (.ref t), some (.ref D), v, none] ∧ H' D = some (.dK (ents as' (putAll rs qs))) ∧ Items a.c_Item H1 as' (putAll rs qs) ∧ But D H1 H', ?_, ?_⟩
  · refine ⟨_, rfl, t, rfl, ⟨_, SqT.of ht1⟩, for_tup (xs := bs.map V.ref) (fun i σ' H' => ∃ v as', σ' = [some (.ref x), some (.ref t), some (.ref D), v, none] ∧ H' D = some (.dK (ents as' (putAll rs (qs.take i)))) ∧ Items a.c_Item H1 as' (putAll rs (qs.take i)) ∧ But D H1 H')
      ⟨none, as, rfl, hD1, hi1, But.refl _ _⟩ (fun _ _ H' _ ⟨_, _, _, _, _, b⟩ => SqT.of (b _ _ ntD ht1)) ?_ ?_⟩
    · rintro i v σ' H' e ⟨v0, as', rfl, hd', hi', b⟩
      obtain ⟨y, r, rfl, ea, er, hy⟩ := hq1.at e
      obtain ⟨dy, hy1⟩ := id hy
      have nyD : y ≠ D := ne_of hy1 hD1 (fun z => by cases z)
      have hy2 := b _ _ nyD hy1
      have n' : ((putAll rs (qs.take i)).map (·.nm)).Nodup := putAll_nodup hn
      obtain ⟨p1, p2⟩ := ents_put (a := y) (r := r) (paired_len hi') n'
      refine ⟨_, rfl, _, rfl, _, rfl, y, dy, _, rfl, hy2, y, _, _, _, _, rfl, ⟨dy, hy2⟩, D, _, rfl, DPut.k (k := Sum.inr r.nm) hd' ?_, ?_⟩
      · rw [ents_len (paired_len hi')]
        have l1 := putAll_len (qs := qs.take i) (rs := rs)
        rw [List.length_take] at l1
        exact Nat.lt_of_lt_of_le (show _ < 1000 by omega) (by decide)
      · refine ⟨_, putA as' (putAll rs (qs.take i)) y r.nm, rfl, ?_, ?_, b.trans But.upd⟩
        · rw [upd_same, p1, take_snoc er, putAll_snoc]
        · rw [take_snoc er, putAll_snoc]
          exact items_put hy hi' n'
    · rintro σ' H' ⟨v0, as', rfl, hd', hi', b⟩
      have e2 : qs.take (bs.map V.ref).length = qs := by rw [List.length_map, paired_len hq]; exact List.take_length
      rw [e2] at hd' hi'
      exact ⟨_, as', rfl, hd', hi', b⟩
  · rintro σ2 H2 ⟨v, as', rfl, hd', hi', b⟩
    have n' : ((putAll rs qs).map (·.nm)).Nodup := putAll_nodup hn
    refine ⟨_, rfl, D, _, rfl, hd', fun p hp => ?_⟩
    have S2 := Same.new hp (o := .lst ((ents as' (putAll rs qs)).map (·.2)))
    rw [ents_vals (paired_len hi')] at S2 ⊢
    have S02 : Same H H2 := fun c o ec => b _ _ (ne_of_none ec hD) (S1 _ _ ec)
    have i2 : Items a.c_Item H2 as' (putAll rs qs) := paired_imp (fun z r hz => by
      obtain ⟨dz, hz⟩ := hz
      exact ⟨dz, b _ _ (ne_of hz hD1 (fun q => by cases q)) hz⟩) hi'
    refine ⟨_, rfl, p, as'.map V.ref, rfl, .inr (SqL.of upd_same), fun y dy hy hdy ne => ?_⟩
    have S3 := same_made (C := a.c_Pool) hy hdy ne
    refine ⟨y, dy, as', putAll rs qs, rfl, upd_same, (i2.same S2).same S3, n', hl2, fun H' rs' b' hp' hm asc => ⟨rfl, ?_⟩⟩
    · refine k y H' rs' ?_ ?_ hp' hm asc
      · cases z : H y with
        | none => rfl
        | some o =>
          have z2 := S2 _ _ (S02 _ _ z)
          rw [hy] at z2
          cases z2
      · intro c o ec
        have c2 := S2 _ _ (S02 _ _ ec)
        exact b' _ _ (ne_of_none c2 hy) (S3 _ _ c2)
def spPWith (C CI : Addr) : Sp := fun vs H Q _ => ∃ (x : Addr) (bs : List Addr) (rs qs : List Rw), vs = .ref x :: bs.map V.ref ∧ PoolAt C CI H x rs ∧ (rs.map (·.nm)).Nodup ∧ Items CI H bs qs ∧ rs.length + qs.length < 1000 ∧ (putAll rs qs).length < 64 ∧
  ∀ y H' rs', H y = none → Same H H' → PoolAt C CI H' y rs' → (∀ r, r ∈ rs' ↔ r ∈ putAll rs qs) → Asc rs' → Q (.ref y) H'
theorem r_pwith (T : Txt K mg a) : FnR P w K mg base CX0 5 a.f_Pool_with_items (spPWith a.c_Pool a.c_Item) := by
  obtain ⟨oc, od, kV, doc, pm, an, cdv, ct, osl, e, lk, hcd⟩ := T.F_Pool_with_items.ex
  have hb := StX.bind_star1 (p1 := "self") (pv := "items") (B := fun z => bindArgs (PySem.W.fnOf "with_items" "Pool.with_items" (defArgs s_Pool_with_items) (defBody s_Pool_with_items) (defScope s_Pool_with_items) .none kV doc pm an cdv ct) ⟨z, []⟩) (fun _ => rfl) (fun _ _ _ => rfl)
  refine (StX.fn_star (k := 4) (ps := ["self"]) (pv := "items") (N := ["self", "items", "found", "item", "changed"]) (sp := spPWith0 a.c_Pool a.c_Item) (by rw [← e]; exact lk) hcd sc_Pool_with_items StX.cxUp_none hb (fun A outer s H vs Q E hr h => ok_pwith T cdv A outer s H vs Q E hr h)).imp ?_
  rintro vs H Q E ⟨x, bs, rs, qs, rfl, hp, hn, hq, hl, hl2, k⟩
  refine ⟨[.ref x], bs.map V.ref, rfl, rfl, ?_, fun p hp0 => ?_⟩
  · rw [List.length_map, paired_len hq]
    exact Nat.le_trans (show _ ≤ 1000 by omega) (by decide)
  · have S := Same.new hp0 (o := .tup (bs.map V.ref))
    refine ⟨x, p, bs, rs, qs, rfl, hp.same S, hn, upd_same, hq.same S, hl, hl2, fun y H' rs' hy s' hp' hm asc => ?_⟩
    refine k y H' rs' ?_ (S.trans s') hp' hm asc
    cases z : H y with
    | none => rfl
    | some o =>
      have z2 := S _ _ z
      rw [hy] at z2
      cases z2
end
end Ask

set_option Elab.async false
set_option linter.all false
set_option maxRecDepth 100000
set_option maxHeartbeats 4000000
set_option pp.deepTerms false
set_option pp.deepTerms.threshold 14
namespace Ask
open PySem L2
open PyProof.Rows
section
variable {P : Program} {w : World} {K : PySem.W.Frag} {mg : Str → Option Value} {base : Heap} {a : Ad}
/-- the pen at p, its cells at l -/
structure PenL (l : Addr) (H : Hp) (p : Addr) (n : Nat) : Prop where
  pen : Pen H p n
  at_ : ∃ i v, H p = some (.lst [.ref l, .int i, .int v])
theorem PenL.of {H : Hp} {p : Addr} {n : Nat} (h : Pen H p n) : ∃ l, PenL l H p n := by
  obtain ⟨l, i, v, ns, h1, _⟩ := id h
  exact ⟨l, h, i, v, h1⟩
theorem PenL.cells {l : Addr} {H : Hp} {p : Addr} {n : Nat} (h : PenL l H p n) : ∃ ns : List Int, H l = some (.lst (ns.map V.int)) := by
  obtain ⟨⟨l', i, v, ns, h1, h2, _⟩, i', v', e⟩ := h
  rw [h1] at e
  cases e
  exact ⟨ns, h2⟩
theorem PenL.mono {l : Addr} {H : Hp} {p : Addr} {n m : Nat} (h : PenL l H p n) (e : n ≤ m) : PenL l H p m := ⟨h.pen.mono e, h.at_⟩
theorem PenL.ne {l : Addr} {H : Hp} {p q : Addr} {n : Nat} (h : PenL l H p n) (e : H q = none) : q ≠ p ∧ q ≠ l := by
  obtain ⟨i, v, z⟩ := h.at_
  obtain ⟨ns, y⟩ := h.cells
  exact ⟨fun c => (by rw [c, z] at e; cases e), fun c => (by rw [c, y] at e; cases e)⟩
theorem PenL.put {l : Addr} {H : Hp} {p q : Addr} {n : Nat} {o : HO} (h : PenL l H p n) (a : q ≠ p ∧ q ≠ l) : PenL l (upd H q o) p n := by
  obtain ⟨⟨l', i, v, ns, h1, h2, h3⟩, i', v', e⟩ := h
  have e2 := e
  rw [h1] at e
  cases e
  exact ⟨⟨l, _, _, ns, by rw [upd_ne a.1.symm]; exact h1, by rw [upd_ne a.2.symm]; exact h2, h3⟩, _, _, by rw [upd_ne a.1.symm]; exact e2⟩
theorem PenL.same {l : Addr} {H H' : Hp} {p : Addr} {n : Nat} (h : PenL l H p n) (s : Same H H') : PenL l H' p n := by
  obtain ⟨i, v, z⟩ := h.at_
  exact ⟨h.pen.same s, i, v, s _ _ z⟩
theorem PenL.next {l : Addr} {H H' : Hp} {p : Addr} {n m : Nat} (h : PenL l H p n) (h' : Pen H' p m) (s : SameL p H H') : PenL l H' p m := by
  obtain ⟨i, v, z⟩ := h.at_
  obtain ⟨i', v', z'⟩ := s _ _ _ z
  exact ⟨h', i', v', z'⟩
def spDrawP : Sp := fun vs H Q _ => ∃ (l p : Addr) (n : Nat) (b : Int), vs = [.ref p, .int b] ∧ PenL l H p n ∧ n ≤ 1000000 ∧ 0 < b ∧ b < 2 ^ 200 ∧ ∀ (z : Int) H', 0 ≤ z → z < b → But p H H' → PenL l H' p (n + 1) → Q (.int z) H'
theorem ok_drawP (T : Txt K mg a) : FnOk P w K mg base CX0 2 a.f__law_draw a.d__law_draw ["pen", "below"] spDrawP := by
  refine (ok_drawL T).imp ?_
  rintro vs H Q E ⟨l, p, n, b, rfl, hp, hn, b0, b1, k⟩
  exact ⟨p, n, b, rfl, hp.pen, hn, b0, b1, fun z H' z0 z1 bb hp' s => k z H' z0 z1 bb (hp.next hp' s)⟩
end
end Ask

set_option Elab.async false
set_option linter.all false
set_option maxRecDepth 100000
set_option maxHeartbeats 4000000
set_option pp.deepTerms false
set_option pp.deepTerms.threshold 14
namespace Ask
open PySem L2
open PyProof.Rows
section
variable {P : Program} {w : World} {K : PySem.W.Frag} {mg : Str → Option Value} {base : Heap} {a : Ad}
/-- a row that is drawn -/
structure RowOk (r : Rw) : Prop where
  nm : nameB r.nm = true
  sh : (PyData.str r.nm).shown.length ≤ 20
  le : r.lo ≤ r.hi
  ex : r.lo = r.hi → r.pr = 0
  op : r.lo < r.hi → 1 ≤ r.pr ∧ r.pr ≤ 999
  l1 : -1000000000000 < r.lo
  l2 : r.hi < 1000000000000
theorem pop_perm {α : Type} : ∀ (xs : List α) (j : Nat) (h : j < xs.length), (xs[j] :: xs.eraseIdx j).Perm xs
  | x :: xs, 0, _ => List.Perm.refl _
  | x :: xs, j + 1, h => (List.Perm.swap _ _ _).trans (List.Perm.cons _ (pop_perm xs j (by simpa using h)))
theorem pop_map {α β : Type} (f : α → β) : ∀ (xs : List α) (j : Nat), (xs.map f).eraseIdx j = (xs.eraseIdx j).map f
  | [], _ => rfl
  | _ :: _, 0 => rfl
  | x :: xs, j + 1 => congrArg (f x :: ·) (pop_map f xs j)
def names12 : List Str := ["a", "b", "c", "d", "e", "f", "g", "ab", "zz", "abcdefgh", "abcdefgi", "m"]
theorem names12_ok : ∀ d ∈ names12, nameB d = true ∧ (PyData.str d).shown.length ≤ 20 := by decide +kernel
/-- the rows drawn so far -/
structure RowsSt (H : Hp) (l p L S : Addr) (ys : List Str) (ts : List Addr) (rs : List Rw) (H' : Hp) (m : Nat) : Prop where
  eS : H' S = some (.lst (ys.map V.str))
  eL : H' L = some (.lst (ts.map V.ref))
  pr : Paired (fun t r => RowAt H' t r ∧ H t = none) ts rs
  but : But p H H'
  pen : PenL l H' p m
  sp : S ≠ p ∧ S ≠ l
  lp : L ≠ p ∧ L ≠ l
  ls : L ≠ S
theorem RowsSt.next {H : Hp} {l p L S : Addr} {ys : List Str} {ts : List Addr} {rs : List Rw} {H' H'' : Hp} {m m' : Nat} (h : RowsSt H l p L S ys ts rs H' m) (b : But p H' H'') (hp : PenL l H'' p m') : RowsSt H l p L S ys ts rs H'' m' :=
  ⟨b _ _ h.sp.1 h.eS, b _ _ h.lp.1 h.eL, paired_imp (fun t r z => ⟨b _ _ (h.pen.pen.ne z.1 fun _ _ _ e => by cases e) z.1, z.2⟩) h.pr, h.but.trans b, hp, h.sp, h.lp, h.ls⟩
theorem RowsSt.free {H : Hp} {l p L S : Addr} {ys : List Str} {ts : List Addr} {rs : List Rw} {H' : Hp} {m : Nat} (h : RowsSt H l p L S ys ts rs H' m) {t : Addr} (e : H' t = none) : H t = none := h.but.free h.pen.pen e
theorem RowsSt.add {H : Hp} {l p L S : Addr} {ys : List Str} {ts : List Addr} {rs : List Rw} {H' : Hp} {m : Nat} (h : RowsSt H l p L S ys ts rs H' m) (hL : H L = none) {t : Addr} {r : Rw} (ht : H' t = none) :
    RowsSt H l p L S ys (ts ++ [t]) (rs ++ [r]) (upd (upd H' t (.tup [.str r.nm, .int r.lo, .int r.hi, .int r.pr])) L (.lst ((ts ++ [t]).map V.ref))) m := by
  have nt := h.pen.ne ht
  have h2 := h.next (But.new (o := .tup [.str r.nm, .int r.lo, .int r.hi, .int r.pr]) ht) (h.pen.put nt)
  have tL : t ≠ L := fun e => by rw [e, h.eL] at ht; cases ht
  have keep : ∀ x y, RowAt (upd H' t (.tup [.str r.nm, .int r.lo, .int r.hi, .int r.pr])) x y → x ≠ L := fun x y z e => by
    unfold RowAt at z
    rw [e, h2.eL] at z
    cases z
  refine ⟨by rw [upd_ne h.ls.symm]; exact h2.eS, upd_same, ?_, h2.but.of hL, h2.pen.put h.lp, h.sp, h.lp, h.ls⟩
  refine Paired.snoc (paired_imp (fun x y z => ⟨?_, z.2⟩) h2.pr) ⟨?_, h.free ht⟩
  · unfold RowAt
    rw [upd_ne tL, upd_same]
  · unfold RowAt
    rw [upd_ne (keep x y z.1)]
    exact z.1
end
end Ask

set_option Elab.async false
set_option linter.all false
set_option maxRecDepth 100000
set_option maxHeartbeats 4000000
set_option pp.deepTerms false
set_option pp.deepTerms.threshold 14
namespace Ask
open PySem L2
open PyProof.Rows
section
variable {P : Program} {w : World} {K : PySem.W.Frag} {mg : Str → Option Value} {base : Heap} {a : Ad}
/-- two items of one row -/
def SameRow (C : Addr) (x y : Addr) (H : Hp) : Prop := ∃ r, ItemIs C H x r ∧ ItemIs C H y r
theorem ok_eqR (T : Txt K mg a) : FnOk P w K mg base CX0 1 a.f_Item___eq__ a.d_Item___eq__ ["self", "other"] (spEq (SameRow a.c_Item)) := by
  refine T.F_Item___eq__.ok sc_Item___eq__ (fun vs H Q E h => ?_) (fun cdv A outer s H vs Q E hr h => ?_)
  · obtain ⟨x, y, rfl, _⟩ := h
    rfl
  · obtain ⟨x, y, rfl, ⟨r, ⟨dx, hx⟩, ⟨dy, hy⟩⟩, q⟩ := h
    refine ⟨_, (pss_one (ps_ret (pe_and (pe_callB call_isi (by rfl) T.b_isinstance (by decide +kernel) (pa_cons (pv 1) (pa_cons (pe_glob (v := .ref a.c_Item) rfl T.g_Item rfl) pa_nil))) (pe_and (pe_cmpR op_eq (pe_fld (pv 0) rfl) (pe_fld (pv 1) rfl) (nomark _)) (pe_and (pe_cmpR op_eq (pe_fld (pv 0) rfl) (pe_fld (pv 1) rfl) (nomark _)) (pe_and (pe_cmpR op_eq (pe_fld (pv 0) rfl) (pe_fld (pv 1) rfl) (nomark _)) (pe_one (pe_cmpR op_eq (pe_fld (pv 0) rfl) (pe_fld (pv 1) rfl) (nomark _))))))))), _, rfl, ?_⟩
    refine ⟨.ref y, .ref a.c_Item, _, _, true, rfl, .own _, T.ty_Item.of T.cl_Item hy, kit_self, true, rfl, iteT ?_⟩
    refine ⟨_, rfl, x, _, dx, _, _, rfl, hx, T.cl_Item, T.n_Item__name, l_name, _, rfl, y, _, dy, _, _, rfl, hy, T.cl_Item, T.n_Item__name, l_name, rfl, _, rfl, ?_⟩
    rw [decide_eq_true rfl]
    refine iteT ⟨_, rfl, x, _, dx, _, _, rfl, hx, T.cl_Item, T.n_Item__least, l_least, _, rfl, y, _, dy, _, _, rfl, hy, T.cl_Item, T.n_Item__least, l_least, rfl, _, rfl, ?_⟩
    rw [decide_eq_true rfl]
    refine iteT ⟨_, rfl, x, _, dx, _, _, rfl, hx, T.cl_Item, T.n_Item__greatest, l_greatest, _, rfl, y, _, dy, _, _, rfl, hy, T.cl_Item, T.n_Item__greatest, l_greatest, rfl, _, rfl, ?_⟩
    rw [decide_eq_true rfl]
    refine iteT ⟨_, rfl, x, _, dx, _, _, rfl, hx, T.cl_Item, T.n_Item__price, l_price, _, rfl, y, _, dy, _, _, rfl, hy, T.cl_Item, T.n_Item__price, l_price, rfl, ?_⟩
    rw [decide_eq_true rfl]
    exact q H Ext.rfl'
theorem ents_alike {CI : Addr} {H : Hp} {as bs : List Addr} {rs : List Rw} (hA : Items CI H as rs) (hB : Items CI H bs rs) (hn : (rs.map (·.nm)).Nodup) {p : Key × V} (hp : p ∈ ents as rs) :
    ∃ u, valV (ents bs rs) p.1 = some u ∧ ∃ x y r, p.2 = V.ref x ∧ u = V.ref y ∧ ItemIs CI H x r ∧ ItemIs CI H y r := by
  obtain ⟨i, e⟩ := List.mem_iff_getElem?.mp hp
  have k1 := congrArg (fun l : List Key => l[i]?) (ents_keys (paired_len hA))
  have k2 := congrArg (fun l : List V => l[i]?) (ents_vals (paired_len hA))
  simp only [List.getElem?_map, e, Option.map_some] at k1 k2
  cases ea : as[i]? with
  | none => rw [ea] at k2; cases k2
  | some x =>
  cases er : rs[i]? with
  | none => rw [er] at k1; cases k1
  | some r =>
  rw [ea] at k2
  rw [er] at k1
  have e1 : p.1 = Sum.inr r.nm := Option.some.inj k1
  have e2 : p.2 = V.ref x := Option.some.inj k2
  have il : i < bs.length := by rw [paired_len hB]; exact (List.getElem?_eq_some_iff.mp er).1
  obtain ⟨r1, g1, h1⟩ := LiI.paired_get hA ea
  obtain ⟨r2, g2, h2⟩ := LiI.paired_get hB (List.getElem?_eq_getElem il)
  rw [er] at g1 g2
  cases g1
  cases g2
  exact ⟨.ref bs[i], by rw [e1]; exact ents_some hn (List.getElem?_eq_getElem il) er, x, bs[i], r, e2, rfl, h1, h2⟩
/-- two pools of the same rows -/
def SamePool (C CI : Addr) (x y : Addr) (H : Hp) : Prop := ∃ dx dy d e as bs rs, H x = some (.ins C dx [("_by_name", .ref d)]) ∧ H y = some (.ins C dy [("_by_name", .ref e)]) ∧ H d = some (.dK (ents as rs)) ∧ H e = some (.dK (ents bs rs)) ∧ Items CI H as rs ∧ Items CI H bs rs ∧ (rs.map (·.nm)).Nodup
theorem ok_peq (T : Txt K mg a) : FnOk P w K mg base CX0 3 a.f_Pool___eq__ a.d_Pool___eq__ ["self", "other"] (spEq (SamePool a.c_Pool a.c_Item)) := by
  have G_eq : FnOk P w K mg base CX0 1 a.f_Item___eq__ a.d_Item___eq__ ["self", "other"] (spEq (SameRow a.c_Item)) := ok_eqR T
  refine T.F_Pool___eq__.ok sc_Pool___eq__ (fun vs H Q E h => ?_) (fun cdv A outer s H vs Q E hr h => ?_)
  · obtain ⟨x, y, rfl, _⟩ := h
    rfl
  · obtain ⟨x, y, rfl, ⟨dx, dy, d, e, as, bs, rs, hx, hy, hd, he, hA, hB, hn⟩, q⟩ := h
    have mD : Mon (DIns a.c_Item (SameRow a.c_Item)) := mon_ins fun x y H H' z ⟨r, ⟨du, hu⟩, ⟨dv, hv⟩⟩ => ⟨r, ⟨du, z _ _ hu⟩, ⟨dv, z _ _ hv⟩⟩
    refine ⟨_, (pss_one (ps_ret (pe_and (pe_callB call_isi (by rfl) T.b_isinstance (by decide +kernel) (pa_cons (pv 1) (pa_cons (pe_glob (v := .ref a.c_Pool) rfl T.g_Pool rfl) pa_nil))) (pe_one (pe_lock (pe_cmpR (op_eqDG mD (eqG_ins (E := E0) G_eq T.eq_Item.at_ T.eq_Item.fn T.b_Item___eq__ pass0) (hr.mono (by decide))) (pe_fld (pv 0) rfl) (pe_fld (pv 1) rfl) (nomark _))))))), ?_⟩
    have nxd : x ≠ d := fun c => by rw [c, hd] at hx; cases hx
    have nyd : y ≠ d := fun c => by rw [c, hd] at hy; cases hy
    refine ⟨_, rfl, .ref y, .ref a.c_Pool, _, _, true, rfl, .own _, T.ty_Pool.of T.cl_Pool hy, kit_self, true, rfl, iteT ?_⟩
    refine ⟨d, .dK (ents as rs), hd, trivial, fun o1 => ?_⟩
    have keep : ∀ {c o}, c ≠ d → H c = some o → upd H d (.frz o1 (.dK (ents as rs))) c = some o := fun {c o} h1 hc => by rw [upd_ne h1]; exact hc
    have row : ∀ {c r}, ItemIs a.c_Item H c r → ItemIs a.c_Item (upd H d (.frz o1 (.dK (ents as rs)))) c r := fun {c r} ⟨dc, hc⟩ =>
      ⟨dc, keep (fun z => by rw [z, hd] at hc; cases hc) hc⟩
    have rde : Rd (upd H d (.frz o1 (.dK (ents as rs)))) e (.dK (ents bs rs)) := by
      by_cases c : e = d
      · rw [c] at he ⊢
        rw [hd] at he
        have z : HO.dK (ents as rs) = .dK (ents bs rs) := Option.some.inj he
        rw [← z]
        exact .inr ⟨o1, upd_same⟩
      · exact .inl (keep c he)
    refine ⟨_, rfl, x, _, dx, _, _, rfl, keep nxd hx, T.cl_Pool, T.n_Pool__by_name, l_by, _, rfl, y, _, dy, _, _, rfl, keep nyd hy, T.cl_Pool, T.n_Pool__by_name, l_by, ?_⟩
    refine ⟨d, e, o1, _, _, rfl, rfl, upd_same, rde, ?_, fun p hp => ?_, fun H' ex => ?_⟩
    · rw [ents_len (paired_len hA), ents_len (paired_len hB)]
    · obtain ⟨u, hu, x', y', r, e1, e2, h1, h2⟩ := ents_alike hA hB hn hp
      obtain ⟨d1, h1'⟩ := row h1
      obtain ⟨d2, h2'⟩ := row h2
      exact ⟨u, hu, x', y', d1, d2, _, _, e1, e2, h1', h2', r, row h1, row h2⟩
    · refine ⟨ex _ _ upd_same, q _ fun c o hc => ?_⟩
      by_cases c1 : c = d
      · rw [c1] at hc ⊢
        rw [hd] at hc
        rw [upd_same]
        exact hc
      · rw [upd_ne c1]
        exact ex _ _ (keep c1 hc)
theorem PoolAt.two {C CI : Addr} {H : Hp} {x y : Addr} {rs : List Rw} (h : PoolAt C CI H x rs) (g : PoolAt C CI H y rs) (n : (rs.map (·.nm)).Nodup) : SamePool C CI x y H := by
  obtain ⟨dx, d, as, h1, h2, h3⟩ := h
  obtain ⟨dy, e, bs, g1, g2, g3⟩ := g
  exact ⟨dx, dy, d, e, as, bs, rs, h1, g1, h2, g2, h3, g3, n⟩
end
end Ask

set_option Elab.async false
set_option linter.all false
set_option maxRecDepth 100000
set_option maxHeartbeats 4000000
set_option pp.deepTerms false
set_option pp.deepTerms.threshold 14
namespace Ask
open PySem L2
open PyProof.Rows
section
variable {P : Program} {w : World} {K : PySem.W.Frag} {mg : Str → Option Value} {base : Heap} {a : Ad}
/-- Pool.read('') -/
def spRead0 (C CI : Addr) : Sp := fun vs H Q _ => vs = [.ref C, .str ""] ∧ ∀ y H', H y = none → Same H H' → PoolAt C CI H' y [] → Q (.ref y) H'
theorem ok_read0 (T : Txt K mg a) : FnOk P w K mg base CX0 5 a.f_Pool_read a.d_Pool_read ["cls", "text"] (spRead0 a.c_Pool a.c_Item) := by
  refine T.F_Pool_read.ok sc_Pool_read (fun vs H Q E h => ?_) (fun cdv A outer s H vs Q E hr h => ?_)
  · obtain ⟨rfl, _⟩ := h
    rfl
  · obtain ⟨rfl, k⟩ := h
    have nd := sc_Pool_read.nd
    refine ⟨_, (pss_cons (ps_if (pt_not (pt_val (pe_callB call_isi (by rfl) T.b_isinstance (by decide +kernel) (pa_cons (pv 1) (pa_cons (pe_bltn (v := .ty "str") (by rfl) T.b_str (by decide +kernel) rfl) pa_nil)))))
    (pss_one ps_never)
    pss_nil)
  (pss_cons (ps_set (i := 2) nd rfl (by first | exact Or.inl rfl | exact Or.inr rfl) (pe_ifExp (pt_cmpR op_ne (pv 1) pe_str (nomark _)) (pe_nope) (pe_lst pa_nil)))
  (pss_cons (ps_set (i := 3) nd rfl (by first | exact Or.inl rfl | exact Or.inr rfl) (pe_lst pa_nil))
  (pss_cons (ps_for PassesOwn.never rfl (pi_enum (by rfl) T.b_enumerate (pa_cons (pv 2) pa_nil)) (pg_tup (by rfl) (pgs_cons (pg_name (i := 4) nd rfl (by first | exact Or.inl rfl | exact Or.inr rfl)) (pgs_cons (pg_name (i := 5) nd rfl (by first | exact Or.inl rfl | exact Or.inr rfl)) pgs_nil)))
    (pss_cons (ps_nope)
  (pss_cons (ps_nope)
  (pss_one (ps_nope)))))
  (pss_one (ps_ret (pe_makeLS (i := 0) T.mk_Pool (r_pinit T) (hr.mono (by decide)) rfl (Or.inl rfl) pass0 (pv 3)))))))), ?_⟩
    refine ⟨_, rfl, .str "", .ty "str", _, _, true, rfl, .ty _, .base (.str _), kit_ty (by decide +kernel), true, rfl, iteF ?_⟩
    refine ⟨_, rfl, rfl, _, rfl, ?_⟩
    dsimp only
    rw [if_neg (by decide)]
    refine ⟨Nat.zero_le _, fun q hq => ?_⟩
    refine ⟨Nat.zero_le _, fun M hM => ?_⟩
    have S1 := Same.new hq (o := .lst [])
    have S2 := Same.grow S1 hM (o := .lst [])
    refine ⟨_, rfl, q, [], rfl, SqL.of (Same.new hM _ _ upd_same), ?_⟩
    have eM : upd (upd H q (.lst [])) M (.lst []) M = some (.lst []) := upd_same
    have eq2 : upd (upd H q (.lst [])) M (.lst []) q = some (.lst []) := Same.new hM _ _ upd_same
    generalize upd (upd H q (.lst [])) M (.lst []) = H2 at S2 eM eq2 ⊢
    refine ⟨fun i m σ' H' => i = 0 ∧ σ' = [some (.ref a.c_Pool), some (.str ""), some (.ref q), some (.ref M), none, none, none] ∧ H' = H2, ⟨0, rfl, rfl, rfl⟩, ?_⟩
    rintro i m σ' H' ⟨rfl, rfl, rfl⟩
    refine .inl ⟨⟨[], SqL.of eq2, Nat.le_refl _⟩, rfl, _, rfl, M, [], rfl, .inr (SqL.of eM), fun x dx hx hdx ne => ?_⟩
    refine ⟨x, dx, [], [], rfl, upd_same, .nil, List.nodup_nil, by decide, fun H3 rs' hb hp hm asc => ⟨rfl, ?_⟩⟩
    have e : rs' = [] := List.eq_nil_iff_forall_not_mem.mpr fun r hr => by
      have z := (hm r).mp hr
      cases z
    have S3 := made hx hdx hb
    exact k x H3 (S2.free hx) (fun b o c => S3 _ _ (S2 _ _ c)) (e ▸ hp)
end
end Ask

set_option Elab.async false
set_option linter.all false
set_option maxRecDepth 100000
set_option maxHeartbeats 4000000
set_option pp.deepTerms false
set_option pp.deepTerms.threshold 14
namespace Ask
open PySem L2
open PyProof.Rows
section
variable {P : Program} {w : World} {K : PySem.W.Frag} {mg : Str → Option Value} {base : Heap} {a : Ad}
theorem init_kw (T : Txt K mg a) : ∃ mv : List Value, KBn K a.d_Item___init__ ["self", "name", "least", "greatest", "price"] 4 ["price"] (fun us ws => us ++ ws) (fun vs zs => vs ++ zs) := by
  refine T.F_Item___init__.kbinds0 (ps := ["self", "name", "least", "greatest", "price"]) 4 ["price"] [] (fun us _ ws => us ++ ws) (by simp) (by simp) (fun h1 _ h3 => h1.append h3) ?_
  intro D doc pm an cdv ct us mv ws l1 l2 l3
  match us, mv, ws, l1, l2, l3 with
  | [_, _, _, _], [], [_], _, _, _ => rfl
theorem paired_app {α β : Type} {F : α → β → Prop} : ∀ {xs : List α} {ys : List β} {xs' : List α} {ys' : List β}, Paired F xs ys → Paired F xs' ys' → Paired F (xs ++ xs') (ys ++ ys')
  | _, _, _, _, .nil, h => h
  | _, _, _, _, .cons a b, h => .cons a (paired_app b h)
theorem paired_rev {α β : Type} {F : α → β → Prop} : ∀ {xs : List α} {ys : List β}, Paired F xs ys → Paired F xs.reverse ys.reverse
  | _, _, .nil => .nil
  | x :: _, y :: _, .cons a b => by
    rw [List.reverse_cons, List.reverse_cons]
    exact paired_app (paired_rev b) (.cons a .nil)
theorem paired_tk {α β : Type} {F : α → β → Prop} : ∀ {xs : List α} {ys : List β} (n : Nat), Paired F xs ys → Paired F (xs.take n) (ys.take n)
  | _, _, 0, _ => by rw [List.take_zero, List.take_zero]; exact .nil
  | _, _, _ + 1, .nil => .nil
  | _, _, n + 1, .cons a b => .cons a (paired_tk n b)
theorem paired_dr {α β : Type} {F : α → β → Prop} : ∀ {xs : List α} {ys : List β} (n : Nat), Paired F xs ys → Paired F (xs.drop n) (ys.drop n)
  | _, _, 0, h => h
  | _, _, _ + 1, .nil => .nil
  | _, _, n + 1, .cons _ b => paired_dr n b
theorem nodup_le {α : Type} [DecidableEq α] : ∀ {l m : List α}, l.Nodup → (∀ x ∈ l, x ∈ m) → l.length ≤ m.length
  | [], _, _, _ => Nat.zero_le _
  | x :: l, m, n, h => by
    rw [List.nodup_cons] at n
    have hx := h x List.mem_cons_self
    have z := nodup_le (m := m.erase x) n.2 fun y hy => (List.mem_erase_of_ne (fun e => n.1 (by rw [← e]; exact hy))).mpr (h y (List.mem_cons_of_mem _ hy))
    rw [List.length_erase_of_mem hx] at z
    have z2 := List.length_pos_of_mem hx
    rw [List.length_cons]
    omega
def pickA {α : Type} (ts : List α) (ns : List Nat) : List α := ns.filterMap (ts[·]?)
theorem pick_map {α : Type} (f : α → V) (ts : List α) (lo hi st : Option Int) : pickV (ts.map f) lo hi st = (pickA ts (places ts.length lo hi st)).map f := by
  unfold pickV pickA
  rw [List.length_map, List.map_filterMap]
  exact fm_congr fun i _ => by rw [List.getElem?_map]
theorem paired_pick {α β : Type} {F : α → β → Prop} {ts : List α} {rs : List β} (h : Paired F ts rs) : ∀ ns : List Nat, Paired F (pickA ts ns) (pickA rs ns)
  | [] => .nil
  | n :: ns => by
    have t := paired_pick h ns
    have len := paired_len h
    unfold pickA at t ⊢
    by_cases c : n < ts.length
    · have c' : n < rs.length := by omega
      obtain ⟨r, hr, hf⟩ := LiI.paired_get h (List.getElem?_eq_getElem c)
      rw [List.filterMap_cons_some (List.getElem?_eq_getElem c), List.filterMap_cons_some hr]
      exact .cons hf t
    · rw [List.filterMap_cons_none (List.getElem?_eq_none (by omega)), List.filterMap_cons_none (List.getElem?_eq_none (by omega))]
      exact t
theorem halves : ∀ n : Fin 64, (places n (some 1) none (some 2) ++ (places n none none (some 2)).reverse).isPerm (List.range n) = true := by decide +kernel
theorem pick_halves {α : Type} (ts : List α) (h : ts.length < 64) : (pickA ts (places ts.length (some 1) none (some 2)) ++ (pickA ts (places ts.length none none (some 2))).reverse).Perm ts := by
  have p := List.isPerm_iff.mp (halves ⟨ts.length, h⟩)
  have q := p.filterMap (ts[·]?)
  rw [some_all, List.filterMap_append, List.filterMap_reverse] at q
  exact q
def spLMade (C CI : Addr) : Sp := fun vs H Q _ => ∃ L ts rs, vs = [.ref L] ∧ H L = some (.lst (List.map V.ref ts)) ∧ Paired (RowAt H) ts rs ∧ (rs.map (·.nm)).Nodup ∧ (∀ r ∈ rs, RowOk r) ∧ rs.length < 64 ∧
  ∀ y H' ps, H y = none → Same H H' → PoolAt C CI H' y ps → Asc ps → (∀ r, r ∈ ps ↔ r ∈ rs) → Q (.ref y) H'
theorem ok_lmade (T : Txt K mg a) : FnOk P w K mg base CX0 6 a.f__law_made a.d__law_made ["rows"] (spLMade a.c_Pool a.c_Item) := by
  have G_init : FnOk P w K mg base CX0 3 a.f_Item___init__ a.d_Item___init__ ["self", "name", "least", "greatest", "price"] (spInit a.c_Item) := ok_init T
  have G_read : FnOk P w K mg base CX0 5 a.f_Pool_read a.d_Pool_read ["cls", "text"] (spRead0 a.c_Pool a.c_Item) := ok_read0 T
  obtain ⟨mv, hkb⟩ := init_kw T
  refine T.F__law_made.ok sc__law_made (fun vs H Q E h => ?_) (fun cdv A outer s H vs Q E hr h => ?_)
  · obtain ⟨L, ts, rs, rfl, _⟩ := h
    rfl
  · obtain ⟨L, ts, rs, rfl, hL, pr, hn, rok, n64, k⟩ := h
    have nd := sc__law_made.nd
    refine ⟨_, (Evl.pss_cut (ps_set (i := 1) nd rfl (by first | exact Or.inl rfl | exact Or.inr rfl) (ClX.pe_cmeth (pe_glob (v := .ref a.c_Pool) rfl T.g_Pool rfl) T.rd_Pool T.m_Pool_read (G_read.raw T.b_Pool_read .nil) (hr.mono (by decide)) pass0 (pa_cons pe_str pa_nil)))
  (Evl.pss_cut (ps_for PassesOwn.never rfl (pi_list (pe_op op_cat (pe_slice3 (pv 0) (po_some pe_int) po_none (po_some pe_int)) (pe_revL (pe_slice3 (pv 0) po_none po_none (po_some pe_int))))) (pg_name (i := 2) nd rfl (by first | exact Or.inl rfl | exact Or.inr rfl))
    (pss_one (ps_set (i := 1) nd rfl (by first | exact Or.inl rfl | exact Or.inr rfl) (pe_methR (pv 1) T.cl_Pool T.m_Pool_with_items (r_pwith T) (hr.mono (by decide)) pass0 (pa_cons (pe_makeK T.mk_Item G_init (hr.mono (by decide)) rfl T.g_Item hkb pass0 (pa_cons (pe_ix ix_tup (pv 2) pe_int (fun _ _ => rfl)) (pa_cons (pe_ix ix_tup (pv 2) pe_int (fun _ _ => rfl)) (pa_cons (pe_ix ix_tup (pv 2) pe_int (fun _ _ => rfl)) pa_nil))) (pk_cons (pe_callB (call_max2 rfl) (by rfl) T.b_max (by decide +kernel) (pa_cons pe_int (pa_cons (pe_ix ix_tup (pv 2) pe_int (fun _ _ => rfl)) pa_nil))) pk_nil)) pa_nil)))))
  (pss_one (ps_ret (pv 1))))), ?_⟩
    have len2 := paired_len pr
    refine ⟨fun σ' H' => ∃ y, σ' = [some (.ref L), some (.ref y), none] ∧ H y = none ∧ Same H H' ∧ PoolAt a.c_Pool a.c_Item H' y [], ?_, ?_⟩
    · exact ⟨rfl, rfl, fun y H' hy S hp => ⟨y, rfl, hy, S, hp⟩⟩
    rintro σ2 H2 ⟨y, rfl, hy, S2, hp2⟩
    have eL := S2 _ _ hL
    have t64 : ts.length < 64 := by rw [len2]; exact n64
    have half := (pick_halves ts t64).length_eq
    rw [List.length_append, List.length_reverse] at half
    refine ⟨fun σ' H' => ∃ y v2, σ' = [some (.ref L), some (.ref y), v2] ∧ H y = none ∧ Same H H' ∧ ∃ ps, PoolAt a.c_Pool a.c_Item H' y ps ∧ Asc ps ∧ ∀ r, r ∈ ps ↔ r ∈ rs, ?_, ?_⟩
    · refine ⟨_, rfl, 1, rfl, 2, rfl, by decide, L, _, rfl, SqL.of eL, ?_, fun p1 hp1 => ?_⟩
      · rw [pick_map, List.length_map, sizeLine_eq]
        omega
      rw [pick_map]
      have T1 := Same.new hp1 (o := .lst ((pickA ts (places ts.length (some 1) none (some 2))).map V.ref))
      refine ⟨_, rfl, 2, rfl, by decide, L, _, rfl, SqL.of (T1 _ _ eL), ?_, fun p2 hp2' => ?_⟩
      · rw [pick_map, List.length_map, sizeLine_eq]
        omega
      rw [pick_map]
      have T2 := Same.grow T1 hp2' (o := .lst ((pickA ts (places ts.length none none (some 2))).map V.ref))
      refine ⟨p2, _, rfl, SqL.of upd_same, fun p3 hp3 => ?_⟩
      have T3 := Same.grow T2 hp3 (o := .lst ((pickA ts (places ts.length none none (some 2))).map V.ref).reverse)
      refine ⟨p1, p3, _, _, rfl, rfl, Same.new hp3 _ _ (Same.new hp2' _ _ upd_same), upd_same, ?_, fun p4 hp4 => ?_⟩
      · rw [List.length_reverse, List.length_map, List.length_map, sizeLine_eq]
        omega
      have T4 := Same.grow T3 hp4 (o := .lst ((pickA ts (places ts.length (some 1) none (some 2))).map V.ref ++ ((pickA ts (places ts.length none none (some 2))).map V.ref).reverse))
      have at4 : upd (upd (upd (upd H2 p1 (.lst ((pickA ts (places ts.length (some 1) none (some 2))).map V.ref))) p2 (.lst ((pickA ts (places ts.length none none (some 2))).map V.ref))) p3 (.lst ((pickA ts (places ts.length none none (some 2))).map V.ref).reverse)) p4 (.lst ((pickA ts (places ts.length (some 1) none (some 2))).map V.ref ++ ((pickA ts (places ts.length none none (some 2))).map V.ref).reverse)) p4 = some (.lst ((pickA ts (places ts.length (some 1) none (some 2))).map V.ref ++ ((pickA ts (places ts.length none none (some 2))).map V.ref).reverse)) := upd_same
      generalize upd (upd (upd (upd H2 p1 (.lst ((pickA ts (places ts.length (some 1) none (some 2))).map V.ref))) p2 (.lst ((pickA ts (places ts.length none none (some 2))).map V.ref))) p3 (.lst ((pickA ts (places ts.length none none (some 2))).map V.ref).reverse)) p4 (.lst ((pickA ts (places ts.length (some 1) none (some 2))).map V.ref ++ ((pickA ts (places ts.length none none (some 2))).map V.ref).reverse)) = H4 at T4 at4 ⊢
      rw [← List.map_reverse, ← List.map_append] at at4
      have pr' : Paired (RowAt H) (pickA ts (places ts.length (some 1) none (some 2)) ++ (pickA ts (places ts.length none none (some 2))).reverse) (pickA rs (places ts.length (some 1) none (some 2)) ++ (pickA rs (places ts.length none none (some 2))).reverse) := paired_app (paired_pick pr _) (paired_rev (paired_pick pr _))
      have perm : (pickA rs (places ts.length (some 1) none (some 2)) ++ (pickA rs (places ts.length none none (some 2))).reverse).Perm rs := by rw [len2]; exact pick_halves rs n64
      have nq := (perm.map (·.nm)).nodup_iff.mpr hn
      have S4 : Same H H4 := fun b o e => T4 _ _ (S2 _ _ e)
      have hp4' := hp2.same T4
      clear T1 T2 T3 T4 hp2 hp4 hp3 hp2' hp1 half
      generalize pickA ts (places ts.length (some 1) none (some 2)) ++ (pickA ts (places ts.length none none (some 2))).reverse = us at at4 pr'
      generalize pickA rs (places ts.length (some 1) none (some 2)) ++ (pickA rs (places ts.length none none (some 2))).reverse = qs at pr' perm nq
      refine ⟨p4, rfl, ⟨_, SqL.of at4⟩, for_list (xs := us.map V.ref) (fun i σ' H' => ∃ y v2 ps, σ' = [some (.ref L), some (.ref y), v2] ∧ H y = none ∧ Same H4 H' ∧ PoolAt a.c_Pool a.c_Item H' y ps ∧ Asc ps ∧ ∀ r, r ∈ ps ↔ r ∈ qs.take i) ?_ ?_ ?_ ?_⟩
      · exact ⟨y, none, [], rfl, hy, fun _ _ e => e, hp4', .nil, fun r => by rw [List.take_zero]⟩
      · rintro i σ' H' hi ⟨y, v2, ps, rfl, hy, S5, hp5, ap, mp⟩
        exact SqL.of (S5 _ _ at4)
      · rintro i x σ' H5 hx ⟨y, v2, ps, rfl, hy, S5, hp5, ap, mp⟩
        rw [List.getElem?_map] at hx
        cases eu : us[i]? with
        | none => rw [eu] at hx; cases hx
        | some u =>
          rw [eu] at hx
          have ex : V.ref u = x := Option.some.inj hx
          subst ex
          obtain ⟨r, er, hr0⟩ := paired_get pr' eu
          have rm : r ∈ rs := perm.mem_iff.mp (List.mem_of_getElem? er)
          have R := rok r rm
          have atr := SqT.of (K := K) (S5 _ _ (S4 _ _ hr0))
          obtain ⟨dy, d, as, h1, h2, h3⟩ := id hp5
          refine ⟨_, rfl, y, dy, _, rfl, h1, rfl, _, rfl, u, _, _, _, rfl, rfl, atr, rfl, _, rfl, u, _, _, _, rfl, rfl, atr, rfl, _, rfl, u, _, _, _, rfl, rfl, atr, rfl, _, rfl, u, _, _, _, rfl, rfl, atr, rfl, _, _, rfl, rfl, rfl, fun z dz hz hdz ne => ?_⟩
          have hpI : prI r.lo r.hi (if r.pr > 1 then r.pr else 1) = r.pr := by
            unfold prI
            by_cases e : r.lo = r.hi
            · rw [if_pos e, R.ex e]
            · have z := R.op (by have z := R.le; omega)
              rw [if_neg e]
              by_cases q : r.pr > 1
              · rw [if_pos q]
              · rw [if_neg q]
                omega
          have hb1 : 1 ≤ (if r.pr > 1 then r.pr else 1) ∧ (if r.pr > 1 then r.pr else 1) ≤ 999 := by
            by_cases q : r.pr > 1
            · rw [if_pos q]
              by_cases e : r.lo = r.hi
              · have z := R.ex e
                omega
              · have z := R.op (by have z := R.le; omega)
                omega
            · rw [if_neg q]
              omega
          have psl : ps.length ≤ 63 := by
            have z := nodup_le (l := ps) (m := rs) (by have z := ap.nodup; exact List.Pairwise.of_map _ (fun _ _ h e => h (by rw [e])) z) fun x hx => perm.mem_iff.mp (List.mem_of_mem_take ((mp x).mp hx))
            omega
          refine ⟨z, dz, r.nm, r.lo, r.hi, _, rfl, upd_same, R.nm, R.le, hb1.1, hb1.2, fun H6 hb hz' => ⟨rfl, ?_⟩⟩
          rw [hpI] at hz'
          have S6 := made hz hdz hb
          refine ⟨y, [z], ps, [r], rfl, hp5.same S6, ap.nodup, .cons ⟨dz, hz'⟩ .nil, by show ps.length + 1 < 1000; omega, ?_, fun y' H' rs' hy' S' hp' hm' asc' => ?_⟩
          · have e1 : putAll ps [r] = putR ps r := rfl
            rw [e1]
            have n1 := putR_nodup (r := r) ap.nodup
            have z := nodup_le (l := putR ps r) (m := rs) (List.Pairwise.of_map _ (fun _ _ h e => h (by rw [e])) n1) fun x hx => by
              rcases putR_mem.mp hx with rfl | ⟨h, _⟩
              · exact rm
              · exact perm.mem_iff.mp (List.mem_of_mem_take ((mp x).mp h))
            omega
          · have Sx : Same H H6 := fun b o e => S6 _ _ (S5 _ _ (S4 _ _ e))
            refine ⟨y', _, rs', rfl, Sx.free hy', fun b o e => S' _ _ (S6 _ _ (S5 _ _ e)), hp', asc', fun x => ?_⟩
            rw [hm' x]
            show x ∈ putR ps r ↔ _
            rw [putR_mem, List.take_add_one, er, List.mem_append, mp x]
            show _ ↔ _ ∨ x ∈ [r]
            rw [List.mem_singleton]
            constructor
            · rintro (rfl | ⟨h, _⟩)
              · exact .inr rfl
              · exact .inl h
            · rintro (h | rfl)
              · refine .inr ⟨h, fun e => ?_⟩
                have zz := nq
                rw [← List.take_append_drop i qs, List.map_append, List.nodup_append] at zz
                have rd : r ∈ qs.drop i := List.mem_of_getElem? (i := 0) (by rw [List.getElem?_drop]; exact er)
                exact zz.2.2 x.nm (List.mem_map.mpr ⟨x, h, rfl⟩) r.nm (List.mem_map.mpr ⟨r, rd, rfl⟩) e
              · exact .inl rfl
      · rintro σ' H5 ⟨y, v2, ps, rfl, hy, S5, hp5, ap, mp⟩
        rw [List.length_map, paired_len pr', List.take_length] at mp
        exact ⟨y, v2, rfl, hy, fun b o e => S5 _ _ (S4 _ _ e), ps, hp5, ap, fun r => (mp r).trans perm.mem_iff⟩
    rintro σ3 H3 ⟨y3, v2, rfl, hy3, S3, ps, hp3, ap, mp⟩
    exact ⟨_, rfl, k y3 H3 ps hy3 S3 hp3 ap mp⟩
end
end Ask

set_option Elab.async false
set_option linter.all false
set_option maxRecDepth 100000
set_option maxHeartbeats 4000000
set_option pp.deepTerms false
set_option pp.deepTerms.threshold 14
namespace Ask
open PySem L2
open PyProof.Rows
section
variable {P : Program} {w : World} {K : PySem.W.Frag} {mg : Str → Option Value} {base : Heap} {a : Ad}
theorem name_strOk {x : Str} (h : nameB x = true) : PyData.strOk x = true := by
  unfold nameB at h
  rw [Bool.and_eq_true] at h
  unfold PyData.strOk
  rw [← Array.all_toList, List.all_eq_true]
  intro c hc
  have z := (List.all_eq_true.mp h.2) c hc
  unfold signB at z
  rw [Bool.and_eq_true, decide_eq_true_eq, decide_eq_true_eq] at z
  exact decide_eq_true (by omega)
/-- rows of a pool -/
structure RowsP (rs : List Rw) : Prop where
  asc : Asc rs
  nm : ∀ r ∈ rs, nameB r.nm = true
  len : rs.length < 64
def nmV (qs : List Rw) : List V := (qs.map (·.nm)).map V.str
def spCheckOrd (C CI : Addr) : Sp := fun vs H Q _ => ∃ (y o : Addr) (b : Bool) (ps qs : List Rw), vs = [.ref y, .ref o] ∧ PoolAt C CI H y ps ∧ RowsP ps ∧ H o = some (LT b (nmV qs)) ∧ qs.Perm ps ∧ ∀ H', Same H H' → Q .non H'
theorem ok_checkord (T : Txt K mg a) : FnOk P w K mg base CX0 3 a.f__check_order a.d__check_order ["pool", "thing"] (spCheckOrd a.c_Pool a.c_Item) := by
  have G_pnames : FnOk P w K mg base CX0 1 a.f_Pool_names a.d_Pool_names ["self"] (spPNames a.c_Pool a.c_Item) := ok_pnames T
  refine T.F__check_order.ok sc__check_order (fun vs H Q E h => ?_) (fun cdv A outer s H vs Q E hr h => ?_)
  · obtain ⟨y, o, b, ps, qs, rfl, _⟩ := h
    rfl
  · obtain ⟨y, o, b, ps, qs, rfl, hp, R, ho, pm, k⟩ := h
    have nd := sc__check_order.nd
    refine ⟨_, (Evl.pss_cut (ps_if (PW.pt (pw_or (pt_not (pt_val (pe_callB call_isiT (by rfl) T.b_isinstance (by decide +kernel) (pa_cons (pv 1) (pa_cons (pe_tup (pa_cons (pe_bltn (v := .ty "list") (by rfl) T.b_list (by decide +kernel) rfl) (pa_cons (pe_bltn (v := .ty "tuple") (by rfl) T.b_tuple (by decide +kernel) rfl) pa_nil))) pa_nil))))) (pw_or1 (pt_not (pt_val (pe_callB (cr_all rfl) (by rfl) T.b_all (by decide +kernel) (pa_cons (pe_lc (own := [("name", 2)]) (g := gName 2) (tt := tYes) rfl nd (pi_seq (pv 1)) (blkOk_by (N := ["pool", "thing", "name"]) (sc := defScope s__check_order) (by decide +kernel)) (fun _ _ _ _ _ => (pg_name (i := 2) nd rfl (by first | exact Or.inl rfl | exact Or.inr rfl))) (fun _ _ _ _ _ => pts_nil) (fun _ _ _ _ _ => (pe_callB (call_isiK (K := K) rfl) (by rfl) T.b_isinstance (by decide +kernel) (pa_cons (pv 2) (pa_cons (pe_bltn (v := .ty "str") (by rfl) T.b_str (by decide +kernel) rfl) pa_nil))))) pa_nil)))))))
    (pss_one ps_never)
    pss_nil)
  (pss_one (ps_if (pt_cmpR (op_neD hr.units) (pe_callB cr_sortedSB (by rfl) T.b_sorted (by decide +kernel) (pa_cons (pv 1) pa_nil)) (pe_prop (pv 0) T.cl_Pool T.m_Pool_names G_pnames (hr.mono (by decide)) T.b_Pool_names .nil pass0 rfl) (nomark _))
    (pss_one ps_never)
    pss_nil))), ?_⟩
    have q64 : qs.length < 64 := by rw [pm.length_eq]; exact R.len
    have nl : (nmV qs).length = qs.length := by unfold nmV; rw [List.length_map, List.length_map]
    refine ⟨fun σ' H' => σ' = [some (.ref y), some (.ref o), none] ∧ Same H H', ?_, ?_⟩
    · refine ⟨_, rfl, by show 2 ≤ sizeLine; decide, fun tp htp => ?_⟩
      have S1 := Same.new htp (o := .tup [.ty "list", .ty "tuple"])
      obtain ⟨t, ty, kt⟩ := LT.ty (K := K) (S1 _ _ ho)
      refine ⟨.ref o, tp, _, t, _, true, rfl, upd_same, .cons (.ty _) (.cons (.ty _) .nil), ty, kt, _, rfl, iteF ?_⟩
      refine seq_it ⟨b, fun Q' h' => ⟨_, rfl, h' _ _ ⟨o, nmV qs, rfl, SqB.of (S1 _ _ ho), fun D hD => ?_⟩⟩⟩
      refine lc_pure (walk_seq (K := K) (b := b) (a := o) (xs := nmV qs)) (qs.map (·.nm)) (fun _ => true) (fun _ v _ => v = .bl true) (by rw [nl, List.length_map]) hD (fun H' s => SqB.of (s _ _ (S1 _ _ ho))) (fun i H x H' e => ⟨by rw [e.1]; exact Same.refl _, fun o h => by rw [e.1]; exact h⟩) (by rw [nl, sizeLine_eq]; omega) (fun _ _ _ _ h _ _ => h) ?_ ?_
      · rintro N i x d H1 H1' ed s1 - ⟨rfl, ex⟩ - s1' fin -
        have e2 : (nmV qs)[i]? = some (.str d) := by unfold nmV; rw [List.getElem?_map, ed]; rfl
        obtain rfl : V.str d = x := Option.some.inj (e2.symm.trans ex)
        refine ⟨rfl, ?_⟩
        refine ⟨_, rfl, .str d, .ty "str", _, _, true, rfl, .ty _, .base (.str d), kit_ty (by decide +kernel), fin rfl _ _ (Same.refl _) rfl⟩
      · intro ys H3 s3 eD pr
        have ey := paired_vals (fun _ => V.bl true) (H := H3) pr
        rw [ey] at eD
        have e3 : ∀ l : List Str, (l.filter fun _ => true).map (fun _ => V.bl true) = (l.map fun _ => true).map V.bl := fun l => by rw [List.filter_eq_self.mpr (fun _ _ => rfl), List.map_map]; rfl
        rw [e3] at eD
        refine ⟨D, _, rfl, SqL.of eD, _, rfl, ?_⟩
        rw [show ((qs.map (·.nm)).map fun _ => true).all id = true from List.all_eq_true.mpr fun z hz => by obtain ⟨_, _, e⟩ := List.mem_map.mp hz; exact e.symm]
        exact iteF ⟨rfl, S1.trans s3⟩
    · rintro σ1 H1 ⟨rfl, S1⟩
      have hs1 : SqB K b H1 o ((qs.map (fun r : Rw => r.nm)).map V.str) := SqB.of (S1 _ _ ho)
      refine ⟨_, rfl, b, o, qs.map (fun r : Rw => r.nm), rfl, hs1, by rw [List.length_map]; exact q64, fun ys p pmy srt hp0 => ?_⟩
      have S2 := Same.grow S1 hp0 (o := .lst (ys.map V.str))
      have S2' := S2
      obtain ⟨dy, d, as, hy, _⟩ := id (hp.same S2)
      have en : ys = ps.map (·.nm) := by
        have n2 : (ps.map (·.nm)).Nodup := R.asc.nodup
        have n1 : ys.Nodup := (pmy.trans (pm.map _)).nodup_iff.mpr n2
        refine asc_unique ltS_irrefl (fun a b => ltS_trans a b) (sortedS_lt srt n1) ?_ fun x => (pmy.trans (pm.map _)).mem_iff
        exact List.pairwise_map.mpr R.asc
      refine ⟨_, rfl, y, dy, _, rfl, hy, y, ps, rfl, hp.same S2, fun q hq => ?_⟩
      have okn : ∀ x ∈ ys, PyData.strOk x = true := fun x hx => by
        rw [en] at hx
        obtain ⟨r, hr, rfl⟩ := List.mem_map.mp hx
        exact name_strOk (R.nm r hr)
      refine ⟨_, _, .lst (SqL.of (Same.new hq _ _ upd_same)) (dp_strs ys), .lst (SqL.of upd_same) (dp_strs _), shaped_strs okn, by rw [← en]; exact shaped_strs okn, _, rfl, ?_⟩
      rw [eqv_lists, decide_eq_true en]
      exact iteF (k _ (Same.grow S2 hq))
end
end Ask

set_option Elab.async false
set_option linter.all false
set_option maxRecDepth 100000
set_option maxHeartbeats 4000000
set_option pp.deepTerms false
set_option pp.deepTerms.threshold 14
namespace Ask
open PySem L2
open PyProof.Rows
section
variable {P : Program} {w : World} {K : PySem.W.Frag} {mg : Str → Option Value} {base : Heap} {a : Ad}
def upI (lo : Option Int) (x : Int) : Int := match lo with | none => x | some z => if x > z then x else z
def loV : Option Int → V | none => .non | some z => .int z
abbrev Cl := Option (List (Str × Int) × Option Int)
/-- along an order: the least values that never descend -/
def cstep (s : Cl) (r : Rw) : Cl := match s with
  | none => none
  | some (kn, lo) => if r.hi < upI lo r.lo then none else some (kn ++ [(r.nm, upI lo r.lo)], some (upI lo r.lo))
def climb (qs : List Rw) : Cl := qs.foldl cstep (some ([], none))
theorem climb_snoc {qs : List Rw} {i : Nat} {r : Rw} (h : qs[i]? = some r) : climb (qs.take (i + 1)) = cstep (climb (qs.take i)) r := by
  unfold climb
  rw [take_snoc h, List.foldl_append]
  rfl
theorem cstep_none : ∀ l : List Rw, l.foldl cstep none = none
  | [] => rfl
  | _ :: l => cstep_none l
theorem climb_cut {qs : List Rw} {i : Nat} (h : climb (qs.take i) = none) : climb qs = none := by
  have z : qs.foldl cstep (some ([], none)) = (qs.drop i).foldl cstep ((qs.take i).foldl cstep (some ([], none))) := by
    rw [← List.foldl_append, List.take_append_drop]
  unfold climb at h ⊢
  rw [z, h, cstep_none]
theorem climb_names : ∀ (i : Nat) {qs : List Rw} {kn : List (Str × Int)} {lo : Option Int}, climb (qs.take i) = some (kn, lo) → kn.map (·.1) = (qs.take i).map (·.nm)
  | 0, qs, kn, lo, h => by
    rw [List.take_zero] at h ⊢
    cases h
    rfl
  | i + 1, qs, kn, lo, h => by
    cases er : qs[i]? with
    | none =>
      rw [List.take_add_one, er, show (none : Option Rw).toList = [] from rfl, List.append_nil] at h ⊢
      exact climb_names i h
    | some r =>
      rw [climb_snoc er] at h
      cases c : climb (qs.take i) with
      | none => rw [c] at h; cases h
      | some s =>
        obtain ⟨kn', lo'⟩ := s
        rw [c] at h
        unfold cstep at h
        dsimp only at h
        by_cases q : r.hi < upI lo' r.lo
        · rw [if_pos q] at h
          cases h
        · rw [if_neg q] at h
          cases h
          rw [take_snoc er, List.map_append, List.map_append, climb_names i c]
          rfl
/-- the values in ascending order of the names -/
def inNames (kn : List (Str × Int)) (ps : List Rw) : List (Str × Int) := ps.map fun r => (r.nm, (kn.lookup r.nm).getD 0)
def spAssign (C CI : Addr) : Sp := fun vs H Q _ => ∃ (y o : Addr) (b : Bool) (ps qs : List Rw), vs = [.ref y, .ref o] ∧ PoolAt C CI H y ps ∧ RowsP ps ∧ H o = some (LT b (nmV qs)) ∧ qs.Perm ps ∧
  (climb qs = none → ∀ H', Same H H' → Q .non H') ∧ ∀ kn lo, climb qs = some (kn, lo) → ∀ d H', H d = none → Same H H' → H' d = some (.dK (kents (inNames kn ps))) → Q (.ref d) H'
theorem fresh_nm {qs : List Rw} {i : Nat} {r : Rw} (n : (qs.map (·.nm)).Nodup) (e : qs[i]? = some r) : r.nm ∉ (qs.take i).map (·.nm) := fun h => by
  rw [← List.take_append_drop i qs, List.map_append, List.nodup_append] at n
  have rd : r ∈ qs.drop i := List.mem_of_getElem? (i := 0) (by rw [List.getElem?_drop]; exact e)
  exact n.2.2 r.nm h r.nm (List.mem_map.mpr ⟨r, rd, rfl⟩) rfl
theorem ok_assign (T : Txt K mg a) : FnOk P w K mg base CX0 4 a.f_assignment a.d_assignment ["pool", "order"] (spAssign a.c_Pool a.c_Item) := by
  have G_check_order : FnOk P w K mg base CX0 3 a.f__check_order a.d__check_order ["pool", "thing"] (spCheckOrd a.c_Pool a.c_Item) := ok_checkord T
  have G_pnames : FnOk P w K mg base CX0 1 a.f_Pool_names a.d_Pool_names ["self"] (spPNames a.c_Pool a.c_Item) := ok_pnames T
  have G_pitem : FnOk P w K mg base CX0 2 a.f_Pool_item a.d_Pool_item ["self", "name"] (spPItem a.c_Pool a.c_Item) := ok_pitem T
  have G_least : FnOk P w K mg base CX0 1 a.f_Item_least a.d_Item_least ["self"] (spLeast a.c_Item) := ok_least T
  have G_greatest : FnOk P w K mg base CX0 1 a.f_Item_greatest a.d_Item_greatest ["self"] (spGreatest a.c_Item) := ok_greatest T
  refine T.F_assignment.ok sc_assignment (fun vs H Q E h => ?_) (fun cdv A outer s H vs Q E hr h => ?_)
  · obtain ⟨y, o, b, ps, qs, rfl, _⟩ := h
    rfl
  · obtain ⟨y, o, b, ps, qs, rfl, hp, R, ho, pm, kN, kS⟩ := h
    have nd := sc_assignment.nd
    refine ⟨_, (Evl.pss_cut (ps_expr (pe_call G_check_order (hr.mono (by first | decide | omega)) rfl T.g__check_order T.F__check_order.kp T.b__check_order .nil pass0 (pa_cons (pv 0) (pa_cons (pv 1) pa_nil))))
  (pss_cons (ps_set (i := 2) nd rfl (by first | exact Or.inl rfl | exact Or.inr rfl) pe_dnewK)
  (pss_cons (ps_set (i := 3) nd rfl (by first | exact Or.inl rfl | exact Or.inr rfl) pe_non)
  (Evl.pss_cut (ps_for PassesOwn.never rfl (pi_seq (pv 1)) (pg_name (i := 4) nd rfl (by first | exact Or.inl rfl | exact Or.inr rfl))
    (pss_cons (ps_set (i := 5) nd rfl (by first | exact Or.inl rfl | exact Or.inr rfl) (pe_meth (pv 0) T.cl_Pool T.m_Pool_item G_pitem (hr.mono (by decide)) T.b_Pool_item .nil pass0 (pa_cons (pv 4) pa_nil)))
  (Evl.pss_cut (ps_set (i := 3) nd rfl (by first | exact Or.inl rfl | exact Or.inr rfl) (pe_ifExp (pt_cmpR op_isN (pv 3) pe_non (nomark _)) (pe_prop (pv 5) T.cl_Item T.m_Item_least G_least (hr.mono (by decide)) T.b_Item_least .nil pass0 rfl) (pe_callB (call_max2 rfl) (by rfl) T.b_max (by decide +kernel) (pa_cons (pv 3) (pa_cons (pe_prop (pv 5) T.cl_Item T.m_Item_least G_least (hr.mono (by decide)) T.b_Item_least .nil pass0 rfl) pa_nil)))))
  (pss_cons (ps_if (pt_cmpR op_gt (pv 3) (pe_prop (pv 5) T.cl_Item T.m_Item_greatest G_greatest (hr.mono (by decide)) T.b_Item_greatest .nil pass0 rfl) (nomark _))
    (pss_one (ps_ret pe_non))
    pss_nil)
  (pss_one (ps_dput (hu_of hr) (pv 2) (pv 4) (pv 3) rfl))))))
  (pss_one (ps_ret (pe_dc (own := [("name", 4)]) (g := gName 4) (tt := tYes) rfl nd (pi_list (pe_prop (pv 0) T.cl_Pool T.m_Pool_names G_pnames (hr.mono (by decide)) T.b_Pool_names .nil pass0 rfl)) (blkOk_by (N := ["pool", "order", "found", "lowest", "name", "item"]) (sc := defScope s_assignment) (by decide +kernel)) (fun _ _ _ _ _ => (pg_name (i := 4) nd rfl (by first | exact Or.inl rfl | exact Or.inr rfl))) (fun _ _ _ _ _ => pts_nil) (fun _ _ _ _ _ => (pv 4)) (fun _ _ _ _ _ => (pe_dget (hu_of hr) (pv 2) (pv 4) (fun _ _ => rfl)))))))))), ?_⟩
    have nl : (nmV qs).length = qs.length := by unfold nmV; rw [List.length_map, List.length_map]
    have ql : qs.length < 64 := by rw [pm.length_eq]; exact R.len
    have nq : (qs.map (·.nm)).Nodup := (pm.map _).nodup_iff.mpr R.asc.nodup
    refine ⟨fun σ' H' => σ' = [some (.ref y), some (.ref o), none, none, none, none] ∧ Same H H', ?_, ?_⟩
    · exact ⟨_, rfl, _, rfl, y, o, b, ps, qs, rfl, hp, R, ho, pm, fun H' S => ⟨rfl, S⟩⟩
    rintro σ1 H1 ⟨rfl, S1⟩
    have hp1 := hp.same S1
    have ho1 := S1 _ _ ho
    intro D hD
    have hD0 : H D = none := S1.free hD
    have oD : o ≠ D := ne_of_none ho1 hD
    have S2 := Same.of S1 hD0 (o := .dK [])
    have eD2 : upd H1 D (.dK []) D = some (.dK []) := upd_same
    have hp2 := hp.same S2
    have ho2 := S2 _ _ ho
    clear hp1 ho1 hD
    generalize upd H1 D (.dK []) = H2 at S2 eD2 hp2 ho2
    -- the loop
    refine ⟨fun σ' H' => ∃ kn lo v4 v5, climb qs = some (kn, lo) ∧ σ' = [some (.ref y), some (.ref o), some (.ref D), some (loV lo), v4, v5] ∧ But D H2 H' ∧ H' D = some (.dK (kents kn)), ?_, ?_⟩
    · refine seq_it ⟨b, fun Q' h' => ⟨_, rfl, h' _ _ ⟨o, nmV qs, rfl, SqB.of ho2, for_it (walk_seq (K := K) (b := b) (a := o) (xs := nmV qs)) (fun i σ' H' => ∃ kn lo v4 v5, climb (qs.take i) = some (kn, lo) ∧ σ' = [some (.ref y), some (.ref o), some (.ref D), some (loV lo), v4, v5] ∧ But D H2 H' ∧ H' D = some (.dK (kents kn))) ?_ ?_ ?_ ?_⟩⟩⟩
      · exact ⟨[], none, none, none, rfl, rfl, But.refl _ _, eD2⟩
      · rintro i σ' H' _ ⟨kn, lo, v4, v5, _, _, b', _⟩
        exact SqB.of (b' _ _ oD ho2)
      · rintro i x σ' H3 H3' hi ⟨kn, lo, v4, v5, ec, rfl, b', eD⟩ ⟨rfl, ex⟩
        rw [nl] at hi
        have er : qs[i]? = some qs[i] := List.getElem?_eq_getElem hi
        have rm : qs[i] ∈ ps := pm.mem_iff.mp (List.getElem_mem hi)
        have e2 : (nmV qs)[i]? = some (.str qs[i].nm) := by unfold nmV; rw [List.getElem?_map, List.getElem?_map, er]; rfl
        obtain rfl : V.str qs[i].nm = x := Option.some.inj (e2.symm.trans ex)
        have sn := climb_snoc er
        generalize qs[i] = r at er rm sn e2
        have hp3 : PoolAt a.c_Pool a.c_Item H3' y ps := hp.same (fun b o h => b' _ _ (ne_of_none h hD0) (S2 _ _ h))
        obtain ⟨dy, d, as, hy, _⟩ := id hp3
        refine ⟨_, rfl, y, dy, _, rfl, hy, by with_unfolding_all rfl, _, rfl, y, ps, r, rfl, hp3, R.asc.nodup, rm, R.nm r rm, fun z H4 S4 ⟨dz, hz⟩ => ?_⟩
        have nn := climb_names i ec
        have fr : r.nm ∉ kn.map (·.1) := by
          rw [nn]
          exact fresh_nm nq er
        -- lowest
        refine ⟨fun σ' H' => σ' = [some (.ref y), some (.ref o), some (.ref D), some (.int (upI lo r.lo)), some (.str r.nm), some (.ref z)] ∧ H' = H4, ?_, ?_⟩
        · cases lo with
          | none =>
            refine ⟨_, rfl, rfl, _, rfl, ?_⟩
            dsimp only
            rw [if_pos (by rfl)]
            exact ⟨_, rfl, z, dz, _, rfl, hz, z, _, _, _, _, rfl, ⟨dz, hz⟩, rfl, rfl⟩
          | some l =>
            refine ⟨_, rfl, rfl, _, rfl, ?_⟩
            dsimp only
            rw [if_neg (by rw [decide_eq_true_eq]; intro h; cases h)]
            exact ⟨_, rfl, _, rfl, z, dz, _, rfl, hz, z, _, _, _, _, rfl, ⟨dz, hz⟩, _, _, rfl, rfl, rfl⟩
        rintro σ4 H4' ⟨rfl, rfl⟩
        refine ⟨_, rfl, _, rfl, z, dz, _, rfl, hz, z, _, _, _, _, rfl, ⟨dz, hz⟩, _, _, rfl, rfl, _, rfl, ?_⟩
        unfold cstep at sn
        rw [ec] at sn
        dsimp only at sn
        by_cases c : r.hi < upI lo r.lo
        · rw [if_pos c] at sn
          rw [decide_eq_true c]
          exact iteT (kN (climb_cut sn) _ (fun b o h => S4 _ _ (b' _ _ (ne_of_none h hD0) (S2 _ _ h))))
        · rw [if_neg c] at sn
          rw [decide_eq_false c]
          have eD4 := S4 _ _ eD
          refine iteF ⟨_, rfl, _, rfl, _, rfl, D, _, rfl, DPut.k (k := Sum.inr r.nm) eD4 ?_, ?_⟩
          · unfold kents
            have z1 := congrArg List.length nn
            rw [List.length_map, List.length_map, List.length_take] at z1
            rw [List.length_map, sizeLine_eq]
            omega
          · refine ⟨_, _, _, _, sn, rfl, fun c o hc h => by rw [upd_ne hc]; exact S4 _ _ (b' _ _ hc h), ?_⟩
            rw [upd_same, putK_new _ (kents_none fr)]
            unfold kents
            rw [List.map_append]
            rfl
      · rintro σ' H3 ⟨kn, lo, v4, v5, ec, rfl, b', eD⟩
        rw [nl, List.take_length] at ec
        exact ⟨kn, lo, v4, v5, ec, rfl, b', eD⟩
    rintro σ3 H3 ⟨kn, lo, v4, v5, ec, rfl, b', eD⟩
    have hp3 : PoolAt a.c_Pool a.c_Item H3 y ps := hp.same (fun b o h => b' _ _ (ne_of_none h hD0) (S2 _ _ h))
    obtain ⟨dy, d, as, hy, _⟩ := id hp3
    have S3 : Same H H3 := fun b o h => b' _ _ (ne_of_none h hD0) (S2 _ _ h)
    have nn : kn.map (·.1) = qs.map (·.nm) := by
      have z := climb_names qs.length (by rw [List.take_length]; exact ec)
      rw [List.take_length] at z
      exact z
    have ndk : (kn.map (·.1)).Nodup := by rw [nn]; exact nq
    refine ⟨_, rfl, y, dy, _, rfl, hy, y, ps, rfl, hp3, fun q hq => ?_⟩
    have eD4 := Same.new hq (o := .lst ((ps.map (·.nm)).map V.str)) _ _ eD
    have S4 := Same.grow S3 hq (o := .lst ((ps.map (·.nm)).map V.str))
    have eq4 : upd H3 q (.lst ((ps.map (·.nm)).map V.str)) q = some (.lst ((ps.map (·.nm)).map V.str)) := upd_same
    generalize upd H3 q (.lst ((ps.map (·.nm)).map V.str)) = H4 at eD4 S4 eq4
    refine ⟨q, rfl, ⟨_, SqL.of eq4⟩, fun B hB => ?_⟩
    have qB : q ≠ B := ne_of_none eq4 hB
    have DB : D ≠ B := ne_of_none eD4 hB
    refine dc_list (K := K) (a := q) (xs := (ps.map (·.nm)).map V.str) (fun i H' => H' B = some (.dK (kents (inNames kn (ps.take i)))) ∧ But B H4 H') ⟨upd_same, But.new hB⟩ (fun _ H' _ ⟨_, b'⟩ => SqL.of (b' _ _ qB eq4)) ?_ ?_
    · rintro i x H5 hx ⟨eB, b5⟩
      rw [List.getElem?_map, List.getElem?_map] at hx
      cases er : ps[i]? with
      | none => rw [er] at hx; cases hx
      | some r =>
      rw [er] at hx
      obtain rfl : V.str r.nm = x := Option.some.inj hx
      have rm := List.mem_of_getElem? er
      have il := (List.getElem?_eq_some_iff.mp er).1
      have hl := R.len
      obtain ⟨v, hv⟩ : ∃ v, (r.nm, v) ∈ kn := by
        have z : r.nm ∈ kn.map (·.1) := by rw [nn]; exact List.mem_map.mpr ⟨r, pm.mem_iff.mpr rm, rfl⟩
        obtain ⟨p, hp, e⟩ := List.mem_map.mp z
        exact ⟨p.2, by rw [← e]; exact hp⟩
      have gd : DGet H5 D (.str r.nm) (some (.int v)) := by
        rw [← kents_get ndk hv]
        exact DGet.k (k := Sum.inr r.nm) (b5 _ _ DB eD4)
      have lk : (kn.lookup r.nm).getD 0 = v := by rw [lookup_of_mem ndk hv]; rfl
      refine ⟨rfl, ?_⟩
      dsimp only [tYes]
      rw [if_pos rfl]
      refine ⟨_, rfl, _, rfl, _, rfl, D, _, rfl, gd, _, Sum.inr r.nm, rfl, eB, ?_, ?_, b5.trans But.upd⟩
      · unfold kents inNames
        rw [List.length_map, List.length_map, List.length_take, sizeLine_eq]
        omega
      · have fr : r.nm ∉ (inNames kn (ps.take i)).map (·.1) := by
          unfold inNames
          rw [List.map_map]
          exact fresh_nm R.asc.nodup er
        rw [upd_same, putK_new _ (kents_none fr)]
        unfold inNames kents
        rw [take_snoc er, List.map_append, List.map_append]
        rw [← lk]
        rfl
    · rintro H5 ⟨eB, b5⟩
      rw [List.length_map, List.length_map, List.take_length] at eB
      exact kS kn lo ec B H5 (S4.free hB) (fun c o h => b5 _ _ (ne_of_none (S4 _ _ h) hB) (S4 _ _ h)) eB
end
end Ask

set_option Elab.async false
set_option linter.all false
set_option maxRecDepth 100000
set_option maxHeartbeats 4000000
set_option pp.deepTerms false
set_option pp.deepTerms.threshold 14
namespace Ask
open PySem L2
open PyProof.Rows
section
variable {P : Program} {w : World} {K : PySem.W.Frag} {mg : Str → Option Value} {base : Heap} {a : Ad}
theorem sl_listK {X : Cx} {K : PySem.W.Frag} (h : X.K = K) : SlR X (rSlL K) := h ▸ sl_list
theorem cutP_to (xs : List V) {k : Nat} (h : k ≤ xs.length) : cutV xs none (some (k : Int)) = xs.take k := by
  have e : HT.sIx xs.length xs.length (some (k : Int)) = k := by
    rw [HT.sIx_nat]
    omega
  have e2 : HT.sIx xs.length 0 none = 0 := rfl
  unfold cutV
  rw [e, e2, List.drop_zero, Nat.sub_zero]
theorem cutP_from (xs : List V) {k : Nat} (h : k ≤ xs.length) : cutV xs (some (k : Int)) none = xs.drop k := by
  have e : HT.sIx xs.length 0 (some (k : Int)) = k := by
    rw [HT.sIx_nat]
    omega
  have e2 : HT.sIx xs.length xs.length none = xs.length := rfl
  unfold cutV
  rw [e, e2, List.take_of_length_le (by rw [List.length_drop]; omega)]
def four : List Str := ["a", "b", "c", "d"]
theorem four_asc : four.Pairwise ltS := by decide +kernel
theorem four_ok : ∀ x ∈ four, nameB x = true ∧ (PyData.str x).shown.length ≤ 20 := by decide +kernel
/-- rows drawn so far, in a list of their own -/
structure SmSt (H : Hp) (l p L : Addr) (ts : List Addr) (rs : List Rw) (H' : Hp) (m : Nat) : Prop where
  eL : H' L = some (.lst (ts.map V.ref))
  pr : Paired (fun t r => RowAt H' t r ∧ H t = none) ts rs
  but : But p H H'
  pen : PenL l H' p m
  lp : L ≠ p ∧ L ≠ l
  hL : H L = none
theorem SmSt.next {H : Hp} {l p L : Addr} {ts : List Addr} {rs : List Rw} {H' H'' : Hp} {m m' : Nat} (h : SmSt H l p L ts rs H' m) (b : But p H' H'') (hp : PenL l H'' p m') : SmSt H l p L ts rs H'' m' :=
  ⟨b _ _ h.lp.1 h.eL, paired_imp (fun t r z => ⟨b _ _ (h.pen.pen.ne z.1 fun _ _ _ e => by cases e) z.1, z.2⟩) h.pr, h.but.trans b, hp, h.lp, h.hL⟩
theorem SmSt.add {H : Hp} {l p L : Addr} {ts : List Addr} {rs : List Rw} {H' : Hp} {m : Nat} (h : SmSt H l p L ts rs H' m) {t : Addr} {r : Rw} (ht : H' t = none) :
    SmSt H l p L (ts ++ [t]) (rs ++ [r]) (upd (upd H' t (.tup [.str r.nm, .int r.lo, .int r.hi, .int r.pr])) L (.lst (ts.map V.ref ++ [.ref t]))) m := by
  have nt := h.pen.ne ht
  have h2 := h.next (But.new (o := .tup [.str r.nm, .int r.lo, .int r.hi, .int r.pr]) ht) (h.pen.put nt)
  have tL : t ≠ L := fun e => by rw [e, h.eL] at ht; cases ht
  have keep : ∀ x y, RowAt (upd H' t (.tup [.str r.nm, .int r.lo, .int r.hi, .int r.pr])) x y → x ≠ L := fun x y z e => by
    unfold RowAt at z
    rw [e, h2.eL] at z
    cases z
  refine ⟨by rw [upd_same, List.map_append]; rfl, ?_, h2.but.of h.hL, h2.pen.put h.lp, h.lp, h.hL⟩
  refine Paired.snoc (paired_imp (fun x y z => ⟨?_, z.2⟩) h2.pr) ⟨?_, h.but.free h.pen.pen ht⟩
  · unfold RowAt
    rw [upd_ne tL, upd_same]
  · unfold RowAt
    rw [upd_ne (keep x y z.1)]
    exact z.1
def spSmallP : Sp := fun vs H Q _ => ∃ (l p : Addr) (n : Nat), vs = [.ref p] ∧ PenL l H p n ∧ n ≤ 900000 ∧
  ∀ L ts rs H', H L = none → But p H H' → PenL l H' p (n + 20) → H' L = some (.lst (ts.map V.ref)) → Paired (fun t r => RowAt H' t r ∧ H t = none) ts rs → Asc rs → (∀ r ∈ rs, RowOk r) → rs.length ≤ 4 → (∀ r ∈ rs, r.hi ≤ r.lo + 3 ∧ -2 ≤ r.lo ∧ r.lo ≤ 4) → Q (.ref L) H'
theorem ok_smallp (T : Txt K mg a) : FnOk P w K mg base CX0 3 a.f__law_small a.d__law_small ["pen"] spSmallP := by
  have G_law_draw : FnOk P w K mg base CX0 2 a.f__law_draw a.d__law_draw ["pen", "below"] spDrawP := ok_drawP T
  refine T.F__law_small.ok sc__law_small (fun vs H Q E h => ?_) (fun cdv A outer s H vs Q E hr h => ?_)
  · obtain ⟨l, p, n, rfl, _⟩ := h
    rfl
  · obtain ⟨l, p, n, rfl, hp, hn, k⟩ := h
    have nd := sc__law_small.nd
    refine ⟨_, (Evl.pss_cut (ps_set (i := 1) nd rfl (by first | exact Or.inl rfl | exact Or.inr rfl) (pe_lst pa_nil))
  (Evl.pss_cut (ps_for PassesOwn.never rfl (pi_list (pe_slice sl_list (pe_lst (pa_cons pe_str (pa_cons pe_str (pa_cons pe_str (pa_cons pe_str pa_nil))))) po_none (po_some (pe_call G_law_draw (hr.mono (by decide)) rfl T.g__law_draw T.F__law_draw.kp T.b__law_draw .nil pass0 (pa_cons (pv 0) (pa_cons pe_int pa_nil)))))) (pg_name (i := 2) nd rfl (by first | exact Or.inl rfl | exact Or.inr rfl))
    (Evl.pss_cut (ps_par (i := 3) (j := 4) (by rfl) nd rfl rfl (by decide) rfl rfl (pa_cons (pe_op op_sub (pe_call G_law_draw (hr.mono (by first | decide | omega)) rfl T.g__law_draw T.F__law_draw.kp T.b__law_draw .nil pass0 (pa_cons (pv 0) (pa_cons pe_int pa_nil))) pe_int) (pa_cons (pe_call G_law_draw (hr.mono (by first | decide | omega)) rfl T.g__law_draw T.F__law_draw.kp T.b__law_draw .nil pass0 (pa_cons (pv 0) (pa_cons pe_int pa_nil))) pa_nil)) (by rfl))
  (pss_one (ps_expr (pe_bm PySem.F.plainAttrs_list PySem.F.slot_list_append PySem.F.type_list_append mt_append (pv 1) (pa_cons (pe_tup (pa_cons (pv 2) (pa_cons (pv 3) (pa_cons (pe_op op_add (pv 3) (pv 4)) (pa_cons (pe_ifExp (pt_cmpR op_eq (pv 4) pe_int (nomark _)) pe_int pe_int) pa_nil))))) pa_nil))))))
  (pss_one (ps_ret (pv 1))))), ?_⟩
    refine ⟨fun σ' H' => ∃ L, σ' = [some (.ref p), some (.ref L), none, none, none] ∧ SmSt H l p L [] [] H' n, ?_, ?_⟩
    · exact ⟨Nat.zero_le _, fun L hL => ⟨L, rfl, upd_same, .nil, But.new hL, hp.put (hp.ne hL), hp.ne hL, hL⟩⟩
    rintro σ1 H1 ⟨L, rfl, st0⟩
    refine ⟨fun σ' H' => ∃ ts rs v2 v3 v4, σ' = [some (.ref p), some (.ref L), v2, v3, v4] ∧ SmSt H l p L ts rs H' (n + 20) ∧ (∀ r ∈ rs, RowOk r) ∧ (∀ r ∈ rs, r.hi ≤ r.lo + 3 ∧ -2 ≤ r.lo ∧ r.lo ≤ 4) ∧ ∃ m ≤ 4, rs.map (·.nm) = four.take m, ?_, ?_⟩
    · refine ⟨by show 4 ≤ sizeLine; decide, fun F hF => ?_⟩
      have st1 : SmSt H l p L [] [] (upd H1 F (.lst [V.str "a", V.str "b", V.str "c", V.str "d"])) n := st0.next (But.new hF) (st0.pen.put (st0.pen.ne hF))
      have eF : upd H1 F (.lst [V.str "a", V.str "b", V.str "c", V.str "d"]) F = some (.lst (four.map V.str)) := upd_same
      have Fp := (st0.pen.ne hF).1
      generalize upd H1 F (.lst [V.str "a", V.str "b", V.str "c", V.str "d"]) = H2 at st1 eF ⊢
      refine ⟨_, rfl, l, p, n, 5, rfl, st1.pen, by omega, by decide, by decide, fun u H3 u0 u1 b3 hp3 => ⟨u, rfl, F, _, rfl, SqL.of (b3 _ _ Fp eF), fun G hG => ?_⟩⟩
      obtain ⟨m, rfl⟩ : ∃ m : Nat, u = m := ⟨u.toNat, by omega⟩
      have m4 : m ≤ 4 := by omega
      rw [cutP_to _ (show m ≤ (four.map V.str).length from m4), ← List.map_take]
      have st3 := (st1.next b3 hp3).next (But.new (o := .lst ((four.take m).map V.str)) hG) (hp3.put (hp3.ne hG))
      have eG : upd H3 G (.lst ((four.take m).map V.str)) G = some (.lst ((four.take m).map V.str)) := upd_same
      have Gp := (hp3.ne hG).1
      have GL : G ≠ L := fun c => by
        have z := (st1.next b3 hp3).eL
        rw [← c, hG] at z
        cases z
      generalize upd H3 G (.lst ((four.take m).map V.str)) = H4 at st3 eG ⊢
      have fl : (four.take m).length = m := by rw [List.length_take]; show min m 4 = m; omega
      refine ⟨G, rfl, ⟨_, SqL.of eG⟩, for_list (xs := (four.take m).map V.str) (fun i σ' H' => ∃ ts rs v2 v3 v4, σ' = [some (.ref p), some (.ref L), v2, v3, v4] ∧ SmSt H l p L ts rs H' (n + 1 + 2 * i) ∧ (∀ r ∈ rs, RowOk r) ∧ (∀ r ∈ rs, r.hi ≤ r.lo + 3 ∧ -2 ≤ r.lo ∧ r.lo ≤ 4) ∧ rs.map (·.nm) = four.take i ∧ H' G = some (.lst ((four.take m).map V.str))) ⟨[], [], none, none, none, rfl, st3, fun _ z => (nomatch z), fun _ z => (nomatch z), rfl, eG⟩ ?_ ?_ ?_⟩
      · rintro i σ' H' _ ⟨_, _, _, _, _, rfl, _, _, _, _, e⟩
        exact SqL.of e
      · rintro i x σ' H5 ex ⟨ts, rs, v2, v3, v4, rfl, st, rok, rsm, nms, eG5⟩
        rw [List.getElem?_map] at ex
        cases en : (four.take m)[i]? with
        | none => rw [en] at ex; cases ex
        | some nm =>
        rw [en] at ex
        obtain rfl : V.str nm = x := Option.some.inj ex
        have il := (List.getElem?_eq_some_iff.mp en).1
        rw [fl] at il
        have e4 : four[i]? = some nm := by
          rw [List.getElem?_take] at en
          rw [if_pos il] at en
          exact en
        obtain ⟨nok, nsh⟩ := four_ok nm (List.mem_of_getElem? e4)
        refine ⟨fun σ' H' => ∃ sp sz : Int, σ' = [some (.ref p), some (.ref L), some (.str nm), some (.int sp), some (.int sz)] ∧ SmSt H l p L ts rs H' (n + 1 + 2 * i + 2) ∧ -2 ≤ sp ∧ sp ≤ 4 ∧ 0 ≤ sz ∧ sz ≤ 3 ∧ H' G = some (.lst ((four.take m).map V.str)), ?_, ?_⟩
        · refine ⟨_, rfl, l, p, _, 6, rfl, st.pen, by omega, by decide, by decide, fun u H6 u0 u1 b6 hp6 => ⟨_, _, rfl, rfl, _, rfl, l, p, _, 4, rfl, hp6, by omega, by decide, by decide, fun u2 H7 u3 u4 b7 hp7 => ?_⟩⟩
          refine ⟨_, _, rfl, ?_⟩
          exact ⟨u - 2, u2, rfl, (st.next b6 hp6).next b7 hp7, by omega, by omega, u3, by omega, b7 _ _ Gp (b6 _ _ Gp eG5)⟩
        rintro σ6 H6 ⟨sp, sz, rfl, st6, s0, s1, z0, z1, eG6⟩
        have tl := paired_len st6.pr
        have rl := congrArg List.length nms
        rw [List.length_map, List.length_take] at rl
        have i4 : i < 4 := by omega
        have fin : ∀ c : Int, (sz = 0 → c = 0) → (0 < sz → c = 1) → ∀ t, H6 t = none → ∃ l1 xs y, V.ref L = V.ref l1 ∧ [V.ref t] = [y] ∧ upd H6 t (.tup [.str nm, .int sp, .int (sp + sz), .int c]) l1 = some (.lst xs) ∧ xs.length < sizeLine ∧ ∃ ts rs v2 v3 v4, [some (V.ref p), some (V.ref L), some (V.str nm), some (V.int sp), some (V.int sz)] = [some (.ref p), some (.ref L), v2, v3, v4] ∧ SmSt H l p L ts rs (upd (upd H6 t (.tup [.str nm, .int sp, .int (sp + sz), .int c])) l1 (.lst (xs ++ [y]))) (n + 1 + 2 * (i + 1)) ∧ (∀ r ∈ rs, RowOk r) ∧ (∀ r ∈ rs, r.hi ≤ r.lo + 3 ∧ -2 ≤ r.lo ∧ r.lo ≤ 4) ∧ rs.map (·.nm) = four.take (i + 1) ∧ upd (upd H6 t (.tup [.str nm, .int sp, .int (sp + sz), .int c])) l1 (.lst (xs ++ [y])) G = some (.lst ((four.take m).map V.str)) := by
          intro c c0 c1 t ht
          have tL : L ≠ t := fun e => by rw [← e, st6.eL] at ht; cases ht
          have tG : G ≠ t := fun e => by rw [← e, eG6] at ht; cases ht
          refine ⟨L, _, _, rfl, rfl, by rw [upd_ne tL]; exact st6.eL, by rw [List.length_map, sizeLine_eq]; omega, ts ++ [t], rs ++ [⟨nm, sp, sp + sz, c⟩], _, _, _, rfl, ?_, ?_, ?_, ?_, ?_⟩
          · exact (st6.add (r := ⟨nm, sp, sp + sz, c⟩) ht).next (But.refl _ _) ((st6.add (r := ⟨nm, sp, sp + sz, c⟩) ht).pen.mono (by omega))
          · intro r hr
            rcases List.mem_append.mp hr with hr | hr
            · exact rok r hr
            · rw [List.mem_singleton.mp hr]
              exact ⟨nok, nsh, by show sp ≤ sp + sz; omega, fun (z : sp = sp + sz) => c0 (by omega), fun (z : sp < sp + sz) => by show 1 ≤ c ∧ c ≤ 999; have q := c1 (by omega); omega, by show _ < sp; omega, by show sp + sz < _; omega⟩
          · intro r hr
            rcases List.mem_append.mp hr with hr | hr
            · exact rsm r hr
            · rw [List.mem_singleton.mp hr]
              exact ⟨by show sp + sz ≤ sp + 3; omega, s0, s1⟩
          · rw [List.map_append, nms, take_snoc e4]
            rfl
          · rw [upd_ne GL, upd_ne tG]
            exact eG6
        refine ⟨_, rfl, .inl ⟨rfl, _, SqL.of st6.eL⟩, _, rfl, _, rfl, _, rfl, _, rfl, _, _, rfl, rfl, _, rfl, rfl, _, rfl, ?_⟩
        by_cases e0 : sz = 0
        · rw [decide_eq_true (congrArg V.int e0)]
          exact iteT ⟨by show 4 ≤ sizeLine; decide, fin 0 (fun _ => rfl) (fun z => by omega)⟩
        · rw [decide_eq_false (fun z => e0 (V.int.inj z))]
          exact iteF ⟨by show 4 ≤ sizeLine; decide, fin 1 (fun z => absurd z e0) (fun _ => rfl)⟩
      · rintro σ' H5 ⟨ts, rs, v2, v3, v4, rfl, st, rok, rsm, nms, _⟩
        rw [List.length_map, fl] at nms
        rw [List.length_map, fl] at st
        exact ⟨ts, rs, v2, v3, v4, rfl, st.next (But.refl _ _) (st.pen.mono (by omega)), rok, rsm, m, m4, nms⟩
    rintro σ2 H2 ⟨ts, rs, v2, v3, v4, rfl, st, rok, rsm, m, m4, nms⟩
    have rl : rs.length ≤ 4 := by
      have z := congrArg List.length nms
      rw [List.length_map, List.length_take] at z
      omega
    have asc : Asc rs := by
      have z : (rs.map (·.nm)).Pairwise ltS := by rw [nms]; exact List.Pairwise.sublist (List.take_sublist m four) four_asc
      exact (List.pairwise_map (f := fun r : Rw => r.nm)).mp z
    exact ⟨_, rfl, k L ts rs H2 st.hL st.but st.pen st.eL st.pr asc rok rl rsm⟩
def rwVals (r : Rw) (kn : List (Str × Int)) : List (List (Str × Int)) := (List.range (r.hi + 1 - r.lo).toNat).map fun (j : Nat) => kn ++ [(r.nm, r.lo + (j : Int))]
def allStep (r : Rw) (f : List (List (Str × Int))) : List (List (Str × Int)) := f.flatMap (rwVals r)
def allV (rs : List Rw) : List (List (Str × Int)) := rs.foldl (fun f r => allStep r f) [[]]
theorem allV_snoc (rs : List Rw) (r : Rw) : allV (rs ++ [r]) = allStep r (allV rs) := by
  unfold allV
  rw [List.foldl_append]
  rfl
theorem allV_names : ∀ (n : Nat) (rs : List Rw), rs.length = n → ∀ kn ∈ allV rs, kn.map (·.1) = rs.map (·.nm)
  | 0, rs, h, kn, m => by
    obtain rfl := List.length_eq_zero_iff.mp h
    rw [List.mem_singleton.mp m]
    rfl
  | n + 1, rs, h, kn, m => by
    obtain ⟨qs, r, rfl⟩ : ∃ qs r, rs = qs ++ [r] := ⟨rs.dropLast, rs.getLast (fun e => by rw [e] at h; cases h), (List.dropLast_concat_getLast _).symm⟩
    rw [allV_snoc] at m
    obtain ⟨k0, h0, h1⟩ := List.mem_flatMap.mp m
    obtain ⟨j, _, rfl⟩ := List.mem_map.mp h1
    have ih := allV_names n qs (by rw [List.length_append] at h; simpa using h) k0 h0
    rw [List.map_append, ih, List.map_append]
    rfl
theorem rwVals_len {r : Rw} (h : r.hi ≤ r.lo + 3) (kn : List (Str × Int)) : (rwVals r kn).length ≤ 4 := by
  unfold rwVals
  rw [List.length_map, List.length_range]
  omega
theorem step_len {r : Rw} (h : r.hi ≤ r.lo + 3) : ∀ f : List (List (Str × Int)), (allStep r f).length ≤ 4 * f.length
  | [] => Nat.le_refl _
  | k :: f => by
    have a1 := rwVals_len h k
    have a2 := step_len h f
    unfold allStep at a2 ⊢
    rw [List.flatMap_cons, List.length_append, List.length_cons]
    omega
theorem allV_len : ∀ (n : Nat) (rs : List Rw), rs.length = n → n ≤ 4 → (∀ r ∈ rs, r.hi ≤ r.lo + 3) → (allV rs).length ≤ 4 ^ n
  | 0, rs, h, _, _ => by
    obtain rfl := List.length_eq_zero_iff.mp h
    exact Nat.le_refl _
  | n + 1, rs, h, l, s => by
    obtain ⟨qs, r, rfl⟩ : ∃ qs r, rs = qs ++ [r] := ⟨rs.dropLast, rs.getLast (fun e => by rw [e] at h; cases h), (List.dropLast_concat_getLast _).symm⟩
    have ih := allV_len n qs (by rw [List.length_append] at h; simpa using h) (by omega) fun q hq => s q (List.mem_append_left _ hq)
    have z := step_len (s r (List.mem_append_right _ List.mem_cons_self)) (allV qs)
    rw [allV_snoc, Nat.pow_succ]
    omega
def DK (H : Hp) (t : Addr) (kn : List (Str × Int)) : Prop := H t = some (.dK (kents kn))
def spAllV : Sp := fun vs H Q _ => ∃ (L : Addr) (ts : List Addr) (rs : List Rw), vs = [.ref L] ∧ H L = some (.lst (List.map V.ref ts)) ∧ Paired (RowAt H) ts rs ∧ (rs.map (·.nm)).Nodup ∧ (∀ r ∈ rs, r.hi ≤ r.lo + 3) ∧ (∀ r ∈ rs, r.lo ≤ r.hi ∧ -100 ≤ r.lo ∧ r.hi ≤ 100) ∧ rs.length ≤ 4 ∧
  ∀ F us H', Same H H' → H' F = some (.lst (List.map V.ref us)) → Paired (DK H') us (allV rs) → Q (.ref F) H'
theorem ok_allv (T : Txt K mg a) : FnOk P w K mg base CX0 1 a.f__law_all_values a.d__law_all_values ["rows"] spAllV := by
  refine T.F__law_all_values.ok sc__law_all_values (fun vs H Q E h => ?_) (fun cdv A outer s H vs Q E hr h => ?_)
  · obtain ⟨L, ts, rs, rfl, _⟩ := h
    rfl
  · obtain ⟨L, ts, rs, rfl, hL, pr, hn, rsm, rng, len, k⟩ := h
    have nd := sc__law_all_values.nd
    refine ⟨_, (Evl.pss_cut (ps_set (i := 1) nd rfl (by first | exact Or.inl rfl | exact Or.inr rfl) (pe_lst (pa_cons pe_dnewK pa_nil)))
  (Evl.pss_cut (ps_for PassesOwn.never rfl (pi_list (pv 0)) (pg_name (i := 2) nd rfl (by first | exact Or.inl rfl | exact Or.inr rfl))
    (Evl.pss_cut (ps_set (i := 3) nd rfl (by first | exact Or.inl rfl | exact Or.inr rfl) (pe_lst pa_nil))
  (Evl.pss_cut (ps_for PassesOwn.never rfl (pi_list (pv 1)) (pg_name (i := 4) nd rfl (by first | exact Or.inl rfl | exact Or.inr rfl))
    (pss_one (ps_for PassesOwn.never rfl (pi_range2 (by rfl) T.b_range (pa_cons (pe_ix ix_tup (pv 2) pe_int (fun _ _ => rfl)) (pa_cons (pe_op op_add (pe_ix ix_tup (pv 2) pe_int (fun _ _ => rfl)) pe_int) pa_nil))) (pg_name (i := 5) nd rfl (by first | exact Or.inl rfl | exact Or.inr rfl))
    (pss_one (ps_expr (pe_bm PySem.F.plainAttrs_list PySem.F.slot_list_append PySem.F.type_list_append mt_append (pv 3) (pa_cons (pe_callTy (call_dictP rfl) (by rfl) T.b_dict (by decide +kernel) (pa_cons (pe_op op_cat (LiI.pe_listItems rfl (pv 4) (by rfl) T.b_list (by decide +kernel)) (pe_lst (pa_cons (pe_tup (pa_cons (pe_ix ix_tup (pv 2) pe_int (fun _ _ => rfl)) (pa_cons (pv 5) pa_nil))) pa_nil))) pa_nil)) pa_nil)))))))
  (pss_one (ps_set (i := 1) nd rfl (by first | exact Or.inl rfl | exact Or.inr rfl) (pv 3))))))
  (pss_one (ps_ret (pv 1))))), ?_⟩
    have tl := paired_len pr
    refine ⟨fun σ' H' => ∃ F us, σ' = [some (.ref L), some (.ref F), none, none, none, none] ∧ Same H H' ∧ H' F = some (.lst (List.map V.ref us)) ∧ Paired (DK H') us (allV []), ?_, ?_⟩
    · refine fun d hd => ⟨by show 1 ≤ sizeLine; decide, fun F hF => ?_⟩
      have S1 := Same.new hd (o := .dK [])
      have S2 := Same.new hF (o := .lst [V.ref d])
      exact ⟨F, [d], rfl, S1.trans S2, upd_same, .cons (S2 _ _ upd_same) .nil⟩
    rintro σ1 H1 ⟨F0, us0, rfl, S1, eF1, pF1⟩
    refine ⟨fun σ' H' => ∃ F us v2 v3 v4 v5, σ' = [some (.ref L), some (.ref F), v2, v3, v4, v5] ∧ Same H H' ∧ H' F = some (.lst (List.map V.ref us)) ∧ Paired (DK H') us (allV rs), ?_, ?_⟩
    · refine ⟨_, rfl, L, rfl, ⟨_, SqL.of (S1 _ _ hL)⟩, for_list (xs := ts.map V.ref) (fun i σ' H' => ∃ F us v2 v3 v4 v5, σ' = [some (.ref L), some (.ref F), v2, v3, v4, v5] ∧ Same H H' ∧ H' F = some (.lst (List.map V.ref us)) ∧ Paired (DK H') us (allV (rs.take i))) ⟨F0, us0, none, none, none, none, rfl, S1, eF1, pF1⟩ ?_ ?_ ?_⟩
      · rintro i σ' H' _ ⟨_, _, _, _, _, _, rfl, s, _⟩
        exact SqL.of (s _ _ hL)
      · rintro i x σ' H2 ex ⟨F, us, v2, v3, v4, v5, rfl, S2, eF, pF⟩
        rw [List.getElem?_map] at ex
        cases eu : ts[i]? with
        | none => rw [eu] at ex; cases ex
        | some t =>
        rw [eu] at ex
        obtain rfl : V.ref t = x := Option.some.inj ex
        obtain ⟨r, er, at0⟩ := LiI.paired_get pr eu
        have rm : r ∈ rs := List.mem_of_getElem? er
        have il := (List.getElem?_eq_some_iff.mp er).1
        obtain ⟨r1, r2, r3⟩ := rng r rm
        have r4 := rsm r rm
        have tk := take_snoc er
        have nmr : r.nm ∉ (rs.take i).map (·.nm) := fun c => by
          have z := hn
          rw [← List.take_append_drop (i + 1) rs, tk, List.map_append, List.map_append] at z
          exact (List.nodup_append.mp (List.nodup_append.mp z).1).2.2 _ c _ (List.mem_singleton.mpr rfl) rfl
        have fnm : ∀ kn ∈ allV (rs.take i), r.nm ∉ kn.map (·.1) := fun kn hk => by
          rw [allV_names _ _ rfl kn hk]
          exact nmr
        have knd : ∀ kn ∈ allV (rs.take i), (kn.map (·.1)).Nodup := fun kn hk => by
          rw [allV_names _ _ rfl kn hk]
          exact List.Nodup.sublist (List.Sublist.map _ (List.take_sublist i rs)) hn
        have flen : (allV (rs.take i)).length ≤ 256 := by
          have z := allV_len _ (rs.take i) rfl (by rw [List.length_take]; omega) fun q hq => rsm q (List.mem_of_mem_take hq)
          refine Nat.le_trans z (Nat.le_trans (Nat.pow_le_pow_right (by decide) (show _ ≤ 4 by rw [List.length_take]; omega)) (by decide))
        refine ⟨fun σ' H' => ∃ M, σ' = [some (.ref L), some (.ref F), some (.ref t), some (.ref M), v4, v5] ∧ H2 M = none ∧ Same H2 H' ∧ H' M = some (.lst []), ?_, ?_⟩
        · exact ⟨Nat.zero_le _, fun M hM => ⟨M, rfl, hM, Same.new hM, upd_same⟩⟩
        rintro σ3 H3 ⟨M, rfl, hM, S3, eM⟩
        have eF3 := S3 _ _ eF
        have pF3 : Paired (DK H3) us (allV (rs.take i)) := paired_imp (fun _ _ z => S3 _ _ z) pF
        have at3 := S3 _ _ (S2 _ _ at0)
        have FM : F ≠ M := fun c => by rw [c, hM] at eF; cases eF
        have tM : t ≠ M := fun c => by have z := S2 _ _ at0; rw [c, hM] at z; cases z
        have ul := paired_len pF3
        generalize hfs : allV (rs.take i) = fs at pF3 fnm knd flen ul
        refine ⟨fun σ' H' => ∃ ms v4 v5, σ' = [some (.ref L), some (.ref F), some (.ref t), some (.ref M), v4, v5] ∧ But M H3 H' ∧ H' M = some (.lst (List.map V.ref ms)) ∧ Paired (DK H') ms (allStep r fs), ?_, ?_⟩
        · refine ⟨_, rfl, F, rfl, ⟨_, SqL.of eF3⟩, for_list (xs := us.map V.ref) (fun j σ' H' => ∃ ms v4 v5, σ' = [some (.ref L), some (.ref F), some (.ref t), some (.ref M), v4, v5] ∧ But M H3 H' ∧ H' M = some (.lst (List.map V.ref ms)) ∧ Paired (DK H') ms (allStep r (fs.take j))) ⟨[], _, _, rfl, But.refl _ _, eM, .nil⟩ ?_ ?_ ?_⟩
          · rintro j σ' H' _ ⟨_, _, _, rfl, b, _⟩
            exact SqL.of (b _ _ FM eF3)
          · rintro j x σ' H4 ex2 ⟨ms, v4, v5, rfl, b4, eM4, pM4⟩
            rw [List.getElem?_map] at ex2
            cases eu2 : us[j]? with
            | none => rw [eu2] at ex2; cases ex2
            | some d =>
            rw [eu2] at ex2
            obtain rfl : V.ref d = x := Option.some.inj ex2
            obtain ⟨kn, ek, dk0⟩ := LiI.paired_get pF3 eu2
            have km : kn ∈ fs := List.mem_of_getElem? ek
            have jl := (List.getElem?_eq_some_iff.mp ek).1
            have dM : d ≠ M := fun c => by unfold DK at dk0; rw [c, eM] at dk0; cases dk0
            have m1 := step_len r4 (fs.take j)
            rw [List.length_take] at m1
            have at4 := b4 _ _ tM at3
            refine ⟨_, rfl, t, _, _, _, rfl, rfl, SqT.of (K := K) at4, rfl, _, rfl, t, _, _, _, rfl, rfl, SqT.of (K := K) at4, rfl, _, _, rfl, rfl, r.lo, r.hi + 1, rfl, ⟨by omega, by omega, by omega, by omega⟩, ?_⟩
            refine for_range (lo := r.lo) (n := (r.hi + 1 - r.lo).toNat) (fun m σ' H' => ∃ ms v5, σ' = [some (.ref L), some (.ref F), some (.ref t), some (.ref M), some (.ref d), v5] ∧ But M H3 H' ∧ H' M = some (.lst (List.map V.ref ms)) ∧ Paired (DK H') ms (allStep r (fs.take j) ++ ((List.range m).map fun (q : Nat) => kn ++ [(r.nm, r.lo + (q : Int))]))) ⟨ms, _, rfl, b4, eM4, by rw [List.range_zero, List.map_nil, List.append_nil]; exact pM4⟩ ?_ ?_
            · rintro m σ' H5 hm ⟨ms, v5, rfl, b5, eM5, pM5⟩
              have ed5 : H5 d = some (.dK (kents kn)) := b5 _ _ dM dk0
              have at5 := b5 _ _ tM at3
              have m5 := paired_len pM5
              rw [List.length_append, List.length_map, List.length_range] at m5
              refine ⟨_, rfl, .inl ⟨rfl, _, SqL.of eM5⟩, _, rfl, d, kents kn, rfl, ed5, fun H6 X xs s6 hX hxs nX eX pX => ?_⟩
              have S6 : Same H5 H6 := fun b o e => s6 b o e
              refine ⟨_, rfl, t, _, _, _, rfl, rfl, SqT.of (K := K) (S6 _ _ at5), rfl, _, rfl, by show 2 ≤ sizeLine; decide, fun q hq => ⟨by show 1 ≤ sizeLine; decide, fun Y hY => ?_⟩⟩
              have S7 := Same.new hq (o := .tup [.str r.nm, .int (r.lo + (m : Int))])
              have S8 := Same.new hY (o := .lst [V.ref q])
              have xl := paired_len pX
              have kl : (kents kn).length = kn.length := by unfold kents; rw [List.length_map]
              have kl2 : kn.length ≤ 4 := by
                have z := congrArg List.length (allV_names _ (rs.take i) rfl kn (by rw [hfs]; exact km))
                rw [List.length_map, List.length_map, List.length_take] at z
                omega
              refine ⟨X, Y, _, _, rfl, rfl, S8 _ _ (S7 _ _ eX), upd_same, by rw [List.length_map, xl, kl, sizeLine_eq]; show _ + 1 ≤ _; omega, fun Z hZ => ?_⟩
              have S9 := Same.new hZ (o := .lst (xs.map V.ref ++ [V.ref q]))
              have eZ : upd (upd (upd H6 q (.tup [.str r.nm, .int (r.lo + (m : Int))])) Y (.lst [V.ref q])) Z (.lst (xs.map V.ref ++ [V.ref q])) Z = some (.lst ((xs ++ [q]).map V.ref)) := by rw [upd_same, List.map_append]; rfl
              have eq9 := S9 _ _ (S8 _ _ (upd_same (H := H6) (a := q) (o := .tup [.str r.nm, .int (r.lo + (m : Int))])))
              have p9 := paired_snoc (paired_imp (fun _ _ z => SqT.of (K := K) (S9 _ _ (S8 _ _ (S7 _ _ z)))) pX) (y := ((Sum.inr r.nm : Key), V.int (r.lo + (m : Int)))) (SqT.of (K := K) eq9)
              have ek2 : kents kn ++ [((Sum.inr r.nm : Key), V.int (r.lo + (m : Int)))] = kents (kn ++ [(r.nm, r.lo + (m : Int))]) := by
                unfold kents
                rw [List.map_append]
                rfl
              rw [ek2] at p9
              have S69 : Same H5 (upd (upd (upd H6 q (.tup [.str r.nm, .int (r.lo + (m : Int))])) Y (.lst [V.ref q])) Z (.lst (xs.map V.ref ++ [V.ref q]))) := fun b o e => S9 _ _ (S8 _ _ (S7 _ _ (S6 _ _ e)))
              generalize upd (upd (upd H6 q (.tup [.str r.nm, .int (r.lo + (m : Int))])) Y (.lst [V.ref q])) Z (.lst (xs.map V.ref ++ [V.ref q])) = H9 at eZ p9 S69 ⊢
              refine ⟨Z, xs ++ [q], kents (kn ++ [(r.nm, r.lo + (m : Int))]), rfl, SqL.of eZ, p9, fun D hD => ?_⟩
              rw [merge_new _ _ (by
                rw [List.nil_append, kents_keys, List.map_append]
                have z : (kn.map (·.1) ++ [r.nm]).Nodup := by
                  rw [List.nodup_append]
                  refine ⟨knd kn km, by simp, fun x hx y hy e => ?_⟩
                  rw [List.mem_singleton.mp hy] at e
                  exact fnm kn km (e ▸ hx)
                exact z.map _ fun _ _ h e => h (Sum.inr.inj e)), List.nil_append]
              have S10 := Same.new hD (o := .dK (kents (kn ++ [(r.nm, r.lo + (m : Int))])))
              have Sall : Same H5 (upd H9 D (.dK (kents (kn ++ [(r.nm, r.lo + (m : Int))])))) := fun b o e => S10 _ _ (S69 _ _ e)
              have DM : D ≠ M := fun c => by have z := S69 _ _ eM5; rw [← c, hD] at z; cases z
              refine ⟨M, _, _, rfl, rfl, Sall _ _ eM5, by rw [List.length_map, sizeLine_eq]; omega, ms ++ [D], _, rfl, fun c o hc e => by rw [upd_ne hc]; exact Sall _ _ (b5 _ _ hc e), by rw [upd_same, List.map_append]; rfl, ?_⟩
              rw [List.range_succ, List.map_append, ← List.append_assoc]
              refine paired_snoc (paired_imp (fun x y z => ?_) pM5) ?_
              · unfold DK at z ⊢
                rw [upd_ne (fun c => by rw [c, eM5] at z; cases z)]
                exact Sall _ _ z
              · unfold DK
                rw [upd_ne DM]
                exact upd_same
            · rintro σ' H5 ⟨ms, v5, rfl, b5, eM5, pM5⟩
              refine ⟨ms, _, _, rfl, b5, eM5, ?_⟩
              rw [take_snoc ek]
              unfold allStep
              rw [List.flatMap_append, List.flatMap_singleton]
              exact pM5
          · rintro σ' H4 ⟨ms, v4, v5, rfl, b4, eM4, pM4⟩
            rw [List.length_map, ul, List.take_length] at pM4
            exact ⟨ms, v4, v5, rfl, b4, eM4, pM4⟩
        rintro σ4 H4 ⟨ms, v4, v5, rfl, b4, eM4, pM4⟩
        refine ⟨_, rfl, M, ms, _, _, _, _, rfl, fun c o e => b4 _ _ (fun z => by have q := S2 _ _ e; rw [z, hM] at q; cases q) (S3 _ _ (S2 _ _ e)), eM4, ?_⟩
        rw [tk, allV_snoc, hfs]
        exact pM4
      · rintro σ' H2 ⟨F, us, v2, v3, v4, v5, rfl, S2, eF, pF⟩
        rw [List.length_map, tl, List.take_length] at pF
        exact ⟨F, us, v2, v3, v4, v5, rfl, S2, eF, pF⟩
    rintro σ2 H2 ⟨F, us, v2, v3, v4, v5, rfl, S2, eF, pF⟩
    exact ⟨_, rfl, k F us H2 S2 eF pF⟩
theorem paired_ap {α β : Type} {F : α → β → Prop} : ∀ {xs : List α} {ys : List β} {xs' : List α} {ys' : List β}, Paired F xs ys → Paired F xs' ys' → Paired F (xs ++ xs') (ys ++ ys')
  | _, _, _, _, .nil, h => h
  | _, _, _, _, .cons a b, h => .cons a (paired_ap b h)
def insAll (x : Str) (o : List Str) : List (List Str) := (List.range (o.length + 1)).map fun k => o.take k ++ [x] ++ o.drop k
def ordStep (x : Str) (f : List (List Str)) : List (List Str) := f.flatMap (insAll x)
def ordsS (xs : List Str) : List (List Str) := xs.foldl (fun f x => ordStep x f) [[]]
theorem ordsS_snoc (xs : List Str) (x : Str) : ordsS (xs ++ [x]) = ordStep x (ordsS xs) := by
  unfold ordsS
  rw [List.foldl_append]
  rfl
theorem ordsS_perm : ∀ (n : Nat) (xs : List Str), xs.length = n → ∀ o, o ∈ ordsS xs ↔ o.Perm xs
  | 0, xs, h, o => by
    obtain rfl := List.length_eq_zero_iff.mp h
    rw [List.perm_nil]
    exact List.mem_singleton
  | n + 1, xs, h, o => by
    obtain ⟨ys, x, rfl⟩ : ∃ ys x, xs = ys ++ [x] := ⟨xs.dropLast, xs.getLast (fun e => by rw [e] at h; cases h), (List.dropLast_concat_getLast _).symm⟩
    have ih := ordsS_perm n ys (by rw [List.length_append] at h; simpa using h)
    rw [ordsS_snoc]
    constructor
    · intro m
      obtain ⟨o0, h0, h1⟩ := List.mem_flatMap.mp m
      obtain ⟨k, _, rfl⟩ := List.mem_map.mp h1
      have p0 := (ih o0).mp h0
      have e : (o0.take k ++ [x] ++ o0.drop k).Perm (o0 ++ [x]) := by
        rw [List.append_assoc]
        refine (List.Perm.append_left _ List.perm_append_comm).trans ?_
        rw [← List.append_assoc, List.take_append_drop]
      exact e.trans (p0.append_right _)
    · intro pm
      have mx : x ∈ o := pm.mem_iff.mpr (List.mem_append_right _ List.mem_cons_self)
      obtain ⟨s, t, rfl⟩ := List.append_of_mem mx
      have p1 : (s ++ t).Perm ys := by
        have z : (x :: (s ++ t)).Perm (x :: ys) := List.perm_middle.symm.trans (pm.trans List.perm_append_comm)
        exact (List.perm_cons x).mp z
      refine List.mem_flatMap.mpr ⟨s ++ t, (ih _).mpr p1, List.mem_map.mpr ⟨s.length, List.mem_range.mpr (by rw [List.length_append]; omega), ?_⟩⟩
      rw [List.take_left, List.drop_left, List.append_assoc]
      rfl
theorem ordStep_len {x : Str} {n : Nat} : ∀ f : List (List Str), (∀ o ∈ f, o.length = n) → (ordStep x f).length = (n + 1) * f.length
  | [], _ => rfl
  | o :: f, h => by
    have a1 : (insAll x o).length = n + 1 := by
      unfold insAll
      rw [List.length_map, List.length_range, h o List.mem_cons_self]
    have a2 := ordStep_len (x := x) f fun q hq => h q (List.mem_cons_of_mem _ hq)
    unfold ordStep at a2 ⊢
    rw [List.flatMap_cons, List.length_append, a1, a2, List.length_cons, Nat.mul_add, Nat.mul_one, Nat.add_comm]
theorem ordsS_len : ∀ (n : Nat) (xs : List Str), xs.length = n → n ≤ 4 → (ordsS xs).length ≤ 5 ^ n
  | 0, xs, h, _ => by
    obtain rfl := List.length_eq_zero_iff.mp h
    exact Nat.le_refl _
  | n + 1, xs, h, l => by
    obtain ⟨ys, x, rfl⟩ : ∃ ys x, xs = ys ++ [x] := ⟨xs.dropLast, xs.getLast (fun e => by rw [e] at h; cases h), (List.dropLast_concat_getLast _).symm⟩
    have yl : ys.length = n := by rw [List.length_append] at h; simpa using h
    have ih := ordsS_len n ys yl (by omega)
    have z := ordStep_len (x := x) (n := n) (ordsS ys) fun o ho => by rw [((ordsS_perm n ys yl o).mp ho).length_eq, yl]
    rw [ordsS_snoc, z, Nat.pow_succ, Nat.mul_comm]
    exact Nat.mul_le_mul ih (by omega)
def LK (H : Hp) (t : Addr) (o : List Str) : Prop := H t = some (.lst (o.map V.str))
def spOrds : Sp := fun vs H Q _ => ∃ (L : Addr) (xs : List Str), vs = [.ref L] ∧ H L = some (.lst (xs.map V.str)) ∧ xs.length ≤ 4 ∧
  ∀ F us H', Same H H' → H' F = some (.lst (List.map V.ref us)) → Paired (LK H') us (ordsS xs) → (∀ u ∈ us, H u = none) → Q (.ref F) H'
theorem ok_ords (T : Txt K mg a) : FnOk P w K mg base CX0 1 a.f__law_orders a.d__law_orders ["some"] spOrds := by
  refine T.F__law_orders.ok sc__law_orders (fun vs H Q E h => ?_) (fun cdv A outer s H vs Q E hr h => ?_)
  · obtain ⟨L, xs, rfl, _⟩ := h
    rfl
  · obtain ⟨L, xs, rfl, hL, len, k⟩ := h
    have nd := sc__law_orders.nd
    refine ⟨_, (Evl.pss_cut (ps_set (i := 1) nd rfl (by first | exact Or.inl rfl | exact Or.inr rfl) (pe_lst (pa_cons (pe_lst pa_nil) pa_nil)))
  (Evl.pss_cut (ps_for PassesOwn.never rfl (pi_list (pv 0)) (pg_name (i := 2) nd rfl (by first | exact Or.inl rfl | exact Or.inr rfl))
    (Evl.pss_cut (ps_set (i := 3) nd rfl (by first | exact Or.inl rfl | exact Or.inr rfl) (pe_lst pa_nil))
  (Evl.pss_cut (ps_for PassesOwn.never rfl (pi_list (pv 1)) (pg_name (i := 4) nd rfl (by first | exact Or.inl rfl | exact Or.inr rfl))
    (pss_one (ps_set (i := 3) nd rfl (by first | exact Or.inl rfl | exact Or.inr rfl) (pe_op op_cat (pv 3) (pe_lc (own := [("spot", 5)]) (g := gName 5) (tt := tYes) rfl nd (pi_range1 rfl T.b_range (pa_cons (pe_op op_add (pe_callB call_len_seq (by rfl) T.b_len PySem.boot_len (pa_cons (pv 4) pa_nil)) pe_int) pa_nil)) (blkOk_by (N := ["some", "found", "one", "longer", "order", "spot"]) (sc := defScope s__law_orders) (by decide +kernel)) (fun _ _ _ _ _ => (pg_name (i := 5) nd rfl (by first | exact Or.inl rfl | exact Or.inr rfl))) (fun _ _ _ _ _ => pts_nil) (fun _ _ _ _ _ => (pe_op op_cat (pe_op op_cat (pe_slice (sl_listK (K := K) rfl) (pv 4) po_none (po_some (pv 5))) (pe_lst (pa_cons (pv 2) pa_nil))) (pe_slice (sl_listK (K := K) rfl) (pv 4) (po_some (pv 5)) po_none))))))))
  (pss_one (ps_set (i := 1) nd rfl (by first | exact Or.inl rfl | exact Or.inr rfl) (pv 3))))))
  (pss_one (ps_ret (pv 1))))), ?_⟩
    refine ⟨fun σ' H' => ∃ F us, σ' = [some (.ref L), some (.ref F), none, none, none, none] ∧ Same H H' ∧ H' F = some (.lst (List.map V.ref us)) ∧ Paired (LK H') us (ordsS []) ∧ (∀ u ∈ us, H u = none), ?_, ?_⟩
    · refine ⟨Nat.zero_le _, fun d hd => ⟨by show 1 ≤ sizeLine; decide, fun F hF => ?_⟩⟩
      have S1 := Same.new hd (o := .lst [])
      have S2 := Same.new hF (o := .lst [V.ref d])
      exact ⟨F, [d], rfl, S1.trans S2, upd_same, .cons (S2 _ _ upd_same) .nil, fun u hu => by rw [List.mem_singleton.mp hu]; exact hd⟩
    rintro σ1 H1 ⟨F0, us0, rfl, S1, eF1, pF1, fr1⟩
    refine ⟨fun σ' H' => ∃ F us v2 v3 v4, σ' = [some (.ref L), some (.ref F), v2, v3, v4, none] ∧ Same H H' ∧ H' F = some (.lst (List.map V.ref us)) ∧ Paired (LK H') us (ordsS xs) ∧ (∀ u ∈ us, H u = none), ?_, ?_⟩
    · refine ⟨_, rfl, L, rfl, ⟨_, SqL.of (S1 _ _ hL)⟩, for_list (xs := xs.map V.str) (fun i σ' H' => ∃ F us v2 v3 v4, σ' = [some (.ref L), some (.ref F), v2, v3, v4, none] ∧ Same H H' ∧ H' F = some (.lst (List.map V.ref us)) ∧ Paired (LK H') us (ordsS (xs.take i)) ∧ (∀ u ∈ us, H u = none)) ⟨F0, us0, none, none, none, rfl, S1, eF1, pF1, fr1⟩ ?_ ?_ ?_⟩
      · rintro i σ' H' _ ⟨_, _, _, _, _, rfl, s, _⟩
        exact SqL.of (s _ _ hL)
      · rintro i v σ' H2 ex ⟨F, us, v2, v3, v4, rfl, S2, eF, pF, frF⟩
        rw [List.getElem?_map] at ex
        cases en : xs[i]? with
        | none => rw [en] at ex; cases ex
        | some x =>
        rw [en] at ex
        obtain rfl : V.str x = v := Option.some.inj ex
        have il := (List.getElem?_eq_some_iff.mp en).1
        have tk := take_snoc en
        have ti : (xs.take i).length = i := by rw [List.length_take]; omega
        have olen : ∀ o ∈ ordsS (xs.take i), o.length = i := fun o ho => by rw [((ordsS_perm _ _ rfl o).mp ho).length_eq, ti]
        have flen : (ordsS (xs.take i)).length ≤ 125 := by
          have z := ordsS_len i (xs.take i) ti (by omega)
          exact Nat.le_trans z (Nat.le_trans (Nat.pow_le_pow_right (by decide) (show i ≤ 3 by omega)) (by decide))
        have ul := paired_len pF
        generalize hfs : ordsS (xs.take i) = fs at pF olen flen ul
        refine ⟨fun σ' H' => ∃ M, σ' = [some (.ref L), some (.ref F), some (.str x), some (.ref M), v4, none] ∧ Same H2 H' ∧ H' M = some (.lst []), ?_, ?_⟩
        · exact ⟨Nat.zero_le _, fun M hM => ⟨M, rfl, Same.new hM, upd_same⟩⟩
        rintro σ3 H3 ⟨M0, rfl, S3, eM0⟩
        refine ⟨fun σ' H' => ∃ M ms v4, σ' = [some (.ref L), some (.ref F), some (.str x), some (.ref M), v4, none] ∧ Same H3 H' ∧ H' M = some (.lst (List.map V.ref ms)) ∧ Paired (LK H') ms (ordStep x fs) ∧ (∀ u ∈ ms, H u = none), ?_, ?_⟩
        · refine ⟨_, rfl, F, rfl, ⟨_, SqL.of (S3 _ _ eF)⟩, for_list (xs := us.map V.ref) (fun j σ' H' => ∃ M ms v4, σ' = [some (.ref L), some (.ref F), some (.str x), some (.ref M), v4, none] ∧ Same H3 H' ∧ H' M = some (.lst (List.map V.ref ms)) ∧ Paired (LK H') ms (ordStep x (fs.take j)) ∧ (∀ u ∈ ms, H u = none)) ⟨M0, [], _, rfl, Same.refl _, eM0, .nil, fun _ z => (nomatch z)⟩ ?_ ?_ ?_⟩
          · rintro j σ' H' _ ⟨_, _, _, rfl, s, _⟩
            exact SqL.of (s _ _ (S3 _ _ eF))
          · rintro j v σ' H4 ex2 ⟨M, ms, v4, rfl, S4, eM, pM, frM⟩
            rw [List.getElem?_map] at ex2
            cases eu2 : us[j]? with
            | none => rw [eu2] at ex2; cases ex2
            | some d =>
            rw [eu2] at ex2
            obtain rfl : V.ref d = v := Option.some.inj ex2
            obtain ⟨o, eo, lk0⟩ := LiI.paired_get pF eu2
            have om : o ∈ fs := List.mem_of_getElem? eo
            have jl := (List.getElem?_eq_some_iff.mp eo).1
            have ed4 : H4 d = some (.lst (o.map V.str)) := S4 _ _ (S3 _ _ lk0)
            have ol := olen o om
            have m1 := paired_len pM
            rw [ordStep_len (n := i) _ (fun q hq => olen q (List.mem_of_mem_take hq)), List.length_take] at m1
            have m2 : ms.length ≤ 4 * 125 := by
              rw [m1]
              exact Nat.mul_le_mul (by omega) (by omega)
            refine ⟨_, rfl, _, rfl, d, _, rfl, .inl (SqL.of ed4), _, _, rfl, rfl, _, rfl, by rw [List.length_map]; omega, by rw [List.length_map]; omega, fun D hD => ?_⟩
            have en2 : (((o.map V.str).length : Nat) : Int) + 1 = ((o.length + 1 : Nat) : Int) := by rw [List.length_map]; omega
            rw [en2, Int.toNat_natCast]
            refine lc_pure (walk_range (lo := 0) (n := o.length + 1)) (List.range (o.length + 1)) (fun _ => true) (fun k v H' => ∃ t, v = V.ref t ∧ LK H' t (o.take k ++ [x] ++ o.drop k) ∧ t ≠ D ∧ H t = none) List.length_range hD (fun _ _ => trivial) (fun i H x H' e => ⟨by rw [e.1]; exact Same.refl _, fun o h => by rw [e.1]; exact h⟩) (by rw [sizeLine_eq]; omega) ?_ ?_ ?_
            · rintro q v Ha Hb ⟨u, rfl, z, uD, uf⟩ _ b
              exact ⟨u, rfl, b _ _ uD z, uD, uf⟩
            · rintro Nx k2 v q H5 H5' ed s5 - ⟨rfl, rfl⟩ ⟨acc0, eD0'⟩ s5' fin skip
              have ek : k2 < o.length + 1 ∧ q = k2 := by
                rw [List.getElem?_eq_some_iff] at ed
                obtain ⟨h, e⟩ := ed
                rw [List.length_range] at h
                rw [List.getElem_range] at e
                exact ⟨h, e.symm⟩
              obtain ⟨kl, rfl⟩ := ek
              have e0 : (0 : Int) + (q : Nat) = (q : Int) := Int.zero_add _
              have ed5 := s5' _ _ ed4
              have ql : q ≤ (o.map V.str).length := by rw [List.length_map]; omega
              refine ⟨rfl, ?_⟩
              dsimp only [tYes]
              rw [if_pos rfl, e0]
              refine ⟨_, rfl, _, rfl, _, rfl, d, _, rfl, SqL.of (K := K) ed5, fun A1 hA1 => ?_⟩
              rw [cutP_to _ ql]
              have S1' := Same.new hA1 (o := .lst ((o.map V.str).take q))
              refine ⟨_, rfl, by show 1 ≤ sizeLine; decide, fun A2 hA2 => ?_⟩
              have S2' := Same.new hA2 (o := .lst [V.str x])
              refine ⟨A1, A2, _, _, rfl, rfl, S2' _ _ upd_same, upd_same, by rw [List.length_take, List.length_map, sizeLine_eq]; show _ + 1 ≤ _; omega, fun A3 hA3 => ?_⟩
              have S3' := Same.new hA3 (o := .lst ((o.map V.str).take q ++ [V.str x]))
              refine ⟨_, rfl, _, rfl, _, rfl, d, _, rfl, SqL.of (K := K) (S3' _ _ (S2' _ _ (S1' _ _ ed5))), fun A4 hA4 => ?_⟩
              rw [cutP_from _ ql]
              have S4' := Same.new hA4 (o := .lst ((o.map V.str).drop q))
              refine ⟨A3, A4, _, _, rfl, rfl, S4' _ _ upd_same, upd_same, by rw [List.length_append, List.length_take, List.length_drop, List.length_map, sizeLine_eq]; show _ + 1 + _ ≤ _; omega, fun A5 hA5 => ?_⟩
              have S5' := Same.new hA5 (o := .lst ((o.map V.str).take q ++ [V.str x] ++ (o.map V.str).drop q))
              have Sall : Same H5' _ := (((S1'.trans S2').trans S3').trans S4').trans S5'
              have S05 : Same H H5' := fun c o e => s5' _ _ (S4 _ _ (S3 _ _ (S2 _ _ e)))
              refine fin rfl _ _ Sall ⟨A5, rfl, ?_, ?_, (S05.trans (((S1'.trans S2').trans S3').trans S4')).free hA5⟩
              · unfold LK
                rw [upd_same, List.map_append, List.map_append, List.map_take, List.map_drop]
                rfl
              · intro c
                have z := (((S1'.trans S2').trans S3').trans S4') _ _ (show H5' D = _ from eD0')
                rw [← c, hA5] at z
                cases z
            · intro zs H5 s5 eD pz
              obtain ⟨qs, rfl, pu0⟩ := paired_refs (F := fun t y => LK H5 t y ∧ H t = none) (g := fun k => o.take k ++ [x] ++ o.drop k) (paired_imp (fun _ _ ⟨t, e, z, _, f⟩ => ⟨t, e, z, f⟩) pz)
              have pu := paired_imp (fun _ _ z => z.1) pu0
              have fq : ∀ u ∈ qs, H u = none := fun u hu => by
                obtain ⟨j3, ej⟩ := List.mem_iff_getElem?.mp hu
                obtain ⟨_, _, _, z⟩ := LiI.paired_get pu0 ej
                exact z
              rw [all_keep] at pu
              have ql := paired_len pu
              rw [List.length_map, List.length_range] at ql
              refine ⟨M, D, _, _, rfl, rfl, s5 _ _ eM, eD, by rw [List.length_map, List.length_map, sizeLine_eq]; omega, fun E hE => ?_⟩
              have S6 := Same.new hE (o := .lst (ms.map V.ref ++ qs.map V.ref))
              refine ⟨E, ms ++ qs, _, rfl, (S4.trans s5).trans S6, by rw [upd_same, List.map_append], ?_, fun u hu => (List.mem_append.mp hu).elim (frM u) (fq u)⟩
              rw [take_snoc eo]
              unfold ordStep
              rw [List.flatMap_append, List.flatMap_singleton]
              exact paired_ap (paired_imp (fun _ _ z => S6 _ _ (s5 _ _ z)) pM) (paired_imp (fun _ _ z => S6 _ _ z) pu)
          · rintro σ' H4 ⟨M, ms, v4, rfl, S4, eM, pM, frM⟩
            rw [List.length_map, ul, List.take_length] at pM
            exact ⟨M, ms, v4, rfl, S4, eM, pM, frM⟩
        rintro σ4 H4 ⟨M, ms, v4, rfl, S4, eM, pM, frM⟩
        refine ⟨_, rfl, M, ms, _, _, _, rfl, fun c o e => S4 _ _ (S3 _ _ (S2 _ _ e)), eM, ?_, frM⟩
        rw [tk, ordsS_snoc, hfs]
        exact pM
      · rintro σ' H2 ⟨F, us, v2, v3, v4, rfl, S2, eF, pF, frF⟩
        rw [List.length_map, List.take_length] at pF
        exact ⟨F, us, v2, v3, v4, rfl, S2, eF, pF, frF⟩
    rintro σ2 H2 ⟨F, us, v2, v3, v4, rfl, S2, eF, pF, frF⟩
    exact ⟨_, rfl, k F us H2 S2 eF pF frF⟩
end
end Ask

set_option Elab.async false
set_option linter.all false
set_option maxRecDepth 100000
set_option maxHeartbeats 4000000
set_option pp.deepTerms false
set_option pp.deepTerms.threshold 14
namespace Ask
open PySem L2
open PyProof.Rows
/-! climbing along an order, against all values -/
def Fit (p : Str × Int) (r : Rw) : Prop := p.1 = r.nm ∧ r.lo ≤ p.2 ∧ p.2 ≤ r.hi
theorem paired_unsnoc {α β : Type} {F : α → β → Prop} : ∀ {xs : List α} {ys : List β} {y : β}, Paired F xs (ys ++ [y]) → ∃ zs z, xs = zs ++ [z] ∧ Paired F zs ys ∧ F z y
  | _, [], _, .cons h .nil => ⟨[], _, rfl, .nil, h⟩
  | _, _ :: _, _, .cons h t => by
    obtain ⟨zs, z, rfl, p, f⟩ := paired_unsnoc t
    exact ⟨_ :: zs, z, rfl, .cons h p, f⟩
theorem allV_iff : ∀ (n : Nat) (rs : List Rw), rs.length = n → ∀ k, k ∈ allV rs ↔ Paired Fit k rs
  | 0, rs, h, k => by
    obtain rfl := List.length_eq_zero_iff.mp h
    constructor
    · intro m
      rw [List.mem_singleton.mp m]
      exact .nil
    · intro p
      cases p
      exact List.mem_cons_self
  | n + 1, rs, h, k => by
    obtain ⟨ys, r, rfl⟩ : ∃ ys r, rs = ys ++ [r] := ⟨rs.dropLast, rs.getLast (fun e => by rw [e] at h; cases h), (List.dropLast_concat_getLast _).symm⟩
    have ih := allV_iff n ys (by rw [List.length_append] at h; simpa using h)
    rw [allV_snoc]
    constructor
    · intro m
      obtain ⟨k0, h0, h1⟩ := List.mem_flatMap.mp m
      obtain ⟨j, hj, rfl⟩ := List.mem_map.mp h1
      rw [List.mem_range] at hj
      exact paired_snoc ((ih k0).mp h0) ⟨rfl, by show r.lo ≤ r.lo + (j : Int); omega, by show r.lo + (j : Int) ≤ r.hi; omega⟩
    · intro p
      obtain ⟨zs, ⟨nm, v⟩, rfl, p1, e, b1, b2⟩ := paired_unsnoc p
      have e : nm = r.nm := e
      have b1 : r.lo ≤ v := b1
      have b2 : v ≤ r.hi := b2
      subst e
      refine List.mem_flatMap.mpr ⟨zs, (ih zs).mpr p1, List.mem_map.mpr ⟨(v - r.lo).toNat, List.mem_range.mpr (by omega), ?_⟩⟩
      show zs ++ [(r.nm, r.lo + (((v - r.lo).toNat : Nat) : Int))] = zs ++ [(r.nm, v)]
      rw [show r.lo + (((v - r.lo).toNat : Nat) : Int) = v by omega]
theorem upI_le {lo : Option Int} {x y : Int} (h1 : x ≤ y) (h2 : ∀ z, lo = some z → z ≤ y) : upI lo x ≤ y := by
  unfold upI
  cases lo with
  | none => exact h1
  | some z =>
    dsimp only
    split
    · exact h1
    · exact h2 z rfl
theorem upI_ge (lo : Option Int) (x : Int) : x ≤ upI lo x ∧ ∀ z, lo = some z → z ≤ upI lo x := by
  unfold upI
  cases lo with
  | none => exact ⟨Int.le_refl _, fun _ h => by cases h⟩
  | some z =>
    dsimp only
    split
    · rename_i c
      exact ⟨Int.le_refl _, fun _ h => by cases h; omega⟩
    · rename_i c
      exact ⟨by omega, fun _ h => by cases h; exact Int.le_refl _⟩
theorem climb_any (g : Str → Int) : ∀ (qs : List Rw) (k0 : List (Str × Int)) (lo0 : Option Int), (∀ r ∈ qs, r.lo ≤ g r.nm ∧ g r.nm ≤ r.hi) → (qs.map fun r => g r.nm).Pairwise (· ≤ ·) → (∀ z, lo0 = some z → ∀ r ∈ qs, z ≤ g r.nm) →
    ∃ k lo, qs.foldl cstep (some (k0, lo0)) = some (k0 ++ k, lo) ∧ Paired (fun (p : Str × Int) (r : Rw) => p.1 = r.nm ∧ p.2 ≤ g r.nm) k qs
  | [], k0, lo0, _, _, _ => ⟨[], lo0, by rw [List.append_nil]; rfl, .nil⟩
  | r :: qs, k0, lo0, h1, h2, h3 => by
    rw [List.map_cons, List.pairwise_cons] at h2
    have le := upI_le (lo := lo0) (h1 r List.mem_cons_self).1 fun z e => h3 z e r List.mem_cons_self
    have hi := (h1 r List.mem_cons_self).2
    obtain ⟨k, lo, e, p⟩ := climb_any g qs (k0 ++ [(r.nm, upI lo0 r.lo)]) (some (upI lo0 r.lo)) (fun q hq => h1 q (List.mem_cons_of_mem _ hq)) h2.2 fun z ez q hq => by
      cases ez
      exact Int.le_trans le (h2.1 _ (List.mem_map.mpr ⟨q, hq, rfl⟩))
    refine ⟨(r.nm, upI lo0 r.lo) :: k, lo, ?_, .cons ⟨rfl, le⟩ p⟩
    rw [List.foldl_cons, show cstep (some (k0, lo0)) r = some (k0 ++ [(r.nm, upI lo0 r.lo)], some (upI lo0 r.lo)) from if_neg (by omega), e, List.append_assoc]
    rfl
theorem climb_val : ∀ (qs : List Rw) (k0 : List (Str × Int)) (lo0 : Option Int) (kn : List (Str × Int)) (lo : Option Int), qs.foldl cstep (some (k0, lo0)) = some (kn, lo) →
    ∃ k, kn = k0 ++ k ∧ Paired Fit k qs ∧ (k.map (·.2)).Pairwise (· ≤ ·) ∧ ∀ z, lo0 = some z → ∀ p ∈ k, z ≤ p.2
  | [], k0, lo0, kn, lo, h => by
    cases h
    exact ⟨[], by rw [List.append_nil], .nil, .nil, fun _ _ _ hp => by cases hp⟩
  | r :: qs, k0, lo0, kn, lo, h => by
    rw [List.foldl_cons] at h
    have ge := upI_ge lo0 r.lo
    by_cases c : r.hi < upI lo0 r.lo
    · have e : cstep (some (k0, lo0)) r = none := if_pos c
      rw [e, cstep_none] at h
      cases h
    · have e : cstep (some (k0, lo0)) r = some (k0 ++ [(r.nm, upI lo0 r.lo)], some (upI lo0 r.lo)) := if_neg c
      rw [e] at h
      obtain ⟨k, rfl, p, w, b⟩ := climb_val qs _ _ _ _ h
      refine ⟨(r.nm, upI lo0 r.lo) :: k, by rw [List.append_assoc]; rfl, .cons ⟨rfl, ge.1, by show upI lo0 r.lo ≤ r.hi; omega⟩ p, ?_, ?_⟩
      · rw [List.map_cons, List.pairwise_cons]
        refine ⟨fun x hx => ?_, w⟩
        obtain ⟨q, hq, rfl⟩ := List.mem_map.mp hx
        exact b _ rfl q hq
      · intro z ez q hq
        rcases List.mem_cons.mp hq with rfl | hq
        · exact ge.2 z ez
        · exact Int.le_trans (ge.2 z ez) (b _ rfl q hq)
theorem fit_look : ∀ {k : List (Str × Int)} {rs : List Rw}, Paired Fit k rs → (rs.map (·.nm)).Nodup → ∀ r ∈ rs, ∃ v, k.lookup r.nm = some v ∧ r.lo ≤ v ∧ v ≤ r.hi
  | _, _, .nil, _, r, h => by cases h
  | p :: k, q :: rs, .cons h t, nd, r, hr => by
    rw [List.map_cons, List.nodup_cons] at nd
    rw [List.lookup_cons]
    rcases List.mem_cons.mp hr with rfl | hr
    · rw [h.1, beq_self_eq_true]
      exact ⟨p.2, rfl, h.2⟩
    · have ne : r.nm ≠ p.1 := fun e => nd.1 (List.mem_map.mpr ⟨r, hr, e.trans h.1⟩)
      rw [beq_false_of_ne ne]
      exact fit_look t nd.2 r hr
theorem hitB_self : ∀ (k kn : List (Str × Int)), (∀ p ∈ k, kn.lookup p.1 = some p.2) → hitB kn k = true
  | [], _, _ => rfl
  | p :: k, kn, h => by
    unfold hitB
    rw [h p List.mem_cons_self]
    dsimp only
    rw [beq_self_eq_true, hitB_self k kn fun q hq => h q (List.mem_cons_of_mem _ hq)]
    rfl
theorem look_self : ∀ {k : List (Str × Int)}, (k.map (·.1)).Nodup → ∀ p ∈ k, k.lookup p.1 = some p.2
  | q :: k, nd, p, h => by
    rw [List.map_cons, List.nodup_cons] at nd
    rw [List.lookup_cons]
    rcases List.mem_cons.mp h with rfl | h
    · rw [beq_self_eq_true]
    · have ne : p.1 ≠ q.1 := fun e => nd.1 (List.mem_map.mpr ⟨p, h, e⟩)
      rw [beq_false_of_ne ne]
      exact look_self nd.2 p h
theorem sameK_self {k : List (Str × Int)} (nd : (k.map (·.1)).Nodup) : sameK k k = true := by
  unfold sameK
  rw [beq_self_eq_true, hitB_self k k (look_self nd)]
  rfl
theorem paired_lookup {F : (Str × Int) → Rw → Prop} (hF : ∀ p r, F p r → p.1 = r.nm) : ∀ {k : List (Str × Int)} {qs : List Rw}, Paired F k qs → (qs.map (·.nm)).Nodup → ∀ r ∈ qs, ∃ p ∈ k, k.lookup r.nm = some p.2 ∧ F p r
  | _, _, .nil, _, r, h => by cases h
  | p :: k, q :: qs, .cons h t, nd, r, hr => by
    rw [List.map_cons, List.nodup_cons] at nd
    rw [List.lookup_cons]
    rcases List.mem_cons.mp hr with rfl | hr
    · rw [hF _ _ h, beq_self_eq_true]
      exact ⟨p, List.mem_cons_self, rfl, h⟩
    · have ne : r.nm ≠ p.1 := fun e => nd.1 (List.mem_map.mpr ⟨r, hr, e.trans (hF _ _ h)⟩)
      rw [beq_false_of_ne ne]
      obtain ⟨p2, m2, z⟩ := paired_lookup hF t nd.2 r hr
      exact ⟨p2, List.mem_cons_of_mem _ m2, z⟩
theorem vals_along : ∀ {k : List (Str × Int)} {qs : List Rw}, Paired Fit k qs → (qs.map (·.nm)).Nodup → (qs.map fun r => (k.lookup r.nm).getD 0) = k.map (·.2)
  | _, _, .nil, _ => rfl
  | p :: k, q :: qs, .cons h t, nd => by
    rw [List.map_cons, List.nodup_cons] at nd
    rw [List.map_cons, List.map_cons, List.lookup_cons, h.1, beq_self_eq_true, ← vals_along t nd.2]
    congr 1
    refine List.map_congr_left fun r hr => ?_
    have ne : r.nm ≠ p.1 := fun e => nd.1 (List.mem_map.mpr ⟨r, hr, e.trans h.1⟩)
    rw [List.lookup_cons, beq_false_of_ne ne]
theorem wsOf_rows (k : List (Str × Int)) (qs : List Rw) : wsOf k (qs.map (·.nm)) = qs.map fun r => (k.lookup r.nm).getD 0 := by
  unfold wsOf
  rw [List.map_map]
  rfl
/-- no way up: no values climb -/
theorem none_climbs {rs qs : List Rw} (nd : (rs.map (·.nm)).Nodup) (pm : qs.Perm rs) (h : climb qs = none) : ∀ k ∈ allV rs, ¬ (wsOf k (qs.map (·.nm))).Pairwise (· ≤ ·) := by
  intro k hk w
  have fit := (allV_iff _ rs rfl k).mp hk
  rw [wsOf_rows] at w
  obtain ⟨k2, lo, e, _⟩ := climb_any (fun n => (k.lookup n).getD 0) qs [] none (fun r hr => by
    obtain ⟨v, e, b⟩ := fit_look fit nd r (pm.mem_iff.mp hr)
    rw [e]
    exact b) w fun _ z => by cases z
  unfold climb at h
  rw [h] at e
  cases e
/-- a way up: its values climb, and are the least that do -/
theorem some_climbs {rs qs : List Rw} {kn : List (Str × Int)} {lo : Option Int} (nd : (rs.map (·.nm)).Nodup) (pm : qs.Perm rs) (h : climb qs = some (kn, lo)) :
    inNames kn rs ∈ allV rs ∧ (∀ r ∈ rs, (inNames kn rs).lookup r.nm = some ((kn.lookup r.nm).getD 0)) ∧ (wsOf (inNames kn rs) (qs.map (·.nm))).Pairwise (· ≤ ·) ∧ ∀ k ∈ allV rs, (wsOf k (qs.map (·.nm))).Pairwise (· ≤ ·) → ∀ r ∈ rs, (kn.lookup r.nm).getD 0 ≤ (k.lookup r.nm).getD 0 := by
  have nq : (qs.map (·.nm)).Nodup := (pm.map _).nodup_iff.mpr nd
  obtain ⟨k, e, p, w, _⟩ := climb_val qs [] none kn lo h
  rw [List.nil_append] at e
  subst e
  have look : ∀ {ps : List Rw}, (∀ r ∈ ps, r ∈ rs) → (ps.map (·.nm)).Nodup → Paired Fit (inNames kn ps) ps := by
    intro ps
    induction ps with
    | nil => exact fun _ _ => .nil
    | cons r ps ih =>
      intro sub ndp
      rw [List.map_cons, List.nodup_cons] at ndp
      obtain ⟨v, e, b⟩ := fit_look p nq r (pm.mem_iff.mpr (sub r List.mem_cons_self))
      exact .cons ⟨rfl, by show r.lo ≤ (kn.lookup r.nm).getD 0 ∧ (kn.lookup r.nm).getD 0 ≤ r.hi; rw [e]; exact b⟩ (ih (fun q hq => sub q (List.mem_cons_of_mem _ hq)) ndp.2)
  have fit := look (fun r hr => hr) nd
  have lk : ∀ r ∈ rs, (inNames kn rs).lookup r.nm = some ((kn.lookup r.nm).getD 0) := fun r hr => by
    obtain ⟨q, hq, e, f⟩ := paired_lookup (fun _ _ f => f.1) fit nd r hr
    obtain ⟨r2, h2, rfl⟩ := List.mem_map.mp hq
    have f1 : r2.nm = r.nm := f.1
    rw [e]
    show some ((kn.lookup r2.nm).getD 0) = _
    rw [f1]
  refine ⟨(allV_iff _ rs rfl _).mpr fit, lk, ?_, fun k hk wk r hr => ?_⟩
  · rw [wsOf_rows, show (qs.map fun r => ((inNames kn rs).lookup r.nm).getD 0) = qs.map fun r => (kn.lookup r.nm).getD 0 from List.map_congr_left fun r hr => by rw [lk r (pm.mem_iff.mp hr)]; rfl, vals_along p nq]
    exact w
  · rw [wsOf_rows] at wk
    obtain ⟨k2, lo2, e2, p2⟩ := climb_any (fun n => (k.lookup n).getD 0) qs [] none (fun r hr => by
      obtain ⟨v, e, b⟩ := fit_look ((allV_iff _ rs rfl k).mp hk) nd r (pm.mem_iff.mp hr)
      rw [e]
      exact b) wk fun _ z => by cases z
    unfold climb at h
    rw [h, List.nil_append] at e2
    cases e2
    obtain ⟨q, _, e, _, f2⟩ := paired_lookup (fun _ _ f => f.1) p2 nq r (pm.mem_iff.mpr hr)
    rw [e]
    exact f2
end Ask

set_option Elab.async false
set_option linter.all false
set_option maxRecDepth 100000
set_option maxHeartbeats 4000000
set_option pp.deepTerms false
set_option pp.deepTerms.threshold 14
namespace Ask
open PySem L2
open PyProof.Rows
def findB (r : Rw) (l : List Rw) : Option Rw := l.find? fun e => decide (r.hi < e.lo)
theorem findB_step {r e : Rw} {l : List Rw} {j : Nat} (h : findB r (l.take j) = none) (he : l[j]? = some e) : (r.hi < e.lo → findB r l = some e) ∧ (¬ r.hi < e.lo → findB r (l.take (j + 1)) = none) := by
  unfold findB at h ⊢
  refine ⟨fun c => ?_, fun c => ?_⟩
  · obtain ⟨jl, ej⟩ := List.getElem?_eq_some_iff.mp he
    rw [← List.take_append_drop j l, List.find?_append, h, List.drop_eq_getElem_cons jl, ej, List.find?_cons_of_pos (by rw [decide_eq_true_eq]; exact c)]
    rfl
  · rw [take_snoc he, List.find?_append, h, List.find?_cons_of_neg (by rw [decide_eq_true_eq]; exact c)]
    rfl
theorem findB_none {r : Rw} {l : List Rw} : findB r l = none ↔ ∀ e ∈ l, ¬ r.hi < e.lo := by
  unfold findB
  rw [List.find?_eq_none]
  exact ⟨fun h e he => (by have z := h e he; rwa [decide_eq_true_eq] at z), fun h e he => by rw [decide_eq_true_eq]; exact h e he⟩
/-- the first pair that an order has the wrong way round, among its first n -/
def obst (qs : List Rw) : Nat → Option (Rw × Rw)
  | 0 => none
  | n + 1 => match obst qs n with
    | some z => some z
    | none => match qs[n]? with
      | none => none
      | some r => (findB r (qs.take n)).map fun e => (e, r)
theorem obst_step {qs : List Rw} {n : Nat} {r : Rw} (h : obst qs n = none) (er : qs[n]? = some r) : obst qs (n + 1) = (findB r (qs.take n)).map fun e => (e, r) := by
  show (match obst qs n with | some z => some z | none => _) = _
  rw [h]
  dsimp only
  rw [er]
theorem obst_cut {qs : List Rw} {n : Nat} {z : Rw × Rw} (h : obst qs n = some z) : ∀ k, obst qs (n + k) = some z
  | 0 => h
  | k + 1 => by
    show (match obst qs (n + k) with | some z => some z | none => _) = _
    rw [obst_cut h k]
theorem obst_to {qs : List Rw} {n m : Nat} {z : Rw × Rw} (h : obst qs n = some z) (l : n ≤ m) : obst qs m = some z := by
  have e : m = n + (m - n) := by omega
  rw [e]
  exact obst_cut h _
theorem climb_obst {qs : List Rw} (hv : ∀ r ∈ qs, r.lo ≤ r.hi) : ∀ n, n ≤ qs.length →
    (obst qs n = none → ∃ kn lo, climb (qs.take n) = some (kn, lo) ∧ (∀ z, lo = some z → ∃ e ∈ qs.take n, e.lo = z) ∧ ∀ e ∈ qs.take n, ∃ z, lo = some z ∧ e.lo ≤ z) ∧ (∀ p, obst qs n = some p → climb (qs.take n) = none)
  | 0, _ => ⟨fun _ => ⟨[], none, rfl, fun _ z => (by cases z), fun _ z => (by rw [List.take_zero] at z; cases z)⟩, fun _ z => by cases z⟩
  | n + 1, hn => by
    have er : qs[n]? = some qs[n] := List.getElem?_eq_getElem (by omega)
    have rm : qs[n] ∈ qs := List.getElem_mem _
    generalize qs[n] = r at er rm
    obtain ⟨i1, i2⟩ := climb_obst hv n (by omega)
    have sn := climb_snoc er
    cases ho : obst qs n with
    | some z =>
      have e := obst_cut ho 1
      have c := i2 _ ho
      rw [c] at sn
      exact ⟨fun h => (by rw [e] at h; cases h), fun p _ => sn⟩
    | none =>
      obtain ⟨kn, lo, ec, lo1, lo2⟩ := i1 ho
      rw [obst_step ho er]
      rw [ec] at sn
      unfold cstep at sn
      dsimp only at sn
      have key : r.hi < upI lo r.lo ↔ ∃ e ∈ qs.take n, r.hi < e.lo := by
        have hl := hv r rm
        cases lo with
        | none =>
          refine ⟨fun h => absurd h (by unfold upI; dsimp only; omega), fun ⟨e, he, _⟩ => ?_⟩
          obtain ⟨z, e', _⟩ := lo2 e he
          cases e'
        | some z =>
          unfold upI
          dsimp only
          obtain ⟨e, he, ez⟩ := lo1 z rfl
          refine ⟨fun h => ⟨e, he, ?_⟩, fun ⟨e, he, h⟩ => ?_⟩
          · split at h
            · omega
            · omega
          · obtain ⟨z', e', h'⟩ := lo2 e he
            cases e'
            split
            · omega
            · omega
      cases hf : findB r (qs.take n) with
      | some e =>
        have me : e ∈ qs.take n ∧ r.hi < e.lo := by
          unfold findB at hf
          have z1 := List.find?_some hf
          rw [decide_eq_true_eq] at z1
          exact ⟨List.mem_of_find?_eq_some hf, z1⟩
        rw [if_pos (key.mpr ⟨e, me⟩)] at sn
        exact ⟨fun h => (by cases h), fun p _ => sn⟩
      | none =>
        have nf := findB_none.mp hf
        rw [if_neg (fun h => (by obtain ⟨e, he, h'⟩ := key.mp h; exact nf e he h'))] at sn
        refine ⟨fun _ => ⟨_, _, sn, fun z hz => ?_, fun e he => ⟨_, rfl, ?_⟩⟩, fun p h => by cases h⟩
        · obtain rfl := Option.some.inj hz
          rw [take_snoc er]
          cases lo with
          | none => exact ⟨r, List.mem_append_right _ List.mem_cons_self, rfl⟩
          | some l =>
            unfold upI
            dsimp only
            obtain ⟨e, he, ez⟩ := lo1 l rfl
            split
            · exact ⟨r, List.mem_append_right _ List.mem_cons_self, rfl⟩
            · exact ⟨e, List.mem_append_left _ he, ez⟩
        · rw [take_snoc er] at he
          cases lo with
          | none =>
            rcases List.mem_append.mp he with he | he
            · obtain ⟨z, e', _⟩ := lo2 e he
              cases e'
            · rw [List.mem_singleton.mp he]
              exact Int.le_refl _
          | some l =>
            unfold upI
            dsimp only
            rcases List.mem_append.mp he with he | he
            · obtain ⟨z, e', h'⟩ := lo2 e he
              cases e'
              split
              · omega
              · omega
            · rw [List.mem_singleton.mp he]
              split
              · omega
              · omega
theorem climb_iff {qs : List Rw} (hv : ∀ r ∈ qs, r.lo ≤ r.hi) : climb qs = none ↔ obst qs qs.length ≠ none := by
  have z := climb_obst hv qs.length (Nat.le_refl _)
  rw [List.take_length] at z
  cases ho : obst qs qs.length with
  | none =>
    obtain ⟨kn, lo, e, _⟩ := z.1 ho
    rw [e]
    exact ⟨fun h => (by cases h), fun h => absurd rfl h⟩
  | some p => exact ⟨fun _ h => (by cases h), fun _ => z.2 p ho⟩
theorem obst_none {qs : List Rw} (h : qs.Pairwise fun x y => ¬ y.hi < x.lo) : ∀ n, n ≤ qs.length → obst qs n = none
  | 0, _ => rfl
  | n + 1, hn => by
    have er : qs[n]? = some qs[n] := List.getElem?_eq_getElem (by omega)
    rw [obst_step (obst_none h n (by omega)) er]
    have z : findB qs[n] (qs.take n) = none := findB_none.mpr fun e he => by
      obtain ⟨j, hj, ej⟩ := List.mem_iff_getElem.mp he
      rw [List.length_take] at hj
      rw [List.getElem_take] at ej
      rw [← ej]
      exact List.pairwise_iff_getElem.mp h j n (by omega) (by omega) (by omega)
    rw [z]
    rfl
theorem climb_some {qs : List Rw} (hv : ∀ r ∈ qs, r.lo ≤ r.hi) (h : qs.Pairwise fun x y => ¬ y.hi < x.lo) : climb qs ≠ none := fun e => (climb_iff hv).mp e (obst_none h _ (Nat.le_refl _))
end Ask

set_option Elab.async false
set_option linter.all false
set_option maxRecDepth 100000
set_option maxHeartbeats 8000000
set_option pp.deepTerms false
set_option pp.deepTerms.threshold 14
namespace Ask
open PySem L2
open PyProof.Rows
section
theorem perm_lift {α β : Type} (f : α → β) : ∀ {l : List β} {m : List α}, l.Perm (m.map f) → ∃ m' : List α, m'.map f = l ∧ m'.Perm m
  | [], m, h => by
    have z := h.length_eq
    rw [List.length_map, List.length_nil] at z
    exact ⟨[], rfl, by rw [List.length_eq_zero_iff.mp z.symm]⟩
  | x :: l, m, h => by
    obtain ⟨y, hy, e⟩ := List.mem_map.mp (h.subset List.mem_cons_self)
    obtain ⟨m1, m2, rfl⟩ := List.append_of_mem hy
    have h2 : (x :: l).Perm (x :: (m1 ++ m2).map f) := by
      refine h.trans ?_
      rw [List.map_append, List.map_cons, e, List.map_append]
      exact List.perm_middle
    obtain ⟨m', e', p⟩ := perm_lift f (List.Perm.cons_inv h2)
    exact ⟨y :: m', by rw [List.map_cons, e, e'], (p.cons y).trans List.perm_middle.symm⟩
/-- where x stands if r is to come before q -/
def lowQ (r q x : Rw) : Int := if x.nm = q.nm then (if r.lo > x.lo then r.lo else x.lo) else x.lo
def keyQ (r q x : Rw) : K4 := ⟨lowQ r q x, if x.nm = q.nm then 1 else 0, x.hi, x.nm⟩
theorem eqV_str (x y : Str) : eqV (.str x) (.str y) = decide (x = y) := by
  show (x == y) = _
  by_cases h : x = y
  · rw [decide_eq_true h, h]
    exact beq_self_eq_true y
  · rw [decide_eq_false h]
    exact beq_false_of_ne h
theorem flat_nms : ∀ xs : List Str, (xs.map V.str).all flatV = true
  | [] => rfl
  | _ :: xs => flat_nms xs
/-- where a row stands -/
theorem idx_of {K : PySem.W.Frag} {H : Hp} {M : Addr} {qs : List Rw} {j : Nat} {r : Rw} {Q : VK} (nd : (qs.map (·.nm)).Nodup) (eM : H M = some (.lst (nmV qs))) (er : qs[j]? = some r) (k : Q (.int (j : Nat)) H) : rIndex K (.ref M) [.str r.nm] H Q := by
  have e1 : (nmV qs)[j]? = some (.str r.nm) := by unfold nmV; rw [List.getElem?_map, List.getElem?_map, er]; rfl
  refine ⟨M, nmV qs, .str r.nm, j, .str r.nm, rfl, rfl, SqL.of eM, rfl, flat_nms _, e1, by rw [eqV_str, decide_eq_true rfl], fun m z' hm ez => ?_, k⟩
  unfold nmV at ez
  rw [List.getElem?_map, List.getElem?_map] at ez
  cases em : qs[m]? with
  | none => rw [em] at ez; cases ez
  | some y =>
    rw [em] at ez
    obtain rfl : V.str y.nm = z' := Option.some.inj ez
    rw [eqV_str]
    refine decide_eq_false fun c => ?_
    obtain ⟨hj, ej⟩ := List.getElem?_eq_some_iff.mp er
    obtain ⟨hm', ey⟩ := List.getElem?_eq_some_iff.mp em
    have z := (List.nodup_iff_pairwise_ne.mp nd)
    have z2 := List.pairwise_iff_getElem.mp z m j (by rw [List.length_map]; exact hm') (by rw [List.length_map]; exact hj) hm
    apply z2
    rw [List.getElem_map, List.getElem_map, ey, ej]
    exact c
/-- in that order r stands ahead of q, and the order climbs -/
theorem order_good {rs qs : List Rw} {r q : Rw} (pm : qs.Perm rs) (nd : (rs.map (·.nm)).Nodup) (hv : ∀ x ∈ rs, x.lo ≤ x.hi) (hr : r ∈ rs) (hq : q ∈ rs) (ne : r.nm ≠ q.nm) (nb : ¬ q.hi < r.lo)
    (srt : qs.Pairwise fun x y => LtQ (keyQ r q x) (keyQ r q y)) : (∃ i j : Nat, qs[i]? = some r ∧ qs[j]? = some q ∧ i < j) ∧ climb qs ≠ none := by
  have same : ∀ x ∈ rs, x.nm = q.nm → x = q := fun x hx e => by
    obtain ⟨i, hi, ei⟩ := List.mem_iff_getElem.mp hx
    obtain ⟨j, hj, ej⟩ := List.mem_iff_getElem.mp hq
    have z := List.pairwise_iff_getElem.mp (List.nodup_iff_pairwise_ne.mp nd)
    rcases Nat.lt_trichotomy i j with h | h | h
    · refine absurd ?_ (z i j (by rw [List.length_map]; exact hi) (by rw [List.length_map]; exact hj) h)
      rw [List.getElem_map, List.getElem_map, ei, ej, e]
    · subst h
      exact ei.symm.trans ej
    · refine absurd ?_ (z j i (by rw [List.length_map]; exact hj) (by rw [List.length_map]; exact hi) h)
      rw [List.getElem_map, List.getElem_map, ei, ej, e]
  have hvq := hv q hq
  have hvr := hv r hr
  have krq : LtQ (keyQ r q r) (keyQ r q q) := by
    unfold LtQ keyQ lowQ
    dsimp only
    rw [if_neg ne, if_pos rfl, if_neg ne, if_pos rfl]
    by_cases c : r.lo > q.lo
    · rw [if_pos c]
      exact .inr ⟨rfl, .inl (by decide)⟩
    · rw [if_neg c]
      by_cases d : r.lo = q.lo
      · exact .inr ⟨d, .inl (by decide)⟩
      · exact .inl (by omega)
  constructor
  · obtain ⟨i, hi, ei⟩ := List.mem_iff_getElem.mp (pm.mem_iff.mpr hr)
    obtain ⟨j, hj, ej⟩ := List.mem_iff_getElem.mp (pm.mem_iff.mpr hq)
    refine ⟨i, j, by rw [List.getElem?_eq_getElem hi, ei], by rw [List.getElem?_eq_getElem hj, ej], ?_⟩
    rcases Nat.lt_trichotomy i j with h | h | h
    · exact h
    · subst h
      exact absurd (congrArg Rw.nm (ei.symm.trans ej)) ne
    · have z := List.pairwise_iff_getElem.mp srt j i hj hi h
      rw [ei, ej] at z
      exact absurd (krq.trans z) (LtQ.irrefl _)
  · refine climb_some (fun x hx => hv x (pm.mem_iff.mp hx)) ?_
    refine List.Pairwise.imp_of_mem (fun {x y} hx hy h => ?_) srt
    have vx := hv x (pm.mem_iff.mp hx)
    have vy := hv y (pm.mem_iff.mp hy)
    have l1 : x.lo ≤ lowQ r q x := by
      unfold lowQ
      split
      · split <;> omega
      · omega
    have l2 : lowQ r q y ≤ y.hi := by
      unfold lowQ
      by_cases c : y.nm = q.nm
      · rw [if_pos c]
        have e := same y (pm.mem_iff.mp hy) c
        subst e
        split <;> omega
      · rw [if_neg c]
        exact vy
    have l3 : lowQ r q x ≤ lowQ r q y := by
      rcases h with h | ⟨h, _⟩
      · exact Int.le_of_lt h
      · exact Int.le_of_eq h
    omega
theorem good_exists {rs : List Rw} {r q : Rw} (nd : (rs.map (·.nm)).Nodup) (hv : ∀ x ∈ rs, x.lo ≤ x.hi) (hr : r ∈ rs) (hq : q ∈ rs) (ne : r.nm ≠ q.nm) (nb : ¬ q.hi < r.lo) : ∃ qs : List Rw, qs.Perm rs ∧ (∃ i j : Nat, qs[i]? = some r ∧ qs[j]? = some q ∧ i < j) ∧ climb qs ≠ none := by
  have pm : (rs.mergeSort fun x y => !ltQ (keyQ r q y) (keyQ r q x)).Perm rs := List.mergeSort_perm _ _
  refine ⟨_, pm, order_good pm nd hv hr hq ne nb ?_⟩
  have p := List.pairwise_mergeSort (le := fun x y : Rw => !ltQ (keyQ r q y) (keyQ r q x)) (fun x y z h1 h2 => by
    have e1 : ¬ LtQ (keyQ r q y) (keyQ r q x) := by simpa [ltQ] using h1
    have e2 : ¬ LtQ (keyQ r q z) (keyQ r q y) := by simpa [ltQ] using h2
    have : ¬ LtQ (keyQ r q z) (keyQ r q x) := fun g => by
      rcases LtQ.tri (keyQ r q x) (keyQ r q y) with t | t | t
      · exact e2 (g.trans t)
      · exact e2 (t ▸ g)
      · exact e1 t
    simpa [ltQ] using this) (fun x y => by
    rcases LtQ.tri (keyQ r q x) (keyQ r q y) with t | t | t
    · have : ¬ LtQ (keyQ r q y) (keyQ r q x) := fun g => LtQ.irrefl _ (t.trans g)
      simp [ltQ, this]
    · simp [ltQ, t, LtQ.irrefl]
    · have : ¬ LtQ (keyQ r q x) (keyQ r q y) := fun g => LtQ.irrefl _ (t.trans g)
      simp [ltQ, this]) rs
  have n2 : ((rs.mergeSort fun x y => !ltQ (keyQ r q y) (keyQ r q x)).map (·.nm)).Nodup := (pm.map _).nodup_iff.mpr nd
  have nd2 := List.pairwise_map.mp (List.nodup_iff_pairwise_ne.mp n2)
  refine List.Pairwise.imp ?_ (List.pairwise_and_iff.mpr ⟨p, nd2⟩)
  rintro x y ⟨h1, h2⟩
  have e1 : ¬ LtQ (keyQ r q y) (keyQ r q x) := by simpa [ltQ] using h1
  rcases LtQ.tri (keyQ r q x) (keyQ r q y) with t | t | t
  · exact t
  · exact absurd (congrArg K4.n t) h2
  · exact absurd t e1
theorem good_before {qs : List Rw} {r q : Rw} {i j : Nat} (h : climb qs ≠ none) (ei : qs[i]? = some r) (ej : qs[j]? = some q) (lt : i < j) : ¬ q.hi < r.lo := by
  cases e : climb qs with
  | none => exact absurd e h
  | some s =>
    obtain ⟨kn, lo⟩ := s
    obtain ⟨k, _, p, w, _⟩ := climb_val qs [] none kn lo e
    obtain ⟨x, ex, fx⟩ := paired_getR p ei
    obtain ⟨y, ey, fy⟩ := paired_getR p ej
    obtain ⟨hi, hx⟩ := List.getElem?_eq_some_iff.mp ex
    obtain ⟨hj, hy⟩ := List.getElem?_eq_some_iff.mp ey
    have z := List.pairwise_iff_getElem.mp w i j (by rw [List.length_map]; exact hi) (by rw [List.length_map]; exact hj) lt
    rw [List.getElem_map, List.getElem_map, hx, hy] at z
    have f1 := fx.2.1
    have f2 := fy.2.2
    omega
end
end Ask

set_option Elab.async false
set_option linter.all false
set_option maxRecDepth 100000
set_option maxHeartbeats 4000000
namespace Ask
open PySem L2
open PyProof.Rows
section
variable {P : Program} {w : World} {K : PySem.W.Frag} {mg : Str → Option Value} {base : Heap} {a : Ad}
def spBefore (C : Addr) : Sp := fun vs H Q _ => ∃ x nm lo hi pr y nm' lo' hi' pr', vs = [.ref x, .ref y] ∧ ItemAt C H x nm lo hi pr ∧ ItemAt C H y nm' lo' hi' pr' ∧ Q (.bl (decide (hi < lo'))) H
theorem ok_before (T : Txt K mg a) : FnOk P w K mg base CX0 3 a.f_Item_is_surely_before a.d_Item_is_surely_before ["self", "other"] (spBefore a.c_Item) := by
  have G_least : FnOk P w K mg base CX0 1 a.f_Item_least a.d_Item_least ["self"] (spLeast a.c_Item) := ok_least T
  refine T.F_Item_is_surely_before.ok sc_Item_is_surely_before (fun vs H Q E h => ?_) (fun cdv A outer s H vs Q E hr h => ?_)
  · obtain ⟨x, nm, lo, hi, pr, y, nm', lo', hi', pr', rfl, _⟩ := h
    rfl
  · obtain ⟨x, nm, lo, hi, pr, y, nm', lo', hi', pr', rfl, ⟨dx, hx⟩, ⟨dy, hy⟩, q⟩ := h
    refine ⟨_, (pss_one (ps_ret (pe_cmpR op_lt (pe_fld (pv 0) rfl) (pe_prop (pv 1) T.cl_Item T.m_Item_least G_least (hr.mono (by decide)) T.b_Item_least .nil pass0 rfl) (nomark _)))), _, rfl, x, _, dx, _, _, rfl, hx, T.cl_Item, T.n_Item__greatest, l_greatest, ?_⟩
    exact ⟨_, rfl, y, dy, _, rfl, hy, y, _, _, _, _, rfl, ⟨dy, hy⟩, _, _, rfl, rfl, q⟩
end
end Ask

set_option Elab.async false
set_option linter.all false
set_option maxRecDepth 100000
set_option maxHeartbeats 4000000
set_option pp.deepTerms false
set_option pp.deepTerms.threshold 14
namespace Ask
open PySem L2
open PyProof.Rows
section
variable {P : Program} {w : World} {K : PySem.W.Frag} {mg : Str → Option Value} {base : Heap} {a : Ad}
/-- may_precede, two names of the pool -/
def spMay (C CI : Addr) : Sp := fun vs H Q _ => ∃ (x : Addr) (rs : List Rw) (r q : Rw), vs = [.ref x, .str r.nm, .str q.nm] ∧ PoolAt C CI H x rs ∧ (rs.map (·.nm)).Nodup ∧ r ∈ rs ∧ q ∈ rs ∧ nameB r.nm = true ∧ nameB q.nm = true ∧
  ∀ H', Same H H' → Q (.bl (!decide (r.nm = q.nm) && !decide (q.hi < r.lo))) H'
theorem ok_may (T : Txt K mg a) : FnOk P w K mg base CX0 4 a.f_may_precede a.d_may_precede ["pool", "first", "second"] (spMay a.c_Pool a.c_Item) := by
  have G_pitem : FnOk P w K mg base CX0 2 a.f_Pool_item a.d_Pool_item ["self", "name"] (spPItem a.c_Pool a.c_Item) := ok_pitem T
  have G_before : FnOk P w K mg base CX0 3 a.f_Item_is_surely_before a.d_Item_is_surely_before ["self", "other"] (spBefore a.c_Item) := ok_before T
  refine T.F_may_precede.ok sc_may_precede (fun vs H Q E h => ?_) (fun cdv A outer s H vs Q E hr h => ?_)
  · obtain ⟨x, rs, r, q, rfl, _⟩ := h
    rfl
  · obtain ⟨x, rs, r, q, rfl, hp, hn, hr0, hq0, n1, n2, k⟩ := h
    have nd := sc_may_precede.nd
    refine ⟨_, (Evl.pss_cut (ps_par (i := 3) (j := 4) (by rfl) nd rfl rfl (by decide) rfl rfl (pa_cons (pe_meth (pv 0) T.cl_Pool T.m_Pool_item G_pitem (hr.mono (by decide)) T.b_Pool_item .nil pass0 (pa_cons (pv 1) pa_nil)) (pa_cons (pe_meth (pv 0) T.cl_Pool T.m_Pool_item G_pitem (hr.mono (by decide)) T.b_Pool_item .nil pass0 (pa_cons (pv 2) pa_nil)) pa_nil)) (by rfl))
  (pss_one (ps_ret (pe_and (pe_cmpR op_ne (pv 1) (pv 2) (nomark _)) (pe_one (pe_not (pe_meth (pv 4) T.cl_Item T.m_Item_is_surely_before G_before (hr.mono (by decide)) T.b_Item_is_surely_before .nil pass0 (pa_cons (pv 3) pa_nil)))))))), ?_⟩
    refine ⟨fun σ' H' => ∃ z1 z2, σ' = [some (.ref x), some (.str r.nm), some (.str q.nm), some (.ref z1), some (.ref z2)] ∧ Same H H' ∧ ItemIs a.c_Item H' z1 r ∧ ItemIs a.c_Item H' z2 q, ?_, ?_⟩
    · obtain ⟨dx, d, as, hx, _⟩ := id hp
      refine ⟨_, rfl, x, dx, _, rfl, hx, by with_unfolding_all rfl, _, rfl, x, rs, r, rfl, hp, hn, hr0, n1, fun z1 H1 S1 i1 => ?_⟩
      refine ⟨_, rfl, x, dx, _, rfl, S1 _ _ hx, by with_unfolding_all rfl, _, rfl, x, rs, q, rfl, hp.same S1, hn, hq0, n2, fun z2 H2 S2 i2 => ?_⟩
      obtain ⟨d1, h1⟩ := i1
      exact ⟨_, _, rfl, z1, z2, rfl, S1.trans S2, ⟨d1, S2 _ _ h1⟩, i2⟩
    rintro σ2 H2 ⟨z1, z2, rfl, S2, ⟨d1, h1⟩, ⟨d2, h2⟩⟩
    have k := k H2 S2
    refine ⟨_, rfl, _, rfl, rfl, _, rfl, ?_⟩
    by_cases c : r.nm = q.nm
    · rw [decide_eq_true c] at k
      rw [decide_eq_true (congrArg V.str c)]
      exact iteF k
    · rw [decide_eq_false c] at k
      rw [decide_eq_false (fun e => c (V.str.inj e))]
      refine iteT ⟨_, rfl, z2, d2, _, rfl, h2, by with_unfolding_all rfl, _, rfl, z2, q.nm, q.lo, q.hi, q.pr, z1, r.nm, r.lo, r.hi, r.pr, rfl, ⟨d2, h2⟩, ⟨d1, h1⟩, ?_⟩
      exact ⟨_, rfl, k⟩
end
end Ask

set_option Elab.async false
set_option linter.all false
set_option maxRecDepth 100000
set_option maxHeartbeats 16000000
set_option pp.deepTerms false
set_option pp.deepTerms.threshold 14
namespace Ask
open PySem L2
open PyProof.Rows
section
variable {P : Program} {w : World} {K : PySem.W.Frag} {mg : Str → Option Value} {base : Heap} {a : Ad}
theorem paired_memL {α β : Type} {F F2 : α → β → Prop} : ∀ {xs : List α} {ys : List β}, (∀ x y, F x y → x ∈ xs → F2 x y) → Paired F xs ys → Paired F2 xs ys
  | _, _, _, .nil => .nil
  | _, _, h, .cons a b => .cons (h _ _ a List.mem_cons_self) (paired_memL (fun x y z m => h x y z (List.mem_cons_of_mem _ m)) b)
open Classical in
noncomputable def befN (x y : Str) (o : List Str) : Bool := decide (∃ i j : Nat, o[i]? = some x ∧ o[j]? = some y ∧ i < j)
open Classical in
theorem befN_of {qs : List Rw} {r q : Rw} {i j : Nat} (nd : (qs.map (·.nm)).Nodup) (e1 : qs[i]? = some r) (e2 : qs[j]? = some q) : befN r.nm q.nm (qs.map (·.nm)) = decide ((i : Int) < (j : Int)) := by
  have one : ∀ {k m : Nat} {x : Rw}, qs[k]? = some x → (qs.map (·.nm))[m]? = some x.nm → m = k := fun {k m x} h1 h2 => by
    obtain ⟨hk, ek⟩ := List.getElem?_eq_some_iff.mp h1
    obtain ⟨hm, em⟩ := List.getElem?_eq_some_iff.mp h2
    have z := List.pairwise_iff_getElem.mp (List.nodup_iff_pairwise_ne.mp nd)
    have hk2 : k < (qs.map (·.nm)).length := by rw [List.length_map]; exact hk
    have e3 : (qs.map (·.nm))[k] = x.nm := by rw [List.getElem_map, ek]
    rcases Nat.lt_trichotomy m k with h | h | h
    · exact absurd (em.trans e3.symm) (z m k hm hk2 h)
    · exact h
    · exact absurd (e3.trans em.symm) (z k m hk2 hm h)
  unfold befN
  by_cases c : (i : Int) < j
  · rw [decide_eq_true c]
    exact decide_eq_true ⟨i, j, by rw [List.getElem?_map, e1]; rfl, by rw [List.getElem?_map, e2]; rfl, by omega⟩
  · rw [decide_eq_false c]
    refine decide_eq_false fun ⟨i', j', h1, h2, lt⟩ => ?_
    have a1 := one e1 h1
    have a2 := one e2 h2
    omega
open Classical in
theorem befN_iff {x y : Str} {o : List Str} : befN x y o = true ↔ ∃ i j : Nat, o[i]? = some x ∧ o[j]? = some y ∧ i < j := by
  unfold befN
  exact decide_eq_true_iff
theorem rows_eq {rs : List Rw} (nd : (rs.map (·.nm)).Nodup) : ∀ {a b : List Rw}, a.Perm rs → b.Perm rs → a.map (·.nm) = b.map (·.nm) → a = b := by
  intro a b pa pb e
  have la : ∀ x ∈ a, x ∈ rs := fun x h => pa.mem_iff.mp h
  have lb : ∀ x ∈ b, x ∈ rs := fun x h => pb.mem_iff.mp h
  clear pa pb
  induction a generalizing b with
  | nil => cases b with
    | nil => rfl
    | cons _ _ => cases e
  | cons x a ih => cases b with
    | nil => cases e
    | cons y b =>
      rw [List.map_cons, List.map_cons] at e
      injection e with e1 e2
      rw [name_inj nd (la x List.mem_cons_self) (lb y List.mem_cons_self) e1, ih e2 (fun z h => la z (List.mem_cons_of_mem _ h)) fun z h => lb z (List.mem_cons_of_mem _ h)]
theorem ok_law (T : Txt K mg a) : GOk P w K mg base CX0 9 a.f_law a.d_law ["script"] (spLawS K) := by
  have G_law_pen : FnOk P w K mg base CX0 1 a.f__law_pen a.d__law_pen ["script"] (spPen K) := ok_pen T
  have G_law_small : FnOk P w K mg base CX0 3 a.f__law_small a.d__law_small ["pen"] spSmallP := ok_smallp T
  have G_law_made : FnOk P w K mg base CX0 6 a.f__law_made a.d__law_made ["rows"] (spLMade a.c_Pool a.c_Item) := ok_lmade T
  have G_law_all_values : FnOk P w K mg base CX0 1 a.f__law_all_values a.d__law_all_values ["rows"] spAllV := ok_allv T
  have G_law_orders : FnOk P w K mg base CX0 1 a.f__law_orders a.d__law_orders ["some"] spOrds := ok_ords T
  have G_law_climbs : FnOk P w K mg base CX0 1 a.f__law_climbs a.d__law_climbs ["order", "known"] spClimbs := ok_climbs T
  have Gassignment : FnOk P w K mg base CX0 4 a.f_assignment a.d_assignment ["pool", "order"] (spAssign a.c_Pool a.c_Item) := ok_assign T
  have Gmay_precede : FnOk P w K mg base CX0 4 a.f_may_precede a.d_may_precede ["pool", "first", "second"] (spMay a.c_Pool a.c_Item) := ok_may T
  refine gok_fun T.F_law sc_law (fun vs H Q E h => ?_) (fun cdv A outer s H vs Q E hr hgd h => ?_)
  · obtain ⟨sc, ns, rfl, _⟩ := h
    rfl
  · obtain ⟨sc, ns, rfl, hS, hns, sys, k⟩ := h
    have nd := sc_law.nd
    refine ⟨_, (pss_cons (ps_set (i := 1) nd rfl (by first | exact Or.inl rfl | exact Or.inr rfl) (pe_call G_law_pen (hr.mono (by first | decide | omega)) rfl T.g__law_pen T.F__law_pen.kp T.b__law_pen .nil pass0 (pa_cons (pv 0) pa_nil)))
  (Evl.pss_cut (ps_for PassesOwn.never rfl (pi_range1 rfl T.b_range (pa_cons pe_int pa_nil)) (pg_name (i := 2) nd rfl (by first | exact Or.inl rfl | exact Or.inr rfl))
    (Evl.pss_cut (ps_set (i := 3) nd rfl (by first | exact Or.inl rfl | exact Or.inr rfl) (pe_call G_law_small (hr.mono (by first | decide | omega)) rfl T.g__law_small T.F__law_small.kp T.b__law_small .nil pass0 (pa_cons (pv 1) pa_nil)))
  (Evl.pss_cut (ps_par (i := 4) (j := 5) (by rfl) nd rfl rfl (by decide) rfl rfl (pa_cons (pe_call G_law_made (hr.mono (by first | decide | omega)) rfl T.g__law_made T.F__law_made.kp T.b__law_made .nil pass0 (pa_cons (pv 3) pa_nil)) (pa_cons (pe_call G_law_all_values (hr.mono (by first | decide | omega)) rfl T.g__law_all_values T.F__law_all_values.kp T.b__law_all_values .nil pass0 (pa_cons (pv 3) pa_nil)) pa_nil)) (by rfl))
  (Evl.pss_cut (ps_set (i := 6) nd rfl (by first | exact Or.inl rfl | exact Or.inr rfl) (pe_lst pa_nil))
  (Evl.pss_cut (ps_for PassesOwn.never rfl (pi_list (pe_call G_law_orders (hr.mono (by first | decide | omega)) rfl T.g__law_orders T.F__law_orders.kp T.b__law_orders .nil pass0 (pa_cons (pe_lc (own := [("row", 8)]) (g := gName 8) (tt := tYes) rfl nd (pi_list (pv 3)) (blkOk_by (N := ["script", "pen", "turn", "rows", "made", "every", "good", "order", "row", "fitting", "known", "found", "one", "two", "due"]) (sc := defScope s_law) (by decide +kernel)) (fun _ _ _ _ _ => (pg_name (i := 8) nd rfl (by first | exact Or.inl rfl | exact Or.inr rfl))) (fun _ _ _ _ _ => pts_nil) (fun _ _ _ _ _ => (pe_ix (ix_tupK (K := K) rfl) (pv 8) pe_int (fun _ _ => rfl)))) pa_nil))) (pg_name (i := 7) nd rfl (by first | exact Or.inl rfl | exact Or.inr rfl))
    (Evl.pss_cut (ps_setLc (i := 9) (own := [("known", 10)]) (g := gName 10) rfl nd rfl rfl (sw_true rfl rfl rfl (by decide +kernel)) (pi_list (pv 5)) (blkOk_by (N := ["script", "pen", "turn", "rows", "made", "every", "good", "order", "row", "fitting", "known", "found", "one", "two", "due"]) (sc := defScope s_law) (by decide +kernel)) (fun _ _ _ _ _ => (pg_name (i := 10) nd rfl (by first | exact Or.inl rfl | exact Or.inr rfl))) (fun _ _ _ _ _ => (pts_one (pt_val (pe_call G_law_climbs (hr.mono (by first | decide | omega)) rfl T.g__law_climbs T.F__law_climbs.kp T.b__law_climbs .nil pass0 (pa_cons (pv 7) (pa_cons (pv 10) pa_nil)))))) (fun _ _ _ _ _ => (pv 10)))
  (Evl.pss_cut (ps_set (i := 11) nd rfl (by first | exact Or.inl rfl | exact Or.inr rfl) (pe_call Gassignment (hr.mono (by first | decide | omega)) rfl T.g_assignment T.F_assignment.kp T.b_assignment .nil pass0 (pa_cons (pv 4) (pa_cons (pv 7) pa_nil))))
  (Evl.pss_cut (ps_if (pt_cmpR op_ne (pe_cmpR op_isN (pv 11) pe_non (nomark _)) (pe_cmpR (op_eqNil hr.units) (pv 9) (pe_lst pa_nil) (nomark _)) (nomark _))
    (pss_one (ps_ret pe_bl))
    pss_nil)
  (pss_one (ps_if (pt_cmpR op_notN (pv 11) pe_non (nomark _))
    (pss_cons (ps_expr (pe_bm PySem.F.plainAttrs_list PySem.F.slot_list_append PySem.F.type_list_append mt_append (pv 6) (pa_cons (pv 7) pa_nil)))
  (pss_cons (ps_if (pt_cmpR (op_notInK hr.units) (pv 11) (pv 9) (by with_unfolding_all rfl))
    (pss_one (ps_ret pe_bl))
    pss_nil)
  (pss_one (ps_if (pt_val (pe_callB (cr_any rfl) (by rfl) T.b_any (by decide +kernel) (pa_cons (pe_lc (own := [("known", 10)]) (g := gName 10) (tt := tYes) rfl nd (pi_list (pv 9)) (blkOk_by (N := ["script", "pen", "turn", "rows", "made", "every", "good", "order", "row", "fitting", "known", "found", "one", "two", "due"]) (sc := defScope s_law) (by decide +kernel)) (fun _ _ _ _ _ => (pg_name (i := 10) nd rfl (by first | exact Or.inl rfl | exact Or.inr rfl))) (fun _ _ _ _ _ => pts_nil) (fun _ _ _ _ _ => (pe_callB (cr_anyK (K := K) rfl rfl) (by rfl) T.b_any (by decide +kernel) (pa_cons (pe_lc (own := [("one", 12)]) (g := gName 12) (tt := tYes) rfl nd (pi_listK (K := K) rfl (pv 7)) (blkOk_by (N := ["script", "pen", "turn", "rows", "made", "every", "good", "order", "row", "fitting", "known", "found", "one", "two", "due"]) (by kernel_rfl)) (fun _ _ _ _ _ => (pg_name (i := 12) nd rfl (by first | exact Or.inl rfl | exact Or.inr rfl))) (fun _ _ _ _ _ => pts_nil) (fun _ _ _ _ _ => (pe_cmpR op_lt (pe_dget (hu_of hr) (pv 10) (pv 12) (fun _ _ => rfl)) (pe_dget (hu_of hr) (pv 11) (pv 12) (fun _ _ => rfl)) (nomark _)))) pa_nil)))) pa_nil)))
    (pss_one (ps_ret pe_bl))
    pss_nil))))
    pss_nil))))))
  (pss_one (ps_for PassesOwn.never rfl (pi_list (pe_lc (own := [("row", 8)]) (g := gName 8) (tt := tYes) rfl nd (pi_list (pv 3)) (blkOk_by (N := ["script", "pen", "turn", "rows", "made", "every", "good", "order", "row", "fitting", "known", "found", "one", "two", "due"]) (sc := defScope s_law) (by decide +kernel)) (fun _ _ _ _ _ => (pg_name (i := 8) nd rfl (by first | exact Or.inl rfl | exact Or.inr rfl))) (fun _ _ _ _ _ => pts_nil) (fun _ _ _ _ _ => (pe_ix (ix_tupK (K := K) rfl) (pv 8) pe_int (fun _ _ => rfl))))) (pg_name (i := 12) nd rfl (by first | exact Or.inl rfl | exact Or.inr rfl))
    (pss_one (ps_for PassesOwn.never rfl (pi_list (pe_lc (own := [("row", 8)]) (g := gName 8) (tt := tYes) rfl nd (pi_list (pv 3)) (blkOk_by (N := ["script", "pen", "turn", "rows", "made", "every", "good", "order", "row", "fitting", "known", "found", "one", "two", "due"]) (sc := defScope s_law) (by decide +kernel)) (fun _ _ _ _ _ => (pg_name (i := 8) nd rfl (by first | exact Or.inl rfl | exact Or.inr rfl))) (fun _ _ _ _ _ => pts_nil) (fun _ _ _ _ _ => (pe_ix (ix_tupK (K := K) rfl) (pv 8) pe_int (fun _ _ => rfl))))) (pg_name (i := 13) nd rfl (by first | exact Or.inl rfl | exact Or.inr rfl))
    (Evl.pss_cut (ps_set (i := 14) nd rfl (by first | exact Or.inl rfl | exact Or.inr rfl) (pe_and (pe_cmpR op_ne (pv 12) (pv 13) (nomark _)) (pe_one (pe_callB (cr_any rfl) (by rfl) T.b_any (by decide +kernel) (pa_cons (pe_lc (own := [("order", 7)]) (g := gName 7) (tt := tYes) rfl nd (pi_list (pv 6)) (blkOk_by (N := ["script", "pen", "turn", "rows", "made", "every", "good", "order", "row", "fitting", "known", "found", "one", "two", "due"]) (sc := defScope s_law) (by decide +kernel)) (fun _ _ _ _ _ => (pg_name (i := 7) nd rfl (by first | exact Or.inl rfl | exact Or.inr rfl))) (fun _ _ _ _ _ => pts_nil) (fun _ _ _ _ _ => (pe_cmpR op_lt (pe_bmK (K := K) rfl (pe_bm PySem.F.plainAttrs_list PySem.F.slot_list_index PySem.F.type_list_index (mt_indexK (K := K) rfl) (pv 7) (pa_cons (pv 12) pa_nil))) (pe_bmK (K := K) rfl (pe_bm PySem.F.plainAttrs_list PySem.F.slot_list_index PySem.F.type_list_index (mt_indexK (K := K) rfl) (pv 7) (pa_cons (pv 13) pa_nil))) (nomark _)))) pa_nil)))))
  (pss_one (ps_if (pt_cmpR op_ne (pe_call Gmay_precede (hr.mono (by first | decide | omega)) rfl T.g_may_precede T.F_may_precede.kp T.b_may_precede .nil pass0 (pa_cons (pv 4) (pa_cons (pv 12) (pa_cons (pv 13) pa_nil)))) (pv 14) (nomark _))
    (pss_one (ps_ret pe_bl))
    pss_nil))))))))))))
  (pss_one (ps_ret pe_bl)))), ?_⟩
    refine ⟨_, rfl, sc, ns, rfl, hS, hns, fun p H1 hp0 b1 hpp1 => ?_⟩
    obtain ⟨l, hp1⟩ := PenL.of hpp1
    refine ⟨fun σ' H' => ∃ v2 v3 v4 v5 v6 v7 v9 v11 v12 v13 v14, σ' = [some (.ref sc), some (.ref p), v2, v3, v4, v5, v6, v7, none, v9, none, v11, v12, v13, v14], ?_, fun σ' H' ⟨v2, v3, v4, v5, v6, v7, v9, v11, v12, v13, v14, e⟩ => by subst e; exact k H'⟩
    refine ⟨4, rfl, by decide, by decide, for_range (lo := 0) (n := 4) (fun i σ' H' => ∃ v2 v3 v4 v5 v6 v7 v9 v11 v12 v13 v14, σ' = [some (.ref sc), some (.ref p), v2, v3, v4, v5, v6, v7, none, v9, none, v11, v12, v13, v14] ∧ PenL l H' p (i * 100)) ⟨none, none, none, none, none, none, none, none, none, none, none, rfl, hp1⟩ ?_ ?_⟩
    · rintro i σ H2 hi ⟨v2, v3, v4, v5, v6, v7, v9, v11, v12, v13, v14, rfl, hp2⟩
      -- rows
      refine ⟨fun σ' H' => ∃ L ts rs, σ' = [some (.ref sc), some (.ref p), some (.int (0 + (i : Int))), some (.ref L), v4, v5, v6, v7, none, v9, none, v11, v12, v13, v14] ∧ H' L = some (.lst (List.map V.ref ts)) ∧ Paired (RowAt H') ts rs ∧ Asc rs ∧ (∀ r ∈ rs, RowOk r) ∧ rs.length ≤ 4 ∧ (∀ r ∈ rs, r.hi ≤ r.lo + 3) ∧ (∀ r ∈ rs, r.lo ≤ r.hi ∧ -100 ≤ r.lo ∧ r.hi ≤ 100) ∧ PenL l H' p (i * 100 + 20), ?_, ?_⟩
      · refine ⟨_, rfl, l, p, _, rfl, hp2, by omega, fun L ts rs H3 hL b3 hp3 eL pr asc rok len sm => ?_⟩
        exact ⟨L, ts, rs, rfl, eL, paired_imp (fun _ _ z => z.1) pr, asc, rok, len, fun r hr => (sm r hr).1, fun r hr => ⟨(rok r hr).le, by have := sm r hr; omega, by have := sm r hr; omega⟩, hp3⟩
      rintro σ3 H3 ⟨L, ts, rs, rfl, eL3, pr3, asc, rok, len, sm, rng, hp3⟩
      have hn := asc.nodup
      have hv : ∀ x ∈ rs, x.lo ≤ x.hi := fun x hx => (rok x hx).le
      have RP : RowsP rs := ⟨asc, fun r hr => (rok r hr).nm, by omega⟩
      have tl := paired_len pr3
      -- made, every
      refine ⟨fun σ' H' => ∃ y E1 ks, σ' = [some (.ref sc), some (.ref p), some (.int (0 + (i : Int))), some (.ref L), some (.ref y), some (.ref E1), v6, v7, none, v9, none, v11, v12, v13, v14] ∧ Same H3 H' ∧ PoolAt a.c_Pool a.c_Item H' y rs ∧ H' E1 = some (.lst (List.map V.ref ks)) ∧ Paired (DK H') ks (allV rs), ?_, ?_⟩
      · refine ⟨_, rfl, L, ts, rs, rfl, eL3, pr3, hn, rok, by omega, fun y H4 ps hy S4 pool0 ap mp => ?_⟩
        obtain rfl : ps = rs := ap.unique asc mp
        refine ⟨_, rfl, L, ts, ps, rfl, S4 _ _ eL3, paired_imp (fun _ _ z => S4 _ _ z) pr3, hn, sm, rng, len, fun E1 ks H5 S5 eE pE => ?_⟩
        exact ⟨_, _, rfl, y, E1, ks, rfl, S4.trans S5, pool0.same S5, eE, pE⟩
      rintro σ4 H4 ⟨y, E1, ks, rfl, S34, pool4, eE4, pE4⟩
      have eL4 := S34 _ _ eL3
      have pr4 : Paired (RowAt H4) ts rs := paired_imp (fun _ _ z => S34 _ _ z) pr3
      have hp4 := hp3.same S34
      have vl := allV_len _ rs rfl len sm
      have v256 : (allV rs).length ≤ 256 := Nat.le_trans vl (Nat.le_trans (Nat.pow_le_pow_right (by decide) len) (by decide))
      -- good
      refine ⟨fun σ' H' => ∃ G, σ' = [some (.ref sc), some (.ref p), some (.int (0 + (i : Int))), some (.ref L), some (.ref y), some (.ref E1), some (.ref G), v7, none, v9, none, v11, v12, v13, v14] ∧ H4 G = none ∧ Same H4 H' ∧ H' G = some (.lst []), ?_, ?_⟩
      · exact ⟨Nat.zero_le _, fun G hG => ⟨G, rfl, hG, Same.new hG, upd_same⟩⟩
      rintro σ5 H5 ⟨G, rfl, hG, S45, eG5⟩
      have eL5 := S45 _ _ eL4
      have pr5 : Paired (RowAt H5) ts rs := paired_imp (fun _ _ z => S45 _ _ z) pr4
      -- the orders
      refine ⟨fun σ' H' => ∃ gs os v7 v9 v11 v12 v13 v14, σ' = [some (.ref sc), some (.ref p), some (.int (0 + (i : Int))), some (.ref L), some (.ref y), some (.ref E1), some (.ref G), v7, none, v9, none, v11, v12, v13, v14] ∧ But G H5 H' ∧ H' G = some (.lst (List.map V.ref gs)) ∧ Paired (LK H') gs os ∧ os.length ≤ 625 ∧ (∀ o, o ∈ os ↔ ∃ qs : List Rw, qs.Perm rs ∧ o = qs.map (·.nm) ∧ climb qs ≠ none), ?_, ?_⟩
      · refine ⟨_, rfl, L, rfl, ⟨_, SqL.of eL5⟩, fun D hD => ?_⟩
        refine lc_pure (walk_list (K := K) (a := L) (xs := ts.map V.ref)) rs (fun _ => true) (fun r v _ => v = .str r.nm) (by rw [List.length_map, tl]) hD (fun H' s => SqL.of (s _ _ eL5)) (fun i H x H' e => ⟨by rw [e.1]; exact Same.refl _, fun o h => by rw [e.1]; exact h⟩) (by rw [List.length_map, sizeLine_eq]; omega) (fun _ _ _ _ h _ _ => h) ?_ ?_
        · rintro Nx j x q H6 H6' ed s6 - ⟨rfl, ex⟩ - s6' fin skip
          rw [List.getElem?_map] at ex
          cases ea : ts[j]? with
          | none => rw [ea] at ex; cases ex
          | some u =>
          rw [ea] at ex
          obtain rfl : V.ref u = x := Option.some.inj ex
          obtain ⟨q2, eq2, au⟩ := LiI.paired_get pr5 ea
          rw [ed] at eq2
          obtain rfl := Option.some.inj eq2
          refine ⟨rfl, ?_⟩
          dsimp only [tYes]
          rw [if_pos rfl]
          exact ⟨_, rfl, u, _, _, _, rfl, rfl, SqT.of (K := K) (s6' _ _ au), rfl, fin rfl _ _ (Same.refl _) rfl⟩
        intro zs H6 s6 eD pz
        have ez : zs = (rs.map (·.nm)).map V.str := by
          rw [all_keep] at pz
          rw [paired_vals (H := H6) (fun r : Rw => V.str r.nm) pz, List.map_map]
          rfl
        subst ez
        refine ⟨D, rs.map (·.nm), rfl, eD, by rw [List.length_map]; exact len, fun X us H7 S67 eX pX frX => ?_⟩
        have S57 := s6.trans S67
        have ul := paired_len pX
        have om : ∀ o, o ∈ ordsS (rs.map (·.nm)) ↔ o.Perm (rs.map (·.nm)) := ordsS_perm _ _ rfl
        have ol := ordsS_len _ (rs.map (·.nm)) rfl (by rw [List.length_map]; exact len)
        have ol2 : (ordsS (rs.map (·.nm))).length ≤ 625 := Nat.le_trans ol (Nat.le_trans (Nat.pow_le_pow_right (by decide) (show _ ≤ 4 by rw [List.length_map]; exact len)) (by decide))
        have eG7 := S57 _ _ eG5
        have XG : X ≠ G := fun c => by
          rw [c, eG7] at eX
          have u0 : us = [] := by
            cases us with
            | nil => rfl
            | cons _ _ => cases eX
          have m0 := (om (rs.map (·.nm))).mpr (List.Perm.refl _)
          rw [u0] at ul
          rw [List.length_eq_zero_iff.mp ul.symm] at m0
          cases m0
        have uG : ∀ u ∈ us, u ≠ G := fun u hu c => by
          have z := s6 _ _ eG5
          rw [← c, frX u hu] at z
          cases z
        have b57 : But G H5 H7 := fun c o _ e => S57 _ _ e
        generalize ordsS (rs.map (·.nm)) = fs at pX om ol2 ul
        refine ⟨X, rfl, ⟨_, SqL.of eX⟩, for_list (xs := us.map V.ref) (fun j σ' H' => ∃ gs os v7 v9 v11 v12 v13 v14, σ' = [some (.ref sc), some (.ref p), some (.int (0 + (i : Int))), some (.ref L), some (.ref y), some (.ref E1), some (.ref G), v7, none, v9, none, v11, v12, v13, v14] ∧ But G H7 H' ∧ H' G = some (.lst (List.map V.ref gs)) ∧ Paired (LK H') gs os ∧ os.length ≤ j ∧ (∀ g ∈ gs, g ≠ G) ∧ (∀ o, o ∈ os ↔ o ∈ fs.take j ∧ ∃ qs : List Rw, qs.Perm rs ∧ o = qs.map (·.nm) ∧ climb qs ≠ none)) ⟨[], [], _, _, _, _, _, _, rfl, But.refl _ _, eG7, .nil, Nat.le_refl _, fun _ z => (nomatch z), fun o => ⟨fun z => (nomatch z), fun z => by have q := z.1; rw [List.take_zero] at q; cases q⟩⟩ ?_ ?_ ?_⟩
        · rintro j σ' H' _ ⟨_, _, _, _, _, _, _, _, rfl, b, _⟩
          exact SqL.of (b _ _ XG eX)
        · rintro j x σ' H8 ex ⟨gs, os, v7, v9, v11, v12, v13, v14, rfl, b8, eG8, pG8, ol8, gG, mem⟩
          rw [List.getElem?_map] at ex
          cases eu : us[j]? with
          | none => rw [eu] at ex; cases ex
          | some u =>
          rw [eu] at ex
          obtain rfl : V.ref u = x := Option.some.inj ex
          obtain ⟨o, eo, lk7⟩ := LiI.paired_get pX eu
          have ofs : o ∈ fs := List.mem_of_getElem? eo
          obtain ⟨qs, rfl, pm⟩ := perm_lift (fun r : Rw => r.nm) ((om o).mp ofs)
          have nq : (qs.map (·.nm)).Nodup := (pm.map _).nodup_iff.mpr hn
          have uGu := uG u (List.mem_of_getElem? eu)
          have lk8 : H8 u = some (.lst ((qs.map (·.nm)).map V.str)) := b8 _ _ uGu lk7
          have EG : E1 ≠ G := fun c => by have z := S45 _ _ eE4; rw [c] at eE4; rw [eE4] at hG; cases hG
          have eE8 := b8 _ _ EG (S57 _ _ (S45 _ _ eE4))
          have pE8 : Paired (DK H8) ks (allV rs) := paired_imp (fun t q z => b8 _ _ (fun c => by have z2 : H4 t = some (.dK (kents q)) := z; rw [c, hG] at z2; cases z2) (S57 _ _ (S45 _ _ z))) pE4
          have kl := paired_len pE8
          -- fitting
          refine ⟨fun σ' H' => ∃ F us2, σ' = [some (.ref sc), some (.ref p), some (.int (0 + (i : Int))), some (.ref L), some (.ref y), some (.ref E1), some (.ref G), some (.ref u), none, some (.ref F), none, v11, v12, v13, v14] ∧ Same H8 H' ∧ H8 F = none ∧ H' F = some (.lst (List.map V.ref us2)) ∧ Paired (DK H') us2 ((allV rs).filter fun k => decide ((wsOf k (qs.map (·.nm))).Pairwise (· ≤ ·))), ?_, ?_⟩
          · refine ⟨_, rfl, E1, rfl, ⟨_, SqL.of eE8⟩, fun D2 hD2 => ?_⟩
            refine lc_pure (walk_list (K := K) (a := E1) (xs := ks.map V.ref)) (allV rs) (fun k => decide ((wsOf k (qs.map (·.nm))).Pairwise (· ≤ ·))) (fun k v H' => ∃ t, v = V.ref t ∧ DK H' t k) (by rw [List.length_map, kl]) hD2 (fun H' s => SqL.of (s _ _ eE8)) (fun i H x H' e => ⟨by rw [e.1]; exact Same.refl _, fun o h => by rw [e.1]; exact h⟩) (by rw [List.length_map, kl, sizeLine_eq]; omega) ?_ ?_ ?_
            · rintro q v Ha Hb ⟨t, rfl, z⟩ ⟨acc, eD⟩ b
              exact ⟨t, rfl, b _ _ (fun c => by unfold DK at z; rw [c, eD] at z; cases z) z⟩
            · rintro Nx j2 x q H9 H9' ed s9 - ⟨rfl, ex2⟩ - s9' fin skip
              rw [List.getElem?_map] at ex2
              cases ea : ks[j2]? with
              | none => rw [ea] at ex2; cases ex2
              | some t =>
              rw [ea] at ex2
              obtain rfl : V.ref t = x := Option.some.inj ex2
              obtain ⟨q2, eq2, dk⟩ := LiI.paired_get pE8 ea
              rw [ed] at eq2
              obtain rfl := Option.some.inj eq2
              have nmk := allV_names _ rs rfl q (List.mem_of_getElem? ed)
              refine ⟨rfl, _, rfl, _, rfl, u, t, qs.map (·.nm), q, rfl, s9' _ _ lk8, s9' _ _ dk, by rw [nmk]; exact hn, fun x hx => by rw [nmk]; exact (pm.map _).mem_iff.mp hx, by rw [List.length_map, pm.length_eq]; omega, fun H10 S10 => ⟨_, rfl, ?_⟩⟩
              cases c : decide ((wsOf q (qs.map (·.nm))).Pairwise (· ≤ ·)) with
              | true => exact iteT ⟨_, rfl, fin c _ _ S10 ⟨t, rfl, S10 _ _ (s9' _ _ dk)⟩⟩
              | false => exact iteF (skip c _ S10)
            · intro zs H9 s9 eD2 pz
              obtain ⟨us2, rfl, pu⟩ := paired_refs (F := DK H9) (g := fun k : List (Str × Int) => k) pz
              rw [List.map_id'] at pu
              exact ⟨D2, us2, rfl, s9, hD2, eD2, pu⟩
          rintro σ9 H9 ⟨F, us2, rfl, S89, hF8, eF9, pF9⟩
          have PG : ∀ {t : Addr} {d : HO}, H4 t = some d → t ≠ G := fun h c => by rw [c, hG] at h; cases h
          have pool9 : PoolAt a.c_Pool a.c_Item H9 y rs := by
            obtain ⟨dy, d, as, h1, h2, h3⟩ := pool4
            have up : ∀ {c : Addr} {z : HO}, H4 c = some z → H9 c = some z := fun h => S89 _ _ (b8 _ _ (PG h) (S57 _ _ (S45 _ _ h)))
            exact ⟨dy, d, as, up h1, up h2, paired_imp (fun _ _ ⟨dz, z⟩ => ⟨dz, up z⟩) h3⟩
          have lk9 := S89 _ _ lk8
          have eG9 := S89 _ _ eG8
          -- found
          refine ⟨fun σ' H' => ∃ fv, σ' = [some (.ref sc), some (.ref p), some (.int (0 + (i : Int))), some (.ref L), some (.ref y), some (.ref E1), some (.ref G), some (.ref u), none, some (.ref F), none, some fv, v12, v13, v14] ∧ Same H9 H' ∧ ((climb qs = none ∧ fv = .non) ∨ ∃ kn lo d, climb qs = some (kn, lo) ∧ fv = .ref d ∧ H9 d = none ∧ H' d = some (.dK (kents (inNames kn rs)))), ?_, ?_⟩
          · refine ⟨_, rfl, _, rfl, y, u, true, rs, qs, rfl, pool9, RP, lk9, pm, fun hn0 H' S => ⟨_, rfl, S, .inl ⟨hn0, rfl⟩⟩, fun kn lo hs d H' hd S ed => ⟨_, rfl, S, .inr ⟨kn, lo, d, hs, rfl, hd, ed⟩⟩⟩
          rintro σa Ha ⟨fv, rfl, S9a, cases_⟩
          have eFa := S9a _ _ eF9
          have pFa : Paired (DK Ha) us2 ((allV rs).filter fun k => decide ((wsOf k (qs.map (·.nm))).Pairwise (· ≤ ·))) := paired_imp (fun _ _ z => S9a _ _ z) pF9
          have fl := paired_len pFa
          have empty : (List.map V.ref us2).isEmpty = true ↔ climb qs = none := by
            rw [List.isEmpty_iff, List.map_eq_nil_iff, ← List.length_eq_zero_iff, fl, List.length_eq_zero_iff, List.filter_eq_nil_iff]
            constructor
            · intro h
              rcases cases_ with ⟨c, _⟩ | ⟨kn, lo, d, c, _⟩
              · exact c
              · obtain ⟨m1, _, m3, _⟩ := some_climbs hn pm c
                exact absurd (decide_eq_true m3) (h _ m1)
            · intro c k hk w
              exact none_climbs hn pm c k hk (of_decide_eq_true w)
          refine ⟨fun σ' H' => σ' = [some (.ref sc), some (.ref p), some (.int (0 + (i : Int))), some (.ref L), some (.ref y), some (.ref E1), some (.ref G), some (.ref u), none, some (.ref F), none, some fv, v12, v13, v14] ∧ Same Ha H', ?_, ?_⟩
          · refine ⟨_, rfl, rfl, _, rfl, Nat.zero_le _, fun M hM => ⟨F, M, _, rfl, rfl, SqL.of (K := K) (Same.new hM _ _ eFa), SqL.of (K := K) upd_same, rfl, _, rfl, ?_⟩⟩
            rcases cases_ with ⟨c, rfl⟩ | ⟨kn, lo, d, c, rfl, _, _⟩
            · rw [decide_eq_true (rfl : V.non = V.non), empty.mpr c, decide_eq_true (rfl : V.bl true = V.bl true)]
              exact iteF ⟨rfl, Same.new hM⟩
            · have ne : (List.map V.ref us2).isEmpty = false := by
                cases q : (List.map V.ref us2).isEmpty with
                | false => rfl
                | true => rw [empty.mp q] at c; cases c
              rw [decide_eq_false (show ¬ V.ref d = V.non from fun z => by cases z), ne, decide_eq_true (rfl : V.bl false = V.bl false)]
              exact iteF ⟨rfl, Same.new hM⟩
          rintro σb Hb ⟨rfl, Sab⟩
          have S8b : Same H8 Hb := fun c o e => Sab _ _ (S9a _ _ (S89 _ _ e))
          have eGb := S8b _ _ eG8
          have only : ∀ q2 : List Rw, q2.Perm rs → qs.map (·.nm) = q2.map (·.nm) → q2 = qs := fun q2 p2 e => rows_eq hn p2 pm e.symm
          have tk := take_snoc eo
          refine ⟨_, rfl, rfl, _, rfl, ?_⟩
          rcases cases_ with ⟨c, rfl⟩ | ⟨kn, lo, d, c, rfl, hd, ed⟩
          · rw [decide_eq_true (rfl : V.non = V.non)]
            refine iteF ⟨gs, os, _, _, _, _, _, _, rfl, fun c o hc e => S8b _ _ (b8 _ _ hc e), eGb, paired_imp (fun _ _ z => S8b _ _ z) pG8, by omega, gG, fun o2 => ?_⟩
            rw [mem o2, tk, List.mem_append, List.mem_singleton]
            refine ⟨fun ⟨h1, h2⟩ => ⟨.inl h1, h2⟩, fun ⟨h1, q2, p2, e2, h2⟩ => ?_⟩
            rcases h1 with h1 | h1
            · exact ⟨h1, q2, p2, e2, h2⟩
            · have e3 := only q2 p2 (h1.symm.trans e2)
              subst e3
              exact absurd c h2
          · rw [decide_eq_false (show ¬ V.ref d = V.non from fun z => by cases z)]
            obtain ⟨m1, m2, m3, m4⟩ := some_climbs hn pm c
            have edb : Hb d = some (.dK (kents (inNames kn rs))) := Sab _ _ ed
            have eFb := Sab _ _ eFa
            have pFb : Paired (DK Hb) us2 ((allV rs).filter fun k => decide ((wsOf k (qs.map (·.nm))).Pairwise (· ≤ ·))) := paired_imp (fun _ _ z => Sab _ _ z) pFa
            have gl := paired_len pG8
            have sz : gs.length < sizeLine := by rw [gl, sizeLine_eq]; have := (List.getElem?_eq_some_iff.mp eo).1; omega
            have inm : (inNames kn rs).map (·.1) = rs.map (·.nm) := allV_names _ rs rfl _ m1
            have FG : F ≠ G := fun z => by rw [z, eG8] at hF8; cases hF8
            have dG : d ≠ G := fun z => by rw [z, eGb] at edb; cases edb
            have eGb2 : upd Hb G (.lst (gs.map V.ref ++ [V.ref u])) G = some (.lst ((gs ++ [u]).map V.ref)) := by rw [upd_same, List.map_append]; rfl
            refine iteT ⟨_, rfl, .inl ⟨rfl, _, SqL.of (K := K) eGb⟩, _, rfl, G, _, _, rfl, rfl, eGb, by rw [List.length_map]; exact sz, ?_⟩
            have edc : upd Hb G (.lst (gs.map V.ref ++ [V.ref u])) d = some (.dK (kents (inNames kn rs))) := by rw [upd_ne dG]; exact edb
            have eFc : upd Hb G (.lst (gs.map V.ref ++ [V.ref u])) F = some (.lst (List.map V.ref us2)) := by rw [upd_ne FG]; exact eFb
            have pFc : Paired (DK (upd Hb G (.lst (gs.map V.ref ++ [V.ref u])))) us2 ((allV rs).filter fun k => decide ((wsOf k (qs.map (·.nm))).Pairwise (· ≤ ·))) := paired_imp (fun t q z => by
              have z2 : Hb t = some (.dK (kents q)) := z
              show upd Hb G _ t = some (.dK (kents q))
              rw [upd_ne (fun c2 => by rw [c2, eGb] at z2; cases z2)]
              exact z2) pFb
            have fd : ∀ t ∈ us2, t ≠ d := fun t ht c2 => by
              obtain ⟨j3, ej⟩ := List.mem_iff_getElem?.mp ht
              obtain ⟨q, _, dk⟩ := LiI.paired_get pF9 ej
              rw [c2] at dk
              unfold DK at dk
              rw [hd] at dk
              cases dk
            have any1 : (((allV rs).filter fun k => decide ((wsOf k (qs.map (·.nm))).Pairwise (· ≤ ·))).any fun k => sameK k (inNames kn rs)) = true := List.any_eq_true.mpr ⟨_, List.mem_filter.mpr ⟨m1, decide_eq_true m3⟩, sameK_self (by rw [inm]; exact hn)⟩
            have lku : upd Hb G (.lst (gs.map V.ref ++ [V.ref u])) u = some (.lst ((qs.map (·.nm)).map V.str)) := by rw [upd_ne uGu]; exact S8b _ _ lk8
            generalize hHc : upd Hb G (.lst (gs.map V.ref ++ [V.ref u])) = Hc at eGb2 edc eFc pFc lku ⊢
            have nxt : ∀ H' : Hp, Same Hc H' → ∃ gs os u7 u9 u11 u12 u13 u14, [some (V.ref sc), some (V.ref p), some (V.int (0 + (i : Int))), some (V.ref L), some (V.ref y), some (V.ref E1), some (V.ref G), some (V.ref u), none, some (V.ref F), none, some (V.ref d), v12, v13, v14] = [some (.ref sc), some (.ref p), some (.int (0 + (i : Int))), some (.ref L), some (.ref y), some (.ref E1), some (.ref G), u7, none, u9, none, u11, u12, u13, u14] ∧ But G H7 H' ∧ H' G = some (.lst (List.map V.ref gs)) ∧ Paired (LK H') gs os ∧ os.length ≤ j + 1 ∧ (∀ g ∈ gs, g ≠ G) ∧ (∀ o, o ∈ os ↔ o ∈ fs.take (j + 1) ∧ ∃ qs : List Rw, qs.Perm rs ∧ o = qs.map (·.nm) ∧ climb qs ≠ none) := by
              intro H' Sc
              refine ⟨gs ++ [u], os ++ [qs.map (·.nm)], _, _, _, _, _, _, rfl, fun c o hc e => Sc _ _ (by rw [← hHc, upd_ne hc]; exact S8b _ _ (b8 _ _ hc e)), Sc _ _ eGb2, ?_, by rw [List.length_append]; show _ + 1 ≤ _; omega, fun g hg => ?_, fun o2 => ?_⟩
              · refine paired_ap (paired_memL (fun g q z hg => ?_) pG8) (.cons (Sc _ _ lku) .nil)
                refine Sc _ _ ?_
                rw [← hHc, upd_ne (gG g hg)]
                exact S8b _ _ z
              · rcases List.mem_append.mp hg with hg | hg
                · exact gG g hg
                · rw [List.mem_singleton.mp hg]
                  exact uGu
              · rw [List.mem_append, List.mem_singleton, mem o2, tk, List.mem_append, List.mem_singleton]
                constructor
                · rintro (⟨h1, h2⟩ | rfl)
                  · exact ⟨.inl h1, h2⟩
                  · exact ⟨.inr rfl, qs, pm, rfl, by rw [c]; exact fun z => by cases z⟩
                · rintro ⟨h1 | h1, h2⟩
                  · exact .inl ⟨h1, h2⟩
                  · exact .inr h1
            refine ⟨_, rfl, _, rfl, d, F, inNames kn rs, us2, _, rfl, rfl, edc, SqL.of (K := K) eFc, paired_memL (fun t q z ht => ⟨z, fd t ht⟩) pFc, _, rfl, ?_⟩
            rw [any1]
            refine iteF ?_
            have fcl := paired_len pFc
            have f256 : ((allV rs).filter fun k => decide ((wsOf k (qs.map (·.nm))).Pairwise (· ≤ ·))).length ≤ 256 := Nat.le_trans (List.length_filter_le _ _) v256
            have kin : ∀ k ∈ (allV rs).filter (fun k => decide ((wsOf k (qs.map (·.nm))).Pairwise (· ≤ ·))), k ∈ allV rs ∧ ∀ r ∈ rs, (kn.lookup r.nm).getD 0 ≤ (k.lookup r.nm).getD 0 := fun k hk => by
              obtain ⟨h1, h2⟩ := List.mem_filter.mp hk
              exact ⟨h1, m4 k h1 (of_decide_eq_true h2)⟩
            generalize (allV rs).filter (fun k => decide ((wsOf k (qs.map (·.nm))).Pairwise (· ≤ ·))) = ft at pFc fcl f256 kin
            refine ⟨_, rfl, F, rfl, ⟨_, SqL.of (K := K) eFc⟩, fun D3 hD3 => ?_⟩
            refine lc_pure (walk_list (K := K) (a := F) (xs := us2.map V.ref)) ft (fun _ => true) (fun _ v _ => v = .bl false) (by rw [List.length_map, fcl]) hD3 (fun H' s => SqL.of (s _ _ eFc)) (fun i H x H' e => ⟨by rw [e.1]; exact Same.refl _, fun o h => by rw [e.1]; exact h⟩) (by rw [List.length_map, fcl, sizeLine_eq]; omega) (fun _ _ _ _ h _ _ => h) ?_ ?_
            · rintro Nx j2 x q Hd Hd' ed2 sd - ⟨rfl, ex2⟩ - sd' fin skip
              rw [List.getElem?_map] at ex2
              cases ea : us2[j2]? with
              | none => rw [ea] at ex2; cases ex2
              | some t =>
              rw [ea] at ex2
              obtain rfl : V.ref t = x := Option.some.inj ex2
              obtain ⟨q2, eq2, dk⟩ := LiI.paired_get pFc ea
              rw [ed2] at eq2
              obtain rfl := Option.some.inj eq2
              obtain ⟨ka, kl2⟩ := kin q (List.mem_of_getElem? ed2)
              have fitq := (allV_iff _ rs rfl q).mp ka
              have nkq : (q.map (·.1)).Nodup := by rw [allV_names _ rs rfl q ka]; exact hn
              have dkd := sd' _ _ dk
              have lkd := sd' _ _ lku
              have edd := sd' _ _ edc
              refine ⟨rfl, ?_⟩
              dsimp only [tYes]
              rw [if_pos rfl]
              refine ⟨_, rfl, u, rfl, ⟨_, SqL.of (K := K) lkd⟩, fun D4 hD4 => ?_⟩
              have eh : ∀ r ∈ qs, decide ((q.lookup r.nm).getD 0 < (kn.lookup r.nm).getD 0) = false := fun r hr => decide_eq_false (by have := kl2 r (pm.mem_iff.mp hr); omega)
              refine lc_pure (walk_list (K := K) (a := u) (xs := (qs.map (·.nm)).map V.str)) qs (fun _ => true) (fun _ v _ => v = .bl false) (by rw [List.length_map, List.length_map]) hD4 (fun H' s => SqL.of (s _ _ lkd)) (fun i H x H' e => ⟨by rw [e.1]; exact Same.refl _, fun o h => by rw [e.1]; exact h⟩) (by rw [List.length_map, List.length_map, pm.length_eq, sizeLine_eq]; omega) (fun _ _ _ _ h _ _ => h) ?_ ?_
              · rintro Nx2 j3 x r He He' ed3 se - ⟨rfl, ex3⟩ - se' fin2 skip2
                rw [List.getElem?_map, List.getElem?_map, ed3] at ex3
                obtain rfl : V.str r.nm = x := Option.some.inj ex3
                have rm := pm.mem_iff.mp (List.mem_of_getElem? ed3)
                obtain ⟨v1, lv1, _⟩ := fit_look fitq hn r rm
                have g1 : DGet He' t (.str r.nm) (some (.int v1)) := by
                  have z := look_mem lv1
                  rw [← kents_get nkq z]
                  exact DGet.k (k := Sum.inr r.nm) (se' _ _ dkd)
                have g2 : DGet He' d (.str r.nm) (some (.int ((kn.lookup r.nm).getD 0))) := by
                  have z := look_mem (m2 r rm)
                  rw [← kents_get (by rw [inm]; exact hn) z]
                  exact DGet.k (k := Sum.inr r.nm) (se' _ _ edd)
                have e4 := eh r (List.mem_of_getElem? ed3)
                rw [lv1] at e4
                refine ⟨rfl, yesT ⟨_, rfl, _, rfl, t, _, rfl, g1, _, rfl, _, rfl, d, _, rfl, g2, _, _, rfl, rfl, fin2 rfl _ _ (Same.refl _) ?_⟩⟩
                show V.bl (decide (v1 < (kn.lookup r.nm).getD 0)) = .bl false
                rw [show decide (v1 < (kn.lookup r.nm).getD 0) = false from e4]
              · intro ws He se eD4 pw
                rw [all_keep] at pw
                have ey := paired_vals (fun _ : Rw => V.bl false) (H := He) pw
                have e3 : qs.map (fun _ => V.bl false) = (qs.map fun _ => false).map V.bl := by rw [List.map_map]; rfl
                rw [ey, e3] at eD4
                have eh2 : (qs.map fun _ => false).any id = false := by rw [List.any_map]; exact List.any_eq_false.mpr fun _ _ => Bool.false_ne_true
                exact ⟨D4, _, rfl, SqL.of eD4, fin rfl _ _ se (by rw [eh2])⟩
            · intro zs Hd sd eD3 pz
              rw [all_keep] at pz
              have ey := paired_vals (fun _ : List (Str × Int) => V.bl false) (H := Hd) pz
              have e3 : ft.map (fun _ => V.bl false) = (ft.map fun _ => false).map V.bl := by rw [List.map_map]; rfl
              rw [ey, e3] at eD3
              refine ⟨D3, _, rfl, SqL.of eD3, _, rfl, ?_⟩
              have eh : (ft.map fun _ => false).any id = false := by rw [List.any_map]; exact List.any_eq_false.mpr fun _ _ => Bool.false_ne_true
              rw [eh]
              exact iteF (nxt Hd sd)
        · rintro σ' H8 ⟨gs, os, v7, v9, v11, v12, v13, v14, rfl, b8, eG8, pG8, ol8, gG, mem⟩
          rw [List.length_map, ul] at ol8
          rw [List.length_map, ul, List.take_length] at mem
          refine ⟨gs, os, _, _, _, _, _, _, rfl, fun c o hc e => b8 _ _ hc (S57 _ _ e), eG8, pG8, by omega, fun o => ?_⟩
          rw [mem o]
          refine ⟨fun z => z.2, fun ⟨qs, h1, h2, h3⟩ => ⟨?_, qs, h1, h2, h3⟩⟩
          rw [om o, h2]
          exact h1.map _
      rintro σ6 H6 ⟨gs, os, v7, v9, v11, v12, v13, v14, rfl, b6, eG6, pG6, ol6, mem⟩
      have LG : L ≠ G := fun c => by rw [c, hG] at eL4; cases eL4
      have eL6 := b6 _ _ LG eL5
      have pr6 : Paired (RowAt H6) ts rs := paired_imp (fun t r z => b6 _ _ (fun c => by have z2 : H5 t = some (.tup [.str r.nm, .int r.lo, .int r.hi, .int r.pr]) := z; rw [c, eG5] at z2; cases z2) z) pr5
      have pool6 : PoolAt a.c_Pool a.c_Item H6 y rs := by
        obtain ⟨dy, d, as, h1, h2, h3⟩ := pool4
        have up : ∀ {c : Addr} {z : HO}, H4 c = some z → H6 c = some z := fun h => b6 _ _ (fun c2 => by rw [c2, hG] at h; cases h) (S45 _ _ h)
        exact ⟨dy, d, as, up h1, up h2, paired_imp (fun _ _ ⟨dz, z⟩ => ⟨dz, up z⟩) h3⟩
      have gl6 := paired_len pG6
      have hp6 : PenL l H6 p (i * 100 + 20) := by
        obtain ⟨gp, gl⟩ := hp4.ne hG
        obtain ⟨⟨l', i1, w1, ns1, h1, h2, h3⟩, i2, w2, e⟩ := hp4.same S45
        have e2 := e
        rw [h1] at e
        cases e
        exact ⟨⟨l, _, _, ns1, b6 _ _ gp.symm h1, b6 _ _ gl.symm h2, h3⟩, _, _, b6 _ _ gp.symm e2⟩
      refine ⟨_, rfl, L, rfl, ⟨_, SqL.of eL6⟩, fun D hD => ?_⟩
      refine lc_pure (walk_list (K := K) (a := L) (xs := ts.map V.ref)) rs (fun _ => true) (fun r v _ => v = .str r.nm) (by rw [List.length_map, tl]) hD (fun H' s => SqL.of (s _ _ eL6)) (fun i H x H' e => ⟨by rw [e.1]; exact Same.refl _, fun o h => by rw [e.1]; exact h⟩) (by rw [List.length_map, sizeLine_eq]; omega) (fun _ _ _ _ h _ _ => h) ?_ ?_
      · rintro Nx j x q0 He He' ed se - ⟨rfl, ex⟩ - se' fin skip
        rw [List.getElem?_map] at ex
        cases ea : ts[j]? with
        | none => rw [ea] at ex; cases ex
        | some u =>
        rw [ea] at ex
        obtain rfl : V.ref u = x := Option.some.inj ex
        obtain ⟨q2, eq2, au⟩ := LiI.paired_get pr6 ea
        rw [ed] at eq2
        obtain rfl := Option.some.inj eq2
        refine ⟨rfl, ?_⟩
        dsimp only [tYes]
        rw [if_pos rfl]
        exact ⟨_, rfl, u, _, _, _, rfl, rfl, SqT.of (K := K) (se' _ _ au), rfl, fin rfl _ _ (Same.refl _) rfl⟩
      intro zs H7 s7 eD pz
      have ez : zs = (rs.map (·.nm)).map V.str := by
        rw [all_keep] at pz
        rw [paired_vals (H := H7) (fun r : Rw => V.str r.nm) pz, List.map_map]
        rfl
      subst ez
      have eL7 := s7 _ _ eL6
      have pr7 : Paired (RowAt H7) ts rs := paired_imp (fun _ _ z => s7 _ _ z) pr6
      refine ⟨D, rfl, ⟨_, SqL.of eD⟩, for_list (xs := (rs.map (·.nm)).map V.str) (fun j σ' H' => ∃ v7 v9 v11 v12 v13 v14, σ' = [some (.ref sc), some (.ref p), some (.int (0 + (i : Int))), some (.ref L), some (.ref y), some (.ref E1), some (.ref G), v7, none, v9, none, v11, v12, v13, v14] ∧ Same H7 H') ⟨_, _, _, _, _, _, rfl, Same.refl _⟩ ?_ ?_ ?_⟩
      · rintro j σ' H' _ ⟨_, _, _, _, _, _, rfl, s⟩
        exact SqL.of (s _ _ eD)
      · rintro j x σ' H8 ex ⟨v7, v9, v11, v12, v13, v14, rfl, S78⟩
        rw [List.getElem?_map, List.getElem?_map] at ex
        cases er : rs[j]? with
        | none => rw [er] at ex; cases ex
        | some r =>
        rw [er] at ex
        obtain rfl : V.str r.nm = x := Option.some.inj ex
        have rm := List.mem_of_getElem? er
        have eL8 := S78 _ _ eL7
        have pr8 : Paired (RowAt H8) ts rs := paired_imp (fun _ _ z => S78 _ _ z) pr7
        refine ⟨_, rfl, L, rfl, ⟨_, SqL.of eL8⟩, fun D2 hD2 => ?_⟩
        refine lc_pure (walk_list (K := K) (a := L) (xs := ts.map V.ref)) rs (fun _ => true) (fun r v _ => v = .str r.nm) (by rw [List.length_map, tl]) hD2 (fun H' s => SqL.of (s _ _ eL8)) (fun i H x H' e => ⟨by rw [e.1]; exact Same.refl _, fun o h => by rw [e.1]; exact h⟩) (by rw [List.length_map, sizeLine_eq]; omega) (fun _ _ _ _ h _ _ => h) ?_ ?_
        · rintro Nx j x q0 He He' ed se - ⟨rfl, ex⟩ - se' fin skip
          rw [List.getElem?_map] at ex
          cases ea : ts[j]? with
          | none => rw [ea] at ex; cases ex
          | some u =>
          rw [ea] at ex
          obtain rfl : V.ref u = x := Option.some.inj ex
          obtain ⟨q2, eq2, au⟩ := LiI.paired_get pr8 ea
          rw [ed] at eq2
          obtain rfl := Option.some.inj eq2
          refine ⟨rfl, ?_⟩
          dsimp only [tYes]
          rw [if_pos rfl]
          exact ⟨_, rfl, u, _, _, _, rfl, rfl, SqT.of (K := K) (se' _ _ au), rfl, fin rfl _ _ (Same.refl _) rfl⟩
        intro zs H9 s9 eD2 pz
        have ez : zs = (rs.map (·.nm)).map V.str := by
          rw [all_keep] at pz
          rw [paired_vals (H := H9) (fun r : Rw => V.str r.nm) pz, List.map_map]
          rfl
        subst ez
        refine ⟨D2, rfl, ⟨_, SqL.of eD2⟩, for_list (xs := (rs.map (·.nm)).map V.str) (fun j σ' H' => ∃ v7 v9 v11 v13 v14, σ' = [some (.ref sc), some (.ref p), some (.int (0 + (i : Int))), some (.ref L), some (.ref y), some (.ref E1), some (.ref G), v7, none, v9, none, v11, some (.str r.nm), v13, v14] ∧ Same H9 H') ⟨_, _, _, _, _, rfl, Same.refl _⟩ ?_ ?_ ?_⟩
        · rintro j σ' H' _ ⟨_, _, _, _, _, rfl, s⟩
          exact SqL.of (s _ _ eD2)
        · rintro j2 x σ' Ha ex2 ⟨v7, v9, v11, v13, v14, rfl, S9a⟩
          rw [List.getElem?_map, List.getElem?_map] at ex2
          cases eq2 : rs[j2]? with
          | none => rw [eq2] at ex2; cases ex2
          | some q =>
          rw [eq2] at ex2
          obtain rfl : V.str q.nm = x := Option.some.inj ex2
          have qm := List.mem_of_getElem? eq2
          have S6a : Same H6 Ha := fun c o e => S9a _ _ (s9 _ _ (S78 _ _ (s7 _ _ e)))
          have eGa := S6a _ _ eG6
          have pGa : Paired (LK Ha) gs os := paired_imp (fun _ _ z => S6a _ _ z) pG6
          refine ⟨fun σ' H' => σ' = [some (.ref sc), some (.ref p), some (.int (0 + (i : Int))), some (.ref L), some (.ref y), some (.ref E1), some (.ref G), v7, none, v9, none, v11, some (.str r.nm), some (.str q.nm), some (.bl (!decide (r.nm = q.nm) && !decide (q.hi < r.lo)))] ∧ Same Ha H', ?_, ?_⟩
          · refine ⟨_, rfl, _, rfl, rfl, _, rfl, ?_⟩
            by_cases e : r.nm = q.nm
            · rw [decide_eq_true (congrArg V.str e)]
              refine iteF ⟨?_, Same.refl _⟩
              rw [decide_eq_true e]
              rfl
            · rw [decide_eq_false (fun z => e (V.str.inj z))]
              refine iteT ⟨_, rfl, G, rfl, ⟨_, SqL.of eGa⟩, fun D5 hD5 => ?_⟩
              refine lc_pure (walk_list (K := K) (a := G) (xs := gs.map V.ref)) os (fun _ => true) (fun o v _ => v = .bl (befN r.nm q.nm o)) (by rw [List.length_map, gl6]) hD5 (fun H' s => SqL.of (s _ _ eGa)) (fun i H x H' e => ⟨by rw [e.1]; exact Same.refl _, fun o h => by rw [e.1]; exact h⟩) (by rw [List.length_map, gl6, sizeLine_eq]; omega) (fun _ _ _ _ h _ _ => h) ?_ ?_
              · rintro Nx j3 x o He He' ed se - ⟨rfl, ex3⟩ - se' fin skip
                rw [List.getElem?_map] at ex3
                cases ea : gs[j3]? with
                | none => rw [ea] at ex3; cases ex3
                | some u =>
                rw [ea] at ex3
                obtain rfl : V.ref u = x := Option.some.inj ex3
                obtain ⟨o2, eo2, lk⟩ := LiI.paired_get pGa ea
                rw [ed] at eo2
                obtain rfl := Option.some.inj eo2
                obtain ⟨qs, pm, rfl, hc⟩ := (mem o).mp (List.mem_of_getElem? ed)
                have nq : (qs.map (·.nm)).Nodup := (pm.map _).nodup_iff.mpr hn
                have lke : He' u = some (.lst (nmV qs)) := se' _ _ lk
                obtain ⟨i1, e1⟩ := List.mem_iff_getElem?.mp (pm.mem_iff.mpr rm)
                obtain ⟨i2, e2⟩ := List.mem_iff_getElem?.mp (pm.mem_iff.mpr qm)
                refine ⟨rfl, ?_⟩
                dsimp only [tYes]
                rw [if_pos rfl]
                refine ⟨_, rfl, .inl ⟨rfl, _, SqL.of (K := K) lke⟩, _, rfl, ?_⟩
                dsimp only [tNil]
                refine idx_of nq lke e1 ?_
                refine ⟨_, rfl, .inl ⟨rfl, _, SqL.of (K := K) lke⟩, _, rfl, ?_⟩
                dsimp only [tNil]
                refine idx_of nq lke e2 ?_
                refine ⟨_, _, rfl, rfl, fin rfl _ _ (Same.refl _) ?_⟩
                rw [befN_of nq e1 e2]
              · intro zs He se eD5 pz
                rw [all_keep] at pz
                have ey := paired_vals (fun o : List Str => V.bl (befN r.nm q.nm o)) (H := He) pz
                have e3 : os.map (fun o => V.bl (befN r.nm q.nm o)) = (os.map fun o => befN r.nm q.nm o).map V.bl := by rw [List.map_map]; rfl
                rw [ey, e3] at eD5
                refine ⟨D5, _, rfl, SqL.of eD5, ?_, se⟩
                have ev : (os.map fun o => befN r.nm q.nm o).any id = !decide (q.hi < r.lo) := by
                  rw [List.any_map]
                  cases c : decide (q.hi < r.lo) with
                  | true =>
                    refine List.any_eq_false.mpr fun o ho z => ?_
                    obtain ⟨qs, pm, rfl, hc⟩ := (mem o).mp ho
                    obtain ⟨i1, i2, e1, e2, lt⟩ := befN_iff.mp z
                    rw [List.getElem?_map] at e1 e2
                    obtain ⟨r2, f1, g1⟩ := Option.map_eq_some_iff.mp e1
                    obtain ⟨q2, f2, g2⟩ := Option.map_eq_some_iff.mp e2
                    have h1 := name_inj hn (pm.mem_iff.mp (List.mem_of_getElem? f1)) rm g1
                    have h2 := name_inj hn (pm.mem_iff.mp (List.mem_of_getElem? f2)) qm g2
                    subst h1
                    subst h2
                    exact good_before hc f1 f2 lt (of_decide_eq_true c)
                  | false =>
                    obtain ⟨qs, pm, ⟨i1, i2, f1, f2, lt⟩, hc⟩ := good_exists hn hv rm qm e (of_decide_eq_false c)
                    refine List.any_eq_true.mpr ⟨qs.map (·.nm), (mem _).mpr ⟨qs, pm, rfl, hc⟩, befN_iff.mpr ⟨i1, i2, ?_, ?_, lt⟩⟩
                    · rw [List.getElem?_map, f1]
                      rfl
                    · rw [List.getElem?_map, f2]
                      rfl
                rw [ev, decide_eq_false e]
                rfl
          rintro σb Hb ⟨rfl, Sab⟩
          refine ⟨_, rfl, _, rfl, _, rfl, y, rs, r, q, rfl, (pool6.same S6a).same Sab, hn, rm, qm, (rok r rm).nm, (rok q qm).nm, fun Hc Sbc => ⟨_, rfl, rfl, _, rfl, ?_⟩⟩
          rw [decide_eq_true rfl]
          exact iteF ⟨_, _, _, _, _, rfl, (S9a.trans Sab).trans Sbc⟩
        · rintro σ' Ha ⟨v7, v9, v11, v13, v14, rfl, S9a⟩
          exact ⟨_, _, _, _, _, _, rfl, (S78.trans s9).trans S9a⟩
      · rintro σ' H8 ⟨v7, v9, v11, v12, v13, v14, rfl, S78⟩
        exact ⟨_, _, _, _, _, _, _, _, _, _, _, rfl, (hp6.same (s7.trans S78)).mono (by omega)⟩
    · rintro σ' H2 ⟨v2, v3, v4, v5, v6, v7, v9, v11, v12, v13, v14, rfl, hp2⟩
      exact ⟨_, _, _, _, _, _, _, _, _, _, _, rfl⟩
end
end Ask

open PySem PySem.W PyProof.Rows
set_option Elab.async false
set_option linter.all false
set_option maxRecDepth 100000
set_option maxHeartbeats 0
theorem PySem.Challenge.cw_askranges_k76_whole_orders_and_all_value_holds : PySem.Challenge.rw_askranges_k76_whole_orders_and_all_value.Holds := by
  w_on; o_law; k_head; (case hw => w_witness2)
  k_fill
  refine Ask.walk_lawS (l := PySem.Challenge.rw_askranges_k76_whole_orders_and_all_value) (k := 9) rfl rfl ⟨rfl, by decide, by decide⟩ rfl (fun _ => rfl) (fun w h Y => PySem.W.kIn_of Y) ?F
  case F =>
    intro w mg fa h KX G hmg
    obtain ⟨a, T⟩ : ∃ a, Ask.Txt _ mg a := by
      refine' Ask.txt_get KX G ?a11 ?l12 ?c13 ?k14 ?a25 ?l26 ?c27 ?k28 ?a39 ?l40 ?c41 ?k42 ?a53 ?l54 ?c55 ?k56 ?a58 ?pg59 ?hd60 ?po61 ?sa62 ?rd63 ?ga64 ?fa66 ?gt67 ?cv68 ?a79 ?i80 ?mk81 ?kc82 ?l83 ?c84 ?k85 ?q87 ?a100 ?rc101 ?l102 ?c103 ?k104 ?a117 ?gt118 ?tk119 ?rc120 ?l121 ?c122 ?k123 ?a136 ?gt137 ?tk138 ?rc139 ?l140 ?c141 ?k142 ?a155 ?gt156 ?tk157 ?rc158 ?l159 ?c160 ?k161 ?a174 ?gt175 ?tk176 ?rc177 ?l178 ?c179 ?k180 ?a191 ?i192 ?l193 ?c194 ?k195 ?a206 ?i207 ?l208 ?c209 ?k210 ?lc227 ?no228 ?ee229 ?en230 ?na231 ?na232 ?na233 ?na234 ?ha235 ?hn236 ?ht237 ?hm238 ?kt239 ?kd240 ?a242 ?pg243 ?hd244 ?po245 ?sa246 ?rd247 ?ga248 ?a259 ?i260 ?mk261 ?kc262 ?l263 ?c264 ?k265 ?a278 ?rc279 ?l280 ?c281 ?k282 ?fi283 ?pg284 ?ic285 ?a286 ?ty287 ?gt288 ?tk289 ?a302 ?gt303 ?tk304 ?rc305 ?l306 ?c307 ?k308 ?a319 ?i320 ?l321 ?c322 ?k323 ?a334 ?i335 ?l336 ?c337 ?k338 ?gf339 ?tk340 ?fi341 ?a352 ?i353 ?l354 ?c355 ?k356 ?lc373 ?no374 ?ee375 ?en376 ?na377 ?ha378 ?hn379 ?ht380 ?hm381 ?kt382 ?kd383 ?a394 ?l395 ?c396 ?k397 ?a408 ?l409 ?c410 ?k411 ?a422 ?l423 ?c424 ?k425 ?a436 ?l437 ?c438 ?k439 ?a450 ?l451 ?c452 ?k453 ?a464 ?l465 ?c466 ?k467 ?a478 ?l479 ?c480 ?k481 ?a492 ?l493 ?c494 ?k495 ?a506 ?l507 ?c508 ?k509 ?a520 ?l521 ?c522 ?k523 ?a525 ?z526 ?z527 ?z528 ?z529 ?z530 ?z531 ?z532 ?z533 ?z534 ?z535 ?z536 ?z537 ?z538 ?z539 ?z540
      (case a11 => k_is)
      (case l12 => k_is)
      (case c13 => k_is)
      (case k14 => k_is)
      (case a25 => k_is)
      (case l26 => k_is)
      (case c27 => k_is)
      (case k28 => k_is)
      (case a39 => k_is)
      (case l40 => k_is)
      (case c41 => k_is)
      (case k42 => k_is)
      (case a53 => k_is)
      (case l54 => k_is)
      (case c55 => k_is)
      (case k56 => k_is)
      (case a58 => k_is)
      (case pg59 => k_is)
      (case hd60 => k_is)
      (case po61 => k_is)
      (case sa62 => k_is)
      (case rd63 => k_is)
      (case ga64 => k_is)
      (case fa66 => k_is)
      (case gt67 => k_is)
      (case cv68 => k_is)
      (case a79 => k_is)
      (case i80 => k_is)
      (case mk81 => k_is)
      (case kc82 => k_is)
      (case l83 => k_is)
      (case c84 => k_is)
      (case k85 => k_is)
      (case q87 => k_is)
      (case a100 => k_is)
      (case rc101 => k_is)
      (case l102 => k_is)
      (case c103 => k_is)
      (case k104 => k_is)
      (case a117 => k_is)
      (case gt118 => k_is)
      (case tk119 => k_is)
      (case rc120 => k_is)
      (case l121 => k_is)
      (case c122 => k_is)
      (case k123 => k_is)
      (case a136 => k_is)
      (case gt137 => k_is)
      (case tk138 => k_is)
      (case rc139 => k_is)
      (case l140 => k_is)
      (case c141 => k_is)
      (case k142 => k_is)
      (case a155 => k_is)
      (case gt156 => k_is)
      (case tk157 => k_is)
      (case rc158 => k_is)
      (case l159 => k_is)
      (case c160 => k_is)
      (case k161 => k_is)
      (case a174 => k_is)
      (case gt175 => k_is)
      (case tk176 => k_is)
      (case rc177 => k_is)
      (case l178 => k_is)
      (case c179 => k_is)
      (case k180 => k_is)
      (case a191 => k_is)
      (case i192 => k_is)
      (case l193 => k_is)
      (case c194 => k_is)
      (case k195 => k_is)
      (case a206 => k_is)
      (case i207 => k_is)
      (case l208 => k_is)
      (case c209 => k_is)
      (case k210 => k_is)
      (case lc227 => k_is)
      (case no228 => exact Ask.nsOk_of (by k_is) (by rfl))
      (case ee229 => k_is)
      (case en230 => k_is)
      (case na231 => k_is)
      (case na232 => k_is)
      (case na233 => k_is)
      (case na234 => k_is)
      (case ha235 => k_is)
      (case hn236 => k_is)
      (case ht237 => k_is)
      (case hm238 => k_is)
      (case kt239 => (intro t ht; simp only [Ask.kinds, List.mem_cons, List.not_mem_nil, or_false] at ht; rcases ht with rfl | rfl | rfl | rfl | rfl | rfl | rfl <;> exact Ask.kit_not (by k_is) (by k_is) (by k_is)))
      (case kd240 => (intro t ht; simp only [Ask.kinds, List.mem_cons, List.not_mem_nil, or_false] at ht; rcases ht with rfl | rfl | rfl | rfl | rfl | rfl | rfl <;> k_is))
      (case a242 => k_is)
      (case pg243 => k_is)
      (case hd244 => k_is)
      (case po245 => k_is)
      (case sa246 => k_is)
      (case rd247 => k_is)
      (case ga248 => k_is)
      (case a259 => k_is)
      (case i260 => k_is)
      (case mk261 => k_is)
      (case kc262 => k_is)
      (case l263 => k_is)
      (case c264 => k_is)
      (case k265 => k_is)
      (case a278 => k_is)
      (case rc279 => k_is)
      (case l280 => k_is)
      (case c281 => k_is)
      (case k282 => k_is)
      (case fi283 => k_is)
      (case pg284 => k_is)
      (case ic285 => k_is)
      (case a286 => k_is)
      (case ty287 => k_is)
      (case gt288 => k_is)
      (case tk289 => k_is)
      (case a302 => k_is)
      (case gt303 => k_is)
      (case tk304 => k_is)
      (case rc305 => k_is)
      (case l306 => k_is)
      (case c307 => k_is)
      (case k308 => k_is)
      (case a319 => k_is)
      (case i320 => k_is)
      (case l321 => k_is)
      (case c322 => k_is)
      (case k323 => k_is)
      (case a334 => k_is)
      (case i335 => k_is)
      (case l336 => k_is)
      (case c337 => k_is)
      (case k338 => k_is)
      (case gf339 => k_is)
      (case tk340 => k_is)
      (case fi341 => k_is)
      (case a352 => k_is)
      (case i353 => k_is)
      (case l354 => k_is)
      (case c355 => k_is)
      (case k356 => k_is)
      (case lc373 => k_is)
      (case no374 => exact Ask.nsOk_of (by k_is) (by rfl))
      (case ee375 => k_is)
      (case en376 => k_is)
      (case na377 => k_is)
      (case ha378 => k_is)
      (case hn379 => k_is)
      (case ht380 => k_is)
      (case hm381 => k_is)
      (case kt382 => (intro t ht; simp only [Ask.kinds, List.mem_cons, List.not_mem_nil, or_false] at ht; rcases ht with rfl | rfl | rfl | rfl | rfl | rfl | rfl <;> exact Ask.kit_not (by k_is) (by k_is) (by k_is)))
      (case kd383 => (intro t ht; simp only [Ask.kinds, List.mem_cons, List.not_mem_nil, or_false] at ht; rcases ht with rfl | rfl | rfl | rfl | rfl | rfl | rfl <;> k_is))
      (case a394 => k_is)
      (case l395 => k_is)
      (case c396 => k_is)
      (case k397 => k_is)
      (case a408 => k_is)
      (case l409 => k_is)
      (case c410 => k_is)
      (case k411 => k_is)
      (case a422 => k_is)
      (case l423 => k_is)
      (case c424 => k_is)
      (case k425 => k_is)
      (case a436 => k_is)
      (case l437 => k_is)
      (case c438 => k_is)
      (case k439 => k_is)
      (case a450 => k_is)
      (case l451 => k_is)
      (case c452 => k_is)
      (case k453 => k_is)
      (case a464 => k_is)
      (case l465 => k_is)
      (case c466 => k_is)
      (case k467 => k_is)
      (case a478 => k_is)
      (case l479 => k_is)
      (case c480 => k_is)
      (case k481 => k_is)
      (case a492 => k_is)
      (case l493 => k_is)
      (case c494 => k_is)
      (case k495 => k_is)
      (case a506 => k_is)
      (case l507 => k_is)
      (case c508 => k_is)
      (case k509 => k_is)
      (case a520 => k_is)
      (case l521 => k_is)
      (case c522 => k_is)
      (case k523 => k_is)
      (case a525 => k_is)
      (case z526 => k_is)
      (case z527 => k_is)
      (case z528 => k_is)
      (case z529 => k_is)
      (case z530 => k_is)
      (case z531 => k_is)
      (case z532 => k_is)
      (case z533 => k_is)
      (case z534 => k_is)
      (case z535 => k_is)
      (case z536 => k_is)
      (case z537 => k_is)
      (case z538 => k_is)
      (case z539 => k_is)
      (case z540 => k_is)
    cases hmg.symm.trans T.g_law
    exact ⟨_, Ask.bind_script T.F_law fun _ _ _ _ _ _ _ => rfl, fun base _ _ => Ask.ok_law T⟩

