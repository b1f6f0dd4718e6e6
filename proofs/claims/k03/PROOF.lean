import PyProof.Rows.All
import Wide.All
import OpenK.AllK
import Wide.FinOn
import HandS.ForMost
import HandS.Wide
import PyProof.ReprRoads
import HandS.Property
import HandS.ClsMeth
import HandS.MakeKwOnly
import HandS.IsInst
import HandS.Evl
import HandS.Style
import HandS.Walk
import PyProof.InstNe
import HandS.Defaults
import PyProof.ReprLen
import HandS.CallLocal
import HandS.Exc
import HandS.ExcOwn
import HandS.ExcIs
import HandS.ExcField
import HandS.ExcValue
import KE.KExcIs
import HandS.ExcInit
import HandS.FStr
import KE.KExcSuper
import HandS.EndTab
import HandS.WordsExc
import PyProof.StrBlock2
import PyProof.StrLawsRepr
import KE.KxText
import HandS.Text
import PySem.Challenge.RW_askranges_k03_invalid_items
set_option Elab.async false
set_option linter.all false
set_option maxRecDepth 100000
set_option maxHeartbeats 2000000
/-! repr of data -/
namespace Ask
open PySem L2
open PyProof.Rows

/-- repr(x), x any data without a dict in it -/
def rRepr (K : PySem.W.Frag) : List V → Hp → VK → Prop := fun xs H Q =>
  ∃ (v : V) (d : PyData), xs = [v] ∧ Dp K H v d ∧ d.showable = true ∧ d.hasDict = false ∧ d.depth ≤ 60 ∧ d.shown.length ≤ sizeLine ∧ Q (.str d.shown) H
theorem cr_repr {X : Cx} (hg : X.A.guards = some []) (hu : X.A.units + 64 < cLine) :
    CallR X (.builtin "repr") (rRepr X.K) := by
  intro pins s σ H xs us Q I r h
  obtain ⟨v, d, rfl, hd, h1, h2, h3, h4, q⟩ := h
  obtain ⟨u, rfl, rx⟩ := vals1 r
  obtain ⟨as, rd⟩ := Dp.reads I d v u hd rx
  cases hd with
  | non =>
    cases rx
    exact P.repr_of_none ⟨.str _, H, I.tok _, ⟨_, rfl⟩, q⟩
  | bl b =>
    cases rx
    exact P.repr_of_bool ⟨.str _, H, I.tok _, ⟨_, rfl⟩, by cases b <;> exact q⟩
  | int i =>
    obtain ⟨t, rfl⟩ := rx
    have hz : i.natAbs.log2 < 1920 := by
      simpa [PyData.showable] using h1
    exact P.repr_of_int hz ⟨.str _, H, I.tok _, ⟨_, rfl⟩, q⟩
  | str x =>
    obtain ⟨t, rfl⟩ := rx
    exact P.repr_of_str ⟨.str _, H, I.tok _, ⟨_, rfl⟩, q⟩ h4
  | lst a b =>
    cases rx
    refine repr_of_reads' rd h1 (fun z => by rw [h2] at z; cases z) hg (by omega) (fun _ _ e => e) (fun h' u tk hk => ?_) h4
    exact ⟨.str _, H, I.kept hk, ⟨_, rfl⟩, q⟩
  | tup a b =>
    cases rx
    refine repr_of_reads' rd h1 (fun z => by rw [h2] at z; cases z) hg (by omega) (fun _ _ e => e) (fun h' u tk hk => ?_) h4
    exact ⟨.str _, H, I.kept hk, ⟨_, rfl⟩, q⟩
end Ask

set_option Elab.async false
set_option linter.all false
set_option maxRecDepth 100000
set_option maxHeartbeats 2000000
/-! the law's own def: run where no repr is under way -/
namespace Ask
open PySem L2
open PyProof.Rows

/-- a promise kept at calls around which no repr is under way -/
structure GOk (P : Program) (w : World) (K : PySem.W.Frag) (mg : Str → Option Value)
    (base : Heap) (CX : CXT) (k : Nat) (f : Addr) (fd : FuncData) (ps : List Str) (sp : Sp) : Prop where
  len : ∀ vs H Q E, sp vs H Q E → vs.length = ps.length
  run : ∀ (A : Around) (outer : List Env) (s : Shared) (H : Hp) (args : Args)
    (us : List Value) (vs : List V) (Q : VK) (E : XK), Room k A → A.guards = some [] →
    Env0 P w K mg base A outer s H → BindsTo s fd args (ps.zip us) → Vals vs us → sp vs H Q E →
    codeAny (model P w) A (.call (.ref f) args) (CR CX outer P w H s Q E) s

/-- such a def by its body -/
theorem gok_of {CX : CXT} {P : Program} {w : World} {K : PySem.W.Frag} {mg : Str → Option Value}
    {base : Heap} {k : Nat} {f : Addr} {name qual : Str} {params : Arguments} {body : List Stmt}
    {scope : Scope} {dV kV doc pm cdv ct oc : Value} {an od : Option Addr} {osl : Array (Option Value)}
    {N ps : List Str} {sp : Sp}
    (lk : K.lookup f = some ⟨oc, od, .func (PySem.W.fnOf name qual params body scope dV kV doc pm an cdv ct), osl⟩)
    (hcd : PySem.W.codeIn K cdv qual = true) (S : FnScope N ps scope)
    (len : ∀ vs H Q E, sp vs H Q E → vs.length = ps.length)
    (hbody : ∀ (A : Around) (outer : List Env) (s : Shared) (H : Hp) (vs : List V) (Q : VK) (E : XK),
      Room k (A.deeper (envOfC qual scope s.heap.objs.size f cdv)) →
      (A.deeper (envOfC qual scope s.heap.objs.size f cdv)).guards = some [] → sp vs H Q E →
      ∃ t, PSs (cxOf CX P w K mg base N qual scope f cdv A outer s H E) body t ∧
        t { nx := fun _ H' => Q .non H', rt := Q } (start N vs) H) :
    GOk P w K mg base CX (k + 1) f
      (PySem.W.fnOf name qual params body scope dV kV doc pm an cdv ct) ps sp where
  len := len
  run := by
    intro A outer s H args us vs Q E hr hgd e0 hb r hsp
    have hl := len _ _ _ _ hsp
    have KX : K.In s.heap := e0.mod.kin.keeps fun b o e => (e0.bs b o e).1
    have lim := e0.mod.nolimit.keeps fun b o e => (e0.bs b o e).1
    refine codeAny_call_function hr.depth (KX _ _ lk) rfl S.co S.gen rfl
      (PySem.W.codeRec_of KX hcd) (hb _ _ _ _ ?_)
    refine wpAny_newFunctionEnv_cells S.kind (fun ⟨n, v⟩ hy => ?_) fun env he s1 x => ?_
    · rcases S.par n (List.of_mem_zip hy).1 with q | q
      · exact Or.inl q
      · exact Or.inr ⟨q, PySem.W.cellsFrom_some _ _ _ (Or.inl q)⟩
    subst he
    refine ⟨lim.keeps x.toInCall.keep, codeAny_func ?_⟩
    obtain ⟨t, ht, hq⟩ := hbody A outer s H vs Q E (hr.deeper _) hgd hsp
    have I := inv_start (CX := CX) (mg := mg) (base := base) (w := w) (E := E) S hr.hd e0 hl r x
    refine wpAny_mono (ht.run [] s1 (start N vs) H _ I hq) (fun fl s' hs => ?_) fun e s' hs => hs
    cases fl with
    | ret u =>
      obtain ⟨v, σ', H', J, rv, q⟩ := hs
      exact ⟨v, H', J.os, J.bare, J.base, J.hok, rv, q⟩
    | next =>
      obtain ⟨σ', H', J, q⟩ := hs
      exact ⟨V.non, H', J.os, J.bare, J.base, J.hok, rfl, q⟩
    | brk => exact hs.elim fun _ z => z.elim fun _ y => y.2.elim
    | cont => exact hs.elim fun _ z => z.elim fun _ y => y.2.elim

/-- the same by the text's own words -/
theorem gok_fun {P : Program} {w : World} {K : PySem.W.Frag} {mg : Str → Option Value} {base : Heap}
    {CX : CXT} {x qual : Str} {st : Stmt} {f : Addr} {fd : FuncData} {N ps : List Str} {k : Nat} {sp : Sp}
    (F : Fun K x qual st f fd) (S : FnScope N ps (defScope st))
    (len : ∀ vs H Q E, sp vs H Q E → vs.length = ps.length)
    (hbody : ∀ (cdv : Value) (A : Around) (outer : List Env) (s : Shared) (H : Hp) (vs : List V) (Q : VK) (E : XK),
      Room k (A.deeper (envOfC qual (defScope st) s.heap.objs.size f cdv)) →
      (A.deeper (envOfC qual (defScope st) s.heap.objs.size f cdv)).guards = some [] → sp vs H Q E →
      ∃ t, PSs (cxOf CX P w K mg base N qual (defScope st) f cdv A outer s H E).nox (defBody st) t ∧
        t { nx := fun _ H' => Q .non H', rt := Q } (start N vs) H) :
    GOk P w K mg base CX (k + 1) f fd ps sp := by
  obtain ⟨oc, od, kV, doc, pm, an, cdv, ct, osl, rfl, lk, hcd⟩ := F.ex
  refine gok_of lk hcd S len fun A outer s H vs Q E hr hg hsp => ?_
  obtain ⟨t, h, q⟩ := hbody cdv A outer s H vs Q E hr hg hsp
  exact ⟨t, PSs.nox h, q⟩

/-- what of a heap the law's call sees: the script alone -/
def seen (K : PySem.W.Frag) (a : Addr) (vs : List Value) (ns : List Int) : Hp := fun b =>
  match K.lookup a with
  | some _ => none
  | none => if b = a then some (.frz { cls := .type "list", data := .seq vs.toArray } (.lst (ns.map V.int))) else none

theorem law_go {P : Program} {w : World} {K : PySem.W.Frag} {mg mb : Str → Option Value} {k : Nat}
    {fa a : Addr} {fd : FuncData} {x : Str} {sp : Sp} {s₁ : Shared} {vs : List Value} {ns : List Int}
    (KX : K.In s₁.heap) (hns : s₁.heap.Ns mainGlobals mg) (hb : s₁.heap.Ns builtinsNs mb)
    (hbb : ∀ x : Str, x ≠ "__name__" → mb x = bootBuiltins x) (hlim : s₁.heap.NoLimit) (hg : s₁.gens = #[])
    (ha : s₁.heap.get? a = some { cls := .type "list", data := .seq vs.toArray }) (hi : IntsAre vs ns)
    (hl : ns.length ≤ sizeLine) (hr : Room k callerA)
    (F : ∀ base : Heap, K.In base → base.Ns mainGlobals mg → GOk P w K mg base CX0 k fa fd [x] sp)
    (hbind : ∀ (s : Shared) (u : Value), BindsTo s fd ⟨[u], []⟩ [(x, u)])
    (hsp : ∀ H : Hp, Only H → SqL K H a (ns.map V.int) → sp [.ref a] H (fun v _ => v = .bl true) fun _ _ _ => False) :
    codeAny (model P w) callerA (.call (.ref fa) ⟨[.ref a], []⟩)
      (fun r s' => r = .ok (.ret (.bool true)) ∧ OldK s₁.heap s'.heap ∧ s'.os = s₁.os ∧ AllBare s'.gens) s₁ := by
  have rv := vals_ints hi
  have lenV := hi.length
  have hA : ∀ b u, seen K a vs ns b = some u → b = a ∧ K.lookup a = none ∧
      u = .frz { cls := .type "list", data := .seq vs.toArray } (.lst (ns.map V.int)) := by
    intro b u e
    unfold seen at e
    cases q : K.lookup a with
    | some o =>
      rw [q] at e
      cases e
    | none =>
      rw [q] at e
      by_cases hb : b = a
      · have e2 := (if_pos hb).symm.trans e
        exact ⟨hb, rfl, (Option.some.inj e2).symm⟩
      · have e2 := (if_neg hb).symm.trans e
        cases e2
  have hO : Only (seen K a vs ns) := fun b => by
    cases q : seen K a vs ns b with
    | none => exact Or.inl rfl
    | some u =>
      obtain ⟨_, _, e⟩ := hA b u q
      exact Or.inr ⟨_, _, by rw [e]⟩
  have hS : SqL K (seen K a vs ns) a (ns.map V.int) := by
    cases q : K.lookup a with
    | some o =>
      have e := KX a o q
      rw [ha] at e
      cases e
      exact Or.inr ⟨_, vs.toArray, _, q, rfl, rfl, rfl, by rw [List.size_toArray, lenV]; exact hl, by simpa using rv⟩
    | none =>
      refine Or.inl (Or.inr ⟨{ cls := .type "list", data := .seq vs.toArray }, ?_⟩)
      unfold seen
      rw [q]
      exact if_pos rfl
  have hok : HOk P w (seen K a vs ns) s₁.heap := fun b u e => by
    obtain ⟨rfl, _, rfl⟩ := hA b u e
    exact ⟨ha, by rw [List.length_map]; exact hl, vs, _, rv, ha⟩
  have inH : ∀ {b : Addr} {o : Obj}, s₁.heap.get? b = some o → seen K a vs ns b = none →
      (hidT s₁.heap (seen K a vs ns)).get? b = some o := fun e n => hidT_get e n
  have noD : ∀ {b : Addr} {o : Obj} {es : Array DictEntry} {ep : Nat}, s₁.heap.get? b = some o →
      o.data = .dict es ep → seen K a vs ns b = none := by
    intro b o es ep e d
    cases q : seen K a vs ns b with
    | none => rfl
    | some u =>
      obtain ⟨rfl, _, _⟩ := hA b u q
      rw [ha] at e
      cases e
      cases (show Data.seq vs.toArray _ = Data.dict es ep from d)
  have nsH : ∀ {b : Addr} {m : Str → Option Value}, s₁.heap.Ns b m → (hidT s₁.heap (seen K a vs ns)).Ns b m := by
    intro b m ⟨o, es, ep, e, d, r⟩
    exact ⟨o, es, ep, inH e (noD e d), d, r⟩
  have kH : K.In (hidT s₁.heap (seen K a vs ns)) := by
    intro b o e
    refine inH (KX b o e) ?_
    cases q : seen K a vs ns b with
    | none => rfl
    | some u =>
      obtain ⟨rfl, z, _⟩ := hA b u q
      rw [z] at e
      cases e
  have limH : (hidT s₁.heap (seen K a vs ns)).NoLimit := by
    obtain ⟨mc, h1, h2⟩ := hlim
    exact ⟨mc, nsH h1, h2⟩
  have e0 : Env0 P w K mg (hidT s₁.heap (seen K a vs ns)) callerA [] s₁ (seen K a vs ns) := {
    frames := rfl
    mod := ⟨kH, nsH hns, ⟨mb, nsH hb, hbb⟩, limH⟩
    bs := fun b o e => of_hidT e
    bsz := Nat.le_of_eq (hidT_size _ _)
    funs := trivial
    frf := fun b hb => absurd (show b ∈ ([] : List Addr) from hb) (by simp)
    hok := hok
    bare := .of_eq hg }
  have run := (F _ kH (nsH hns)).run callerA [] s₁ (seen K a vs ns) ⟨[.ref a], []⟩ [.ref a] [.ref a]
    _ _ hr rfl e0 (hbind s₁ (.ref a)) (.cons rfl .nil) (hsp _ hO hS)
  refine codeAny_mono run fun r s' h => ?_
  cases r with
  | error e => exact False.elim h
  | ok fl =>
    cases fl with
    | next => exact False.elim h
    | brk => exact False.elim h
    | cont => exact False.elim h
    | ret u =>
      obtain ⟨v, H', os, bare, un, hok', r', q⟩ := h
      obtain rfl : v = V.bl true := q
      obtain rfl : u = Value.bool true := r'
      refine ⟨rfl, OldK.of_keep fun b o e => ?_, os, bare⟩
      cases q : seen K a vs ns b with
      | none => exact un.keep b o e q (fun z => nomatch z) (fun z => nomatch z)
      | some u =>
        obtain ⟨_, _, rfl⟩ := hA b u q
        obtain ⟨e1, _⟩ := hok b _ q
        obtain ⟨e2, _⟩ := hok' b _ (un.frzs b _ _ q)
        rw [e] at e1
        cases e1
        exact e2

/-- the goal that the head leaves, from the law's promise -/
theorem walk_go {l : PySem.W.OpenLaw} {n k : Nat} {q : Program} {loose : List Str}
    {XP : (Str → Option Value) → Heap → Prop} {YP : World → Heap → Prop} {d : DefRec}
    {K : Params → PySem.W.Frag} {sp : World → Sp} {x : Str} (hn : l.most = some n) (hn2 : n ≤ sizeLine)
    (hdf : d.params.defaults = []) (hr : Room k callerA)
    (hY : ∀ (w : World) (h : Heap), YP w h → (K w.params).In h)
    (F : ∀ (w : World) (mg : Str → Option Value) (fa : Addr) (h : Heap), (K w.params).In h →
      h.Ns mainGlobals mg → mg d.name = some (.ref fa) →
      ∃ fd : FuncData, (∀ (s : Shared) (u : Value), BindsTo s fd ⟨[u], []⟩ [(x, u)]) ∧
        ∀ base : Heap, (K w.params).In base → base.Ns mainGlobals mg →
          GOk l.prog w (K w.params) mg base CX0 k fa fd [x] (sp w))
    (hsp : ∀ (w : World) (H : Hp) (a : Addr) (ns : List Int), ns.length ≤ n → Only H →
      SqL (K w.params) H a (ns.map V.int) → sp w [.ref a] H (fun v _ => v = .bl true) fun _ _ _ => False) :
    PySem.W.WalkO q loose XP YP l.row.toRowW d [] (fun f vs => PySem.call f vs) := by
  refine Att.attach_call hn hdf ?_
  intro w s₀ s₁ mg mb fa o pm cd doc a vs ns G Y ho hd hcd hmg hobj hints hlen hg
  have KX := hY w _ Y
  obtain ⟨fd, hb, hF⟩ := F w mg fa _ KX G.T.g hmg
  exact law_go KX G.T.g G.T.b G.T.builtins G.T.nolimit hg hobj hints (Nat.le_trans hlen hn2) hr hF hb
    fun H hO hS => hsp w H a ns hlen hO hS
/-- what a law promises: True, whatever the script -/
def spLaw (K : PySem.W.Frag) : Sp := fun vs H Q _ => ∃ (s : Addr) (ns : List Int), vs = [.ref s] ∧
  SqL K H s (ns.map V.int) ∧ ns.length ≤ 63 ∧ ∀ H', Q (.bl true) H'
/-- the goal that the head leaves, from such a def -/
theorem walk_law {l : PySem.W.OpenLaw} {k : Nat} {q : Program} {loose : List Str}
    {XP : (Str → Option Value) → Heap → Prop} {YP : World → Heap → Prop} {d : DefRec}
    {K : Params → PySem.W.Frag} (hn : l.most = some 63) (hdf : d.params.defaults = []) (hr : Room k callerA)
    (hY : ∀ (w : World) (h : Heap), YP w h → (K w.params).In h)
    (F : ∀ (w : World) (mg : Str → Option Value) (fa : Addr) (h : Heap), (K w.params).In h →
      h.Ns mainGlobals mg → mg d.name = some (.ref fa) →
      ∃ fd : FuncData, (∀ (s : Shared) (u : Value), BindsTo s fd ⟨[u], []⟩ [("script", u)]) ∧
        ∀ base : Heap, (K w.params).In base → base.Ns mainGlobals mg →
          GOk l.prog w (K w.params) mg base CX0 k fa fd ["script"] (spLaw (K w.params))) :
    PySem.W.WalkO q loose XP YP l.row.toRowW d [] (fun f vs => PySem.call f vs) :=
  walk_go (n := 63) (k := k) (x := "script") (sp := fun w => spLaw (K w.params)) hn (by decide) hdf hr hY F
    fun w H a ns hl _ hS => ⟨a, ns, rfl, hS, hl, fun _ => rfl⟩
/-- how the law's one argument binds -/
theorem bind_script {K : PySem.W.Frag} {x qual : Str} {st : Stmt} {f : Addr} {fd : FuncData} (F : Fun K x qual st f fd)
    (h : ∀ (kV doc pm : Value) (an : Option Addr) (cdv ct u : Value),
      bindArgs (PySem.W.fnOf x qual (defArgs st) (defBody st) (defScope st) .none kV doc pm an cdv ct) ⟨[u], []⟩ = pure [((Str.ofString "script"), u)])
    (s : Shared) (u : Value) : BindsTo s fd ⟨[u], []⟩ [(Str.ofString "script", u)] := by
  obtain ⟨oc, od, kV, doc, pm, an, cdv, ct, osl, rfl, _, _⟩ := F.ex
  exact .of_eq (h kV doc pm an cdv ct u)
end Ask

set_option Elab.async false
set_option linter.all false
set_option maxRecDepth 100000
set_option maxHeartbeats 2000000
/-! static methods of a class; own == with both answers, != by it -/
namespace Ask
open PySem L2
open PyProof.Rows

/-! ### C.m(e, ..), m a staticmethod -/
structure SMet (K : PySem.W.Frag) (C : Addr) (mc : Value) (m : Str) (p g : Addr) : Prop where
  at_ : PySem.W.findCls K (.ref C) mc m = some (.get (.builtin "staticmethod.__get__") (.ref p) .none (.ref C))
  rc : ∃ rest, PySem.W.recIn K p "staticmethod" = some (.ref g :: rest)
  kp : PySem.W.keepIn K (.ref g) = true
def tSMeth (C : Addr) (sp : Sp) (E : XK) (ta : TE) (t : TA) : TE := fun σ H Q =>
  ta σ H fun x H1 => x = .ref C ∧ t σ H1 fun vs H2 => sp vs H2 Q E
section
variable {X : Cx} {CX : CXT} {k : Nat} {C p g : Addr} {mc : Value} {sp : Sp} {E : XK} {o e : Expr}
  {es : List Expr} {m : Str} {pos apos : Pos} {ta : TE} {t : TA} {pl : Sem Bool} {fd : FuncData} {ps : List Str}
theorem pe_smeth (he : PE X o ta) (r : ClX.CRead X.K C mc) (c : SMet X.K C mc m p g)
    (F : FnOk X.prog X.w X.K X.mg X.base CX k g fd ps sp) (hr : Room k X.A) (hb : Binds X.K fd ps [])
    (hx : Passes CX X E) (ha : PA X (e :: es) t)
    (hst : starEach (e :: es) X.env = (false, eval e X.env) :: starEach es X.env := by rfl)
    (hpl : (backTo pos (starEach es X.env)).any (·.1) = false := by rfl)
    (ht : eval (.Call (.Attribute o m apos) (e :: es) [] pos) X.env = (do
      let ov ← eval o X.env; standAt apos.atName
      let (f, first) ← holding [ov] (getMethod ov m pl)
      callWith pos f first (backTo pos (starEach (e :: es) X.env)) (backToKw pos (keywordEach [] X.env))) := by rfl) :
    PE X (.Call (.Attribute o m apos) (e :: es) [] pos) (tSMeth C sp E ta t) := by
  refine ⟨fun pins s σ H Q I h => ?_⟩
  refine PySem.W.methodCall_KW (pl := pl) (thn (he.run pins s σ H _ I h) ?_) ht
  rintro u s1 ⟨x, H1, I1, rx, ex, q⟩
  subst ex
  obtain rfl : u = Value.ref C := rx
  obtain ⟨rest, hp⟩ := c.rc
  refine PySem.W.method_cls I1.kIn r.ga (PySem.W.cls_bind I1.kIn r.rd c.at_ ?_)
  have I2 := I1.tok (s1.toks + 1)
  refine wpAny_call (PySem.W.sm_get (s := { s1 with toks := s1.toks + 1 }) I2.kIn hp (PySem.W.handed_on rfl ?_))
  refine PySem.W.callWith_K (h₀ := X.base) I2.ok.mod.kin c.kp (thn (ha.run pos pins _ σ H1 _ I2 q) ?_) hst hpl
  rintro us s2 ⟨vs, H2, I3, rv, q2⟩
  refine ⟨I3.kIn, ?_⟩
  exact run_fn (us := us) F hr hb .nil hx I3 rv (by rw [List.append_nil]; exact q2)
end

/-! ### own == and != -/
/-- the class at C (of object alone) has its own __eq__, the def at f, and no own __ne__ -/
structure EqCls (K : PySem.W.Frag) (C f : Addr) : Prop where
  cls : ∃ (nm q : Str) (N : Addr) (bs : List Value) (hdct : Bool) (sn : List Str) (sub : List Value) (ab : Bool)
    (col : Option Bool) (dd : Option Addr) (k0 k1 k2 k3 k5 : Option Value) (newId : String),
    K.lookup C = some (excClassObj nm q C N bs [.type "object"] hdct sn sub ab col dd k0 k1 k2 k3 k5 newId) ∧
    PySem.W.nsOkIn K N = true ∧ PySem.W.nsIn K N "__eq__" = some (some (.ref f)) ∧ PySem.W.nsIn K N "__ne__" = some none
  at_ : PySem.W.findIn K (.ref C) "__eq__" = some (some (.ref f))
  fn : PySem.W.isFn K (.ref f) = true

/-- kinds of the right side: what == asks of its type -/
def Kind (K : PySem.W.Frag) (C : Addr) (x : V) (H : Hp) : Prop :=
  (x = .non ∧ PySem.W.notFirst K C (.type "NoneType") = true) ∨ (∃ b, x = .bl b ∧ PySem.W.notFirst K C (.type "bool") = true) ∨
  (∃ i, x = .int i ∧ PySem.W.notFirst K C (.type "int") = true) ∨ (∃ t, x = .str t ∧ PySem.W.notFirst K C (.type "str") = true) ∨
  (∃ a xs, x = .ref a ∧ H a = some (.lst xs) ∧ PySem.W.notFirst K C (.type "list") = true) ∨
  (∃ a xs, x = .ref a ∧ H a = some (.tup xs) ∧ PySem.W.notFirst K C (.type "tuple") = true) ∨
  (∃ a xs, x = .ref a ∧ H a = some (.dK xs) ∧ PySem.W.notFirst K C (.type "dict") = true) ∨
  (∃ a D dx fs, x = .ref a ∧ H a = some (.ins D dx fs) ∧ PySem.W.notFirst K C (.ref D) = true)
section
variable {X : Cx} {pins : List (Addr × Obj)} {σ : L2.St} {H : Hp} {s : Shared} {C : Addr}
theorem looks_kind {x : V} {u : Value} (I : Inv X pins σ H s) (rx : RelV x u) (k : Kind X.K C x H) :
    ∃ tb, (∀ M, PySem.W.Looks M s.heap (typeOf u) tb) ∧ PySem.W.notFirst X.K C tb = true := by
  have of_obj : ∀ {a : Addr} {o : Obj}, s.heap.get? a = some o → ∀ M, PySem.W.Looks M s.heap (typeOf (.ref a)) o.cls := by
    intro a o e M
    exact (PySem.W.Looks.ld e).andThen .now
  rcases k with ⟨rfl, n⟩ | ⟨b, rfl, n⟩ | ⟨i, rfl, n⟩ | ⟨t, rfl, n⟩ | ⟨a, xs, rfl, e, n⟩ | ⟨a, xs, rfl, e, n⟩ | ⟨a, xs, rfl, e, n⟩ | ⟨a, D, dx, fs, rfl, e, n⟩
  · cases rx
    exact ⟨_, fun M => PySem.W.Looks.of_pure rfl, n⟩
  · cases rx
    exact ⟨_, fun M => PySem.W.Looks.of_pure rfl, n⟩
  · obtain ⟨t, rfl⟩ := rx
    exact ⟨_, fun M => PySem.W.Looks.of_pure rfl, n⟩
  · obtain ⟨t', rfl⟩ := rx
    exact ⟨_, fun M => PySem.W.Looks.of_pure rfl, n⟩
  · cases rx
    obtain ⟨_, its, m, _, e1⟩ := I.hok a _ e
    exact ⟨_, of_obj e1, n⟩
  · cases rx
    obtain ⟨_, its, _, ob, e1, c, _⟩ := I.hok a _ e
    have z := of_obj e1
    rw [c] at z
    exact ⟨_, z, n⟩
  · cases rx
    obtain ⟨_, _, vs, _, ob, es, ep, e1, c, _⟩ := I.hok a _ e
    have z := of_obj e1
    rw [c.1] at z
    exact ⟨_, z, n⟩
  · cases rx
    obtain ⟨mA, J, _⟩ := ins_get I.hok e
    obtain ⟨od, J, _⟩ := J.look
    exact ⟨_, fun M => J.type, n⟩

/-- x == y, x an instance of the class at C -/
def rEqO (C : Addr) (sp : Sp) (K : PySem.W.Frag) : R2 := fun x y H Q => ∃ a dx fs, x = .ref a ∧ H a = some (.ins C dx fs) ∧ Kind K C y H ∧
  sp [x, y] H (fun v H' => ∃ b, v = .bl b ∧ Q (.bl b) H') E0
def rNeO (C : Addr) (sp : Sp) : R2 := fun x y H Q => ∃ a b dx dy fs gs, x = .ref a ∧ y = .ref b ∧ H a = some (.ins C dx fs) ∧
  H b = some (.ins C dy gs) ∧ sp [x, y] H (fun v H' => ∃ b, v = .bl b ∧ Q (.bl (!b)) H') E0
variable {k : Nat} {f : Addr} {fd : FuncData} {ps : List Str} {sp : Sp}
/-- the call of the own __eq__ -/
theorem run_eq (F : FnOk X.prog X.w X.K X.mg X.base CX0 k f fd ps sp) {A : Around} (hr : Room k A) (hf : A.frames = X.A.frames)
    (hb : Binds X.K fd ps []) (I : Inv X pins σ H s) {x y : V} {u v : Value} (rx : RelV x u) (ry : RelV y v) {Q : VK} {E : Value → Shared → Prop}
    (h : sp [x, y] H Q E0) : wpAny (model X.prog X.w) A (call (.ref f) [u, v]) (EP X pins σ Q) E s := by
  have e0 : Env0 X.prog X.w X.K X.mg X.base A X.stack s H := by
    have e := I.env0
    exact ⟨hf.trans e.frames, e.mod, e.bs, e.bsz, e.funs, e.frf, e.hok, e.bare⟩
  have hl := F.len _ _ _ _ h
  have hbd := hb s [u, v] I.kIn hl
  refine wpAny_call (codeAny_mono (F.run A X.stack s H ⟨[u, v], []⟩ [u, v] [x, y] _ E0 hr e0 hbd (.cons rx (.cons ry .nil)) h) ?_)
  intro r s' hq
  cases r with
  | error e => exact hq.elim
  | ok fl =>
    cases fl with
    | ret w => exact I.after hq
    | next => exact False.elim hq
    | brk => exact False.elim hq
    | cont => exact False.elim hq
theorem op_eqO (F : FnOk X.prog X.w X.K X.mg X.base CX0 k f fd ps sp) (hr : Room k X.A) (c : EqCls X.K C f) (hb : Binds X.K fd ps []) :
    OpR X (compareOp .Eq) (rEqO C sp X.K) := by
  intro pins s σ H x y v u Q I rx ry hq
  obtain ⟨a, dx, fs, rfl, ha, hk, h⟩ := hq
  cases rx
  obtain ⟨tb, ht, hn⟩ := looks_kind I ry hk
  obtain ⟨mA, J, _⟩ := ins_get I.hok ha
  obtain ⟨od, J, _⟩ := J.look
  obtain ⟨m, hF⟩ := I.fr
  show wpAny (model X.prog X.w) X.A (richCompare .Eq (.ref a) u) (EP X pins σ Q) X.xe s
  refine PySem.W.cmp_K (op := .Eq) hr.units0 hF I.ok.mod.kin J (ht _) hn c.at_ c.fn ?_
  refine thn (run_eq F hr rfl hb I (x := .ref a) rfl ry h) ?_
  rintro w s' ⟨z, H', I', rz, b, ez, q⟩
  subst ez
  cases rz
  exact ⟨.bl b, H', I', rfl, q⟩
theorem op_neO (F : FnOk X.prog X.w X.K X.mg X.base CX0 k f fd ps sp) (hr : Room (k + 1) X.A) (c : EqCls X.K C f) (hb : Binds X.K fd ps []) :
    OpR X (compareOp .NotEq) (rNeO C sp) := by
  intro pins s σ H x y v u Q I rx ry hq
  obtain ⟨a, b, dx, dy, fs, gs, rfl, rfl, ha, hb', h⟩ := hq
  cases rx
  cases ry
  obtain ⟨nm, q, N, bs, hdct, sn, sub, ab, col, dd, k0, k1, k2, k3, k5, newId, hC, hN, he, hne⟩ := c.cls
  have KX := I.kIn
  obtain ⟨_, _, _, oa, _⟩ := I.hok a _ ha
  obtain ⟨_, _, _, ob, _⟩ := I.hok b _ hb'
  have hns : s.heap.Ns N (s.heap.nsMap N) := .of_isNs (PySem.W.isNs_of_in KX hN)
  have me : s.heap.nsMap N "__eq__" = some (.ref f) := by
    obtain ⟨o, es, ep, ho, hd, _, hf⟩ := hns
    have z := he
    unfold PySem.W.nsIn at z
    split at z
    · rename_i c' d' es' n' sl' q'
      have w := KX _ _ q'
      rw [ho] at w
      cases w
      cases hd
      split at z
      · rename_i e' he'
        rw [← hf]
        unfold nsFind findBy
        rw [← Array.find?_toList, he']
        exact (Option.some.inj z)
      · split at z <;> cases z
    · cases z
  have mn : s.heap.nsMap N "__ne__" = none := PySem.W.nsMap_none_of_in KX hN hne
  have hfo : ∃ of, s.heap.get? f = some of ∧ of.cls = .type "function" := by
    have z : (X.K.lookup f).map (·.cls) = some (Value.type "function") := beq_iff_eq.mp c.fn
    cases q : X.K.lookup f with
    | none =>
      rw [q] at z
      cases z
    | some o =>
      rw [q] at z
      exact ⟨o, KX _ _ q, Option.some.inj z⟩
  obtain ⟨of, hof, hoc⟩ := hfo
  have OE : s.heap.OwnEqNoNe a C f "object" [.type "object"] :=
    ⟨_, of, nm, q, N, bs, hdct, sn, sub, ab, col, dd, k0, k1, k2, k3, k5, newId, _, _, oa, rfl, KX _ _ hC, hns, me, hof, hoc, PySem.F.cmp_object.mro, PySem.F.cmp_object.eq.lookup, mn⟩
  obtain ⟨hh, g, d, t, os⟩ := s
  refine compareOp_ne_ownEq PySem.F.cmp_object OE ob rfl (by have := hr.un; omega) ?_
  refine wpAny_mono (run_eq F hr.in1 rfl hb I (x := .ref a) (y := .ref b) rfl rfl h) ?_ (fun _ _ e => e)
  rintro w s' ⟨z, H', I', rz, c', ez, q'⟩
  subst ez
  cases rz
  exact ⟨c', rfl, .bl _, H', I', rfl, q'⟩
end
end Ask

set_option Elab.async false
set_option linter.all false
set_option maxRecDepth 100000
set_option maxHeartbeats 2000000
/-! what the written part holds of a def, a method, a class -/
namespace Ask
open PySem L2
open PyProof.Rows
def kinds : List String := ["NoneType", "bool", "int", "str", "list", "tuple", "dict"]
/-- what isinstance asks of the class of an instance, and of other kinds beside it -/
structure InsTy (K : PySem.W.Frag) (C : Addr) : Prop where
  ha : PySem.W.findIn K (.ref C) "__class__" = some (some (.builtin "object.__class__"))
  hn : PySem.W.specialIn K (.builtin "object.__class__") "__get__" = some (some (.builtin "getset_descriptor.__get__"))
  ht : PySem.W.takesIn K (.builtin "object.__class__") = some true
  hm : PySem.W.mroIn K C (.type "object") = some true
  kt : ∀ t ∈ kinds, PySem.W.kitOne K (.type t) (.ref C) = some false
theorem InsTy.of {K : PySem.W.Frag} {C a dx : Addr} {fs : List (Str × V)} {H : Hp} (i : InsTy K C) (c : Cls K C) (e : H a = some (.ins C dx fs)) :
    TyX K H (.ref a) (.ref C) := .base (.ins e c i.ha i.hn i.ht i.hm)
theorem pe_gi {X : Cx} {x : Str} {pos : Pos} {v : V} (hg : Gl X x) (h : ∃ u, X.mg x = some u ∧ RelV v u)
    (hd : (x == ("__debug__" : Str)) = false := by decide) : PE X (.Name x pos) (tC v) := by
  obtain ⟨u, hm, r⟩ := h
  exact pe_glob hg hm r hd
theorem nsOk_of {K : PySem.W.Frag} {N : Addr} {oc : Value} {od : Option Addr} {es : Array DictEntry} {n : Nat} {sl : Array (Option Value)}
    (l : K.lookup N = some ⟨oc, od, .dict es n, sl⟩) (r : (es.toList.all fun e => match e.key with | .str _ _ => true | _ => false) = true) : PySem.W.nsOkIn K N = true := by
  unfold PySem.W.nsOkIn
  rw [l]
  rw [Array.all_toList] at r
  exact r
theorem kit_not {K : PySem.W.Frag} {C : Addr} {t : String} (i : PySem.W.isClsIn K C = true) (ty : PySem.W.typeIn K (.ref C) = some (.type "type"))
    (s : PySem.W.subIn K (.type t) (.ref C) = some false) : PySem.W.kitOne K (.type t) (.ref C) = some false := by
  have i' : (PySem.W.clsIn K C).isSome = true := i
  unfold PySem.W.kitOne
  rw [if_neg (by simp)]
  show (if ((PySem.W.clsIn K C).isSome && PySem.W.typeIn K (.ref C) == some (.type "type")) = true then _ else _) = _
  rw [i', ty]
  exact s
theorem kit_self {K : PySem.W.Frag} {C : Addr} : PySem.W.kitOne K (.ref C) (.ref C) = some true := by
  unfold PySem.W.kitOne
  rw [if_pos (by simp)]
section
variable {K : PySem.W.Frag} {h : Heap} {mg : Str → Option Value} {x qual : Str} {st : Stmt} {f p C : Addr}
  {oc kV doc pm cdv ct mc : Value} {od an : Option Addr} {osl : Array (Option Value)} {rest : List Value}
/-- the def st, with no positional defaults, as the object of K -/
def DefAt (K : PySem.W.Frag) (x qual : Str) (st : Stmt) (f : Addr) (oc : Value) (od : Option Addr) (kV doc pm : Value)
    (an : Option Addr) (cdv ct : Value) (osl : Array (Option Value)) : Prop :=
  K.lookup f = some ⟨oc, od, .func (PySem.W.fnOf x qual (defArgs st) (defBody st) (defScope st) .none kV doc pm an cdv ct), osl⟩
theorem fun_get (X : K.In h) (G : h.Ns mainGlobals mg) (a : PySem.W.nsIn K mainGlobals x = some (some (.ref f)))
    (l : K.lookup f = some ⟨oc, od, .func (PySem.W.fnOf x qual (defArgs st) (defBody st) (defScope st) .none kV doc pm an cdv ct), osl⟩)
    (c : PySem.W.codeIn K cdv qual = true) (k : PySem.W.keepIn K (.ref f) = true) :
    ∃ f fd, Fun K x qual st f fd ∧ mg x = some (.ref f) := ⟨f, _, fun_mk l c k, PySem.W.mg_of X G a⟩
theorem meth_get (X : K.In h) (a : PySem.W.findIn K (.ref C) x = some (some (.ref f))) (i : PySem.W.isFn K (.ref f) = true)
    (l : K.lookup f = some ⟨oc, od, .func (PySem.W.fnOf x qual (defArgs st) (defBody st) (defScope st) .none kV doc pm an cdv ct), osl⟩)
    (c : PySem.W.codeIn K cdv qual = true) (k : PySem.W.keepIn K (.ref f) = true) :
    ∃ f fd, Fun K x qual st f fd ∧ Meth K C x f := ⟨f, _, fun_mk l c k, ⟨a, i, k⟩⟩
theorem prop_get (X : K.In h) (a : PySem.W.findIn K (.ref C) x = some (some (.ref p)))
    (g : PySem.W.specialIn K (.ref p) "__get__" = some (some (.builtin "property.__get__"))) (t : PySem.W.takesIn K (.ref p) = some true)
    (r : PySem.W.recIn K p "property" = some (.ref f :: rest))
    (l : K.lookup f = some ⟨oc, od, .func (PySem.W.fnOf x qual (defArgs st) (defBody st) (defScope st) .none kV doc pm an cdv ct), osl⟩)
    (c : PySem.W.codeIn K cdv qual = true) (k : PySem.W.keepIn K (.ref f) = true) :
    ∃ f fd p, Fun K x qual st f fd ∧ PropOf K C x p f := ⟨f, _, p, fun_mk l c k, ⟨a, g, t, rest, r⟩⟩
theorem stat_get (X : K.In h) (a : PySem.W.findCls K (.ref C) mc x = some (.get (.builtin "staticmethod.__get__") (.ref p) .none (.ref C)))
    (r : PySem.W.recIn K p "staticmethod" = some (.ref f :: rest))
    (l : K.lookup f = some ⟨oc, od, .func (PySem.W.fnOf x qual (defArgs st) (defBody st) (defScope st) .none kV doc pm an cdv ct), osl⟩)
    (c : PySem.W.codeIn K cdv qual = true) (k : PySem.W.keepIn K (.ref f) = true) :
    ∃ f fd p, Fun K x qual st f fd ∧ SMet K C mc x p f := ⟨f, _, p, fun_mk l c k, ⟨a, ⟨rest, r⟩, k⟩⟩
/-- __init__ with one keyword-only parameter of a default that is an int -/
theorem init_get {D : Addr} {y : Str} {i : Int} {t : Tok} (X : K.In h) (mk : PySem.W.makesIn K C = true) (kc : PySem.W.keepIn K (.ref C) = true)
    (a : PySem.W.findIn K (.ref C) "__init__" = some (some (.ref f))) (i1 : PySem.W.isFn K (.ref f) = true)
    (l : K.lookup f = some ⟨oc, od, .func (PySem.W.fnOf "__init__" qual (defArgs st) (defBody st) (defScope st) .none (.ref D) doc pm an cdv ct), osl⟩)
    (c : PySem.W.codeIn K cdv qual = true) (k : PySem.W.keepIn K (.ref f) = true)
    (q : PySem.W.nsIn K D y = some (some (.int i t))) :
    ∃ f fd, FunD K "__init__" qual (defArgs st) (defBody st) (defScope st) [] [(y, V.int i)] f fd ∧ Mk K C f := by
  refine ⟨f, _, ⟨⟨oc, od, .none, .ref D, doc, pm, an, cdv, ct, osl, rfl, l, c, .inl ⟨rfl, rfl⟩, .inr ⟨D, rfl, ?_⟩⟩, k⟩, ⟨mk, a, i1, kc⟩⟩
  intro z hz
  obtain rfl := List.mem_singleton.mp hz
  exact ⟨_, q, t, rfl⟩
theorem init_get0 (X : K.In h) (mk : PySem.W.makesIn K C = true) (kc : PySem.W.keepIn K (.ref C) = true)
    (a : PySem.W.findIn K (.ref C) "__init__" = some (some (.ref f))) (i1 : PySem.W.isFn K (.ref f) = true)
    (l : K.lookup f = some ⟨oc, od, .func (PySem.W.fnOf "__init__" qual (defArgs st) (defBody st) (defScope st) .none kV doc pm an cdv ct), osl⟩)
    (c : PySem.W.codeIn K cdv qual = true) (k : PySem.W.keepIn K (.ref f) = true) :
    ∃ f fd, Fun K "__init__" qual st f fd ∧ Mk K C f := ⟨f, _, fun_mk l c k, ⟨mk, a, i1, kc⟩⟩
theorem cls_get (X : K.In h) (G : h.Ns mainGlobals mg) (a : PySem.W.nsIn K mainGlobals x = some (some (.ref C)))
    (pg : PySem.W.plainGet K C Str.empty = true) (hd : PySem.W.hasDictIn K C = true) (po : PySem.W.plainOver K C = true)
    (sa : PySem.W.findIn K (.ref C) "__setattr__" = some (some (.builtin "object.__setattr__")))
    (rd : PySem.W.readsIn K C (.type "type") = true) (ga : PySem.W.specialIn K (.ref C) "__getattribute__" = some (some (.builtin "type.__getattribute__"))) :
    ∃ C, mg x = some (.ref C) ∧ Cls K C ∧ ClX.CRead K C (.type "type") ∧ PySem.W.nsIn K mainGlobals x = some (some (.ref C)) :=
  ⟨C, PySem.W.mg_of X G a, ⟨pg, hd, po, sa⟩, ⟨rd, ga⟩, a⟩
theorem eq_get {nm q : Str} {N : Addr} {bs : List Value} {hdct : Bool} {sn : List Str} {sub : List Value} {ab : Bool}
    {col : Option Bool} {dd : Option Addr} {k0 k1 k2 k3 k5 : Option Value} {newId : String}
    (l : K.lookup C = some (excClassObj nm q C N bs [.type "object"] hdct sn sub ab col dd k0 k1 k2 k3 k5 newId))
    (n : PySem.W.nsOkIn K N = true) (e : PySem.W.nsIn K N "__eq__" = some (some (.ref f))) (ne : PySem.W.nsIn K N "__ne__" = some none)
    (a : PySem.W.findIn K (.ref C) "__eq__" = some (some (.ref f))) (i : PySem.W.isFn K (.ref f) = true) : EqCls K C f :=
  ⟨⟨nm, q, N, bs, hdct, sn, sub, ab, col, dd, k0, k1, k2, k3, k5, newId, l, n, e, ne⟩, a, i⟩
theorem glob_get {v : V} {u : Value} (X : K.In h) (G : h.Ns mainGlobals mg) (a : PySem.W.nsIn K mainGlobals x = some (some u)) (r : RelV v u) :
    ∃ u, mg x = some u ∧ RelV v u := ⟨u, PySem.W.mg_of X G a, r⟩
/-- the globals that are not bound: built-in names -/
theorem blt_get (X : K.In h) (G : h.Ns mainGlobals mg) (a : PySem.W.nsIn K mainGlobals x = some none) : mg x = none := PySem.W.mg_none_of X G a
end
end Ask

set_option Elab.async false
set_option linter.all false
set_option maxRecDepth 100000
set_option maxHeartbeats 2000000
/-! the pen of a law: its promises; ints as data -/
namespace Ask
open PySem L2
open PyProof.Rows
/-! ### the pen: a list of a list of ints, a place and what is left of the last cell -/
/-- at p stands a pen over the list at l, that has been at i places -/
def Pen (H : Hp) (p : Addr) (n : Nat) : Prop :=
  ∃ (l : Addr) (i v : Int) (ns : List Int), H p = some (.lst [.ref l, .int i, .int v]) ∧
    H l = some (.lst (ns.map V.int)) ∧ 0 ≤ i ∧ i ≤ (n : Int) ∧ 0 ≤ v ∧ ns.length ≤ 100000

/-- all but what stands at p is as it was -/
def But (p : Addr) (H H' : Hp) : Prop := ∀ b o, b ≠ p → H b = some o → H' b = some o
theorem But.refl (p : Addr) (H : Hp) : But p H H := fun _ _ _ e => e
theorem But.trans {p : Addr} {H H1 H2 : Hp} (a : But p H H1) (b : But p H1 H2) : But p H H2 :=
  fun c o h e => b c o h (a c o h e)
theorem But.upd {p : Addr} {H : Hp} {o : HO} : But p H (upd H p o) := fun b u h e => by
  rw [upd_ne h]
  exact e
theorem But.new {p q : Addr} {H : Hp} {o : HO} (h : H q = none) : But p H (L2.upd H q o) := fun b u _ e => by
  rw [upd_ne (ne_of_none e h)]
  exact e
theorem But.seq {K : PySem.W.Frag} {p a : Addr} {H H' : Hp} {xs : List V} (e : But p H H') (hp : a ≠ p)
    (h : SqL K H a xs) : SqL K H' a xs := by
  rcases h with (h | ⟨o, h⟩) | h
  · exact .inl (.inl (e _ _ hp h))
  · exact .inl (.inr ⟨o, e _ _ hp h⟩)
  · exact .inr h

/-- _law_pen(script) -/
def spPen (K : PySem.W.Frag) : Sp := fun vs H Q _ => ∃ (a : Addr) (ns : List Int), vs = [.ref a] ∧
  SqL K H a (ns.map V.int) ∧ ns.length ≤ 63 ∧ ∀ p H', H p = none → But p H H' → Pen H' p 0 → Q (.ref p) H'
/-- _law_next(pen) -/
def spNext : Sp := fun vs H Q _ => ∃ (p : Addr) (n : Nat) (l : Addr) (i v : Int) (ns : List Int), vs = [.ref p] ∧
  H p = some (.lst [.ref l, .int i, .int v]) ∧ H l = some (.lst (ns.map V.int)) ∧ 0 ≤ i ∧ i ≤ (n : Int) ∧ n ≤ 1000000 ∧ ns.length ≤ 100000 ∧
  ∀ z : Int, 0 ≤ z → ∀ H', But p H H' → H' p = some (.lst [.ref l, .int (i + 1), .int v]) → Q (.int z) H'
/-- _law_draw(pen, below) -/
def spDraw : Sp := fun vs H Q _ => ∃ (p : Addr) (n : Nat) (b : Int), vs = [.ref p, .int b] ∧ Pen H p n ∧ n ≤ 1000000 ∧
  0 < b ∧ b < 2 ^ 200 ∧ ∀ (z : Int) H', 0 ≤ z → z < b → But p H H' → Pen H' p (n + 1) → Q (.int z) H'

theorem cut_ints (ns : List Int) (k : Nat) : cutV (ns.map V.int) none (some (k : Int)) = (ns.take k).map V.int := by
  unfold cutV
  rw [HT.sIx_none, HT.sIx_nat, List.drop_zero, List.length_map, Nat.sub_zero, ← List.map_take]
  congr 1
  by_cases h : k ≤ ns.length
  · rw [Nat.min_eq_left h]
  · rw [Nat.min_eq_right (by omega), List.take_of_length_le (Nat.le_refl _), List.take_of_length_le (by omega)]
theorem But.of {p q : Addr} {H H' : Hp} {o : HO} (h : But p H H') (n : H q = none) : But p H (L2.upd H' q o) := fun b u hb e => by
  rw [upd_ne (ne_of_none e n)]
  exact h b u hb e
theorem But.same {p : Addr} {H H' : Hp} (h : But p H H') (n : H p = none) : Same H H' := fun b u e => h b u (ne_of_none e n) e
theorem Same.new {q : Addr} {H : Hp} {o : HO} (h : H q = none) : Same H (L2.upd H q o) := fun b u e => by
  rw [upd_ne (ne_of_none e h)]
  exact e
theorem Same.of {q : Addr} {H H' : Hp} {o : HO} (h : Same H H') (n : H q = none) : Same H (L2.upd H' q o) := fun b u e => by
  rw [upd_ne (ne_of_none e n)]
  exact h b u e
theorem Same.grow {q : Addr} {H H' : Hp} {o : HO} (h : Same H H') (n : H' q = none) : Same H (L2.upd H' q o) := Same.of h (h.free n)
theorem Same.but {p : Addr} {H H' : Hp} (h : Same H H') : But p H H' := fun b u _ e => h b u e
theorem dp_ints {K : PySem.W.Frag} {H : Hp} : ∀ ns : List Int, DpAll K H (ns.map V.int) (ns.map PyData.int)
  | [] => .nil
  | n :: ns => .cons (.int n) (dp_ints ns)
theorem lay_ints : ∀ ns : List Int, PyData.canLayAll0 (ns.map PyData.int) = true
  | [] => rfl
  | n :: ns => by
    rw [List.map_cons]
    unfold PyData.canLayAll0
    rw [lay_ints ns]
    rfl
theorem dep_ints : ∀ ns : List Int, PyData.depthAll (ns.map PyData.int) ≤ 1
  | [] => by decide
  | n :: ns => by
    have := dep_ints ns
    rw [List.map_cons]
    unfold PyData.depthAll
    unfold PyData.depth
    omega
theorem shaped_ints (ns : List Int) : SeqAt.shaped (.list (ns.map PyData.int)) = true := by
  unfold SeqAt.shaped
  unfold PyData.canLay0
  rw [lay_ints]
  have := dep_ints ns
  unfold PyData.depth
  rw [decide_eq_true (by omega)]
  rfl
theorem ne_nil (ns : List Int) : (!PyData.eqv (.list (ns.map PyData.int)) (.list [])) = !ns.isEmpty := by
  cases ns with
  | nil => rfl
  | cons n ns => rfl
theorem ints_at {ns : List Int} {j : Nat} (h : j < ns.length) : ∃ c, (ns.map V.int)[j]? = some (.int c) :=
  ⟨ns[j], by rw [List.getElem?_map, List.getElem?_eq_getElem h]; rfl⟩
theorem mod_below (i : Int) {n : Nat} (hn : 0 < n) : ∃ j : Nat, i % (n : Int) = (j : Int) ∧ j < n := by
  have h1 := Int.emod_nonneg i (show (n : Int) ≠ 0 by omega)
  have h2 := Int.emod_lt_of_pos i (show (0 : Int) < (n : Int) by omega)
  exact ⟨(i % (n : Int)).toNat, by omega, by omega⟩

theorem rd_ixL {K : PySem.W.Frag} {H : Hp} {p : Addr} {xs : List V} {v : V} {R : V → Prop} (j : Nat) (h : H p = some (.lst xs)) (hx : xs[j]? = some v) (k : R v) :
    ∃ p' xs' i v', V.ref p = V.ref p' ∧ V.int (j : Int) = V.int i ∧ SqL K H p' xs' ∧ atI xs' i = some v' ∧ R v' :=
  ⟨p, xs, _, v, rfl, rfl, SqL.of h, atI_nat hx, k⟩
end Ask

set_option Elab.async false
set_option linter.all false
set_option maxRecDepth 100000
set_option maxHeartbeats 2000000
/-! data whose text is short -/
namespace Ask
open PySem L2
open PyProof.Rows
/-- data that can be shown, with a text of at most n signs -/
structure Shows (n : Nat) (d : PyData) : Prop where
  can : d.showable = true
  nod : d.hasDict = false
  dep : d.depth ≤ 20
  len : d.shown.length ≤ n
theorem showAll : ∀ ds : List PyData, (∀ d ∈ ds, d.showable = true) → PyData.showableAll ds = true
  | [], _ => rfl
  | d :: ds, h => by
    unfold PyData.showableAll
    rw [h d List.mem_cons_self, showAll ds fun x hx => h x (List.mem_cons_of_mem _ hx)]
    rfl
theorem nodAll : ∀ ds : List PyData, (∀ d ∈ ds, d.hasDict = false) → PyData.hasDictAll ds = false
  | [], _ => rfl
  | d :: ds, h => by
    unfold PyData.hasDictAll
    rw [h d List.mem_cons_self, nodAll ds fun x hx => h x (List.mem_cons_of_mem _ hx)]
    rfl
theorem depAll {k : Nat} : ∀ ds : List PyData, (∀ d ∈ ds, d.depth ≤ k) → PyData.depthAll ds ≤ k
  | [], _ => by
    unfold PyData.depthAll
    exact Nat.zero_le _
  | d :: ds, h => by
    have h1 := h d List.mem_cons_self
    have h2 := depAll ds fun x hx => h x (List.mem_cons_of_mem _ hx)
    unfold PyData.depthAll
    omega
theorem lenAll {n : Nat} : ∀ ds : List PyData, (∀ d ∈ ds, d.shown.length ≤ n) → ((PyData.shownAll ds).map (·.length)).sum ≤ n * ds.length ∧ (PyData.shownAll ds).length = ds.length
  | [], _ => by
    unfold PyData.shownAll
    exact ⟨Nat.zero_le _, rfl⟩
  | d :: ds, h => by
    have h1 := h d List.mem_cons_self
    have h2 := lenAll ds fun x hx => h x (List.mem_cons_of_mem _ hx)
    unfold PyData.shownAll
    rw [List.map_cons, List.sum_cons, List.length_cons, List.length_cons, Nat.mul_succ]
    exact ⟨by omega, by omega⟩
/-- a list of such -/
theorem shows_list {n k : Nat} {ds : List PyData} (h : ∀ d ∈ ds, Shows n d) (hd : ∀ d ∈ ds, d.depth ≤ 18) (hn : ds.length ≤ k) : Shows (n * k + 2 * k + 3) (.list ds) where
  can := by
    unfold PyData.showable
    exact showAll ds fun d hx => (h d hx).can
  nod := by
    unfold PyData.hasDict
    exact nodAll ds fun d hx => (h d hx).nod
  dep := by
    have z := depAll ds hd
    unfold PyData.depth
    omega
  len := by
    have z := lenAll ds fun d hx => (h d hx).len
    have y := listText_len_le (PyData.shownAll ds)
    have m : n * ds.length ≤ n * k := Nat.mul_le_mul_left n hn
    unfold PyData.shown
    omega
theorem shows_bool (b : Bool) : Shows 5 (.bool b) := by
  refine ⟨rfl, rfl, ?_, ?_⟩
  · unfold PyData.depth
    omega
  · cases b <;> decide +kernel
theorem dp_bls {K : PySem.W.Frag} {H : Hp} : ∀ bs : List Bool, DpAll K H (bs.map V.bl) (bs.map PyData.bool)
  | [] => .nil
  | b :: bs => .cons (.bl b) (dp_bls bs)
theorem dep_bools (bs : List Bool) : ∀ d ∈ bs.map PyData.bool, d.depth ≤ 18 := fun d hd => by
  obtain ⟨b, _, rfl⟩ := List.mem_map.mp hd
  unfold PyData.depth
  omega
theorem shows_bools {k : Nat} (bs : List Bool) (h : bs.length ≤ k) : Shows (5 * k + 2 * k + 3) (.list (bs.map PyData.bool)) :=
  shows_list (fun d hd => by
    obtain ⟨b, _, rfl⟩ := List.mem_map.mp hd
    exact shows_bool b) (dep_bools bs) (by rw [List.length_map]; exact h)
/-- repr of such, as a call asks it -/
theorem repr_ask {K : PySem.W.Frag} {H : Hp} {v : V} {d : PyData} {n : Nat} {Q : VK} (s : Shows n d) (hn : n ≤ sizeLine) (h : Dp K H v d) (q : Q (.str d.shown) H) : rRepr K [v] H Q :=
  ⟨v, d, rfl, h, s.can, s.nod, Nat.le_trans s.dep (by decide), Nat.le_trans s.len hn, q⟩
theorem repr_bools {K : PySem.W.Frag} {H : Hp} {t : Addr} {xs : List V} {R : PyData → Prop} (bs : List Bool) (h : H t = some (.lst xs)) (e : xs = bs.map V.bl) (n : bs.length ≤ 100)
    (q : R (PyData.list (bs.map PyData.bool))) :
    ∃ (v : V) (d : PyData), [V.ref t] = [v] ∧ Dp K H v d ∧ d.showable = true ∧ d.hasDict = false ∧ d.depth ≤ 60 ∧ d.shown.length ≤ sizeLine ∧ R d := by
  subst e
  have s := shows_bools bs n
  exact ⟨_, _, rfl, .lst (SqL.of h) (dp_bls bs), s.can, s.nod, Nat.le_trans s.dep (by decide), Nat.le_trans s.len (by decide), q⟩
end Ask

set_option Elab.async false
set_option linter.all false
set_option maxRecDepth 100000
set_option maxHeartbeats 2000000
/-! a class that a local name holds, made; a classmethod called by keywords -/
namespace Ask
open PySem L2
open PyProof.Rows
/-- the i-th slot holds the class at C -/
def tMakeL (i : Nat) (C : Addr) (sp : Sp) (dvs : List V) (E : XK) (t : TA) : TE := fun σ H Q =>
  σ[i]? = some (some (.ref C)) ∧ tMake C sp dvs E t σ H Q
section
variable {X : Cx} {CX : CXT} {k i : Nat} {C f p q g : Addr} {fd : FuncData} {ps ks : List Str} {sp : Sp} {dvs : List V}
  {ds : List Value} {E : XK} {x m : Str} {pos apos : Pos} {ppos : Pos} {e o : Expr} {es : List Expr} {t tk : TA} {ta : TE}
  {kws : List Keyword} {mc : Value} {pl : Sem Bool} {gg : List Value → List Value → List Value} {gV : List V → List V → List V}
theorem pe_makeL (M : Mk X.K C f) (F : FnOk X.prog X.w X.K X.mg X.base CX k f fd ps sp) (hr : Room (k + 1) X.A)
    (hN : X.N[i]? = some x) (hv : Vis X.env.scope x) (hb : Binds X.K fd ps ds) (hd : Vals dvs ds) (hx : Passes CX X E)
    (ha : PA X (e :: es) t) (hdb : (x == ("__debug__" : Str)) = false := by decide)
    (hcd : (x == ("__classdict__" : Str)) = false := by decide)
    (he : starEach (e :: es) X.env = (false, eval e X.env) :: starEach es X.env := by rfl)
    (hpl : (backTo pos (starEach es X.env)).any (·.1) = false := by rfl) :
    PE X (.Call (.Name x ppos) (e :: es) [] pos) (tMakeL i C sp dvs E t) := by
  refine ⟨fun pins s σ H Q I h => ?_⟩
  obtain ⟨hs, ht⟩ := h
  have hv' := (pe_var (pos := ppos) hN hv hdb hcd).run pins s σ H (fun v H1 => v = .ref C ∧ H1 = H) I ⟨.ref C, hs, rfl, rfl⟩
  refine wpAny_Call_Name_kw (thn hv' ?_)
  rintro u s1 ⟨v, H1, I1, r1, rfl, rfl⟩
  cases r1
  refine PySem.W.callWith_K (h₀ := X.base) I.ok.mod.kin M.kp (thn (ha.run pos pins s1 σ _ _ I1 ht) ?_) he hpl
  rintro us s2 ⟨vs, H2, I2, r, q⟩
  exact ⟨I2.kIn, run_make M F hr hb hd hx I2 r q⟩

/-- o.m(k = v, ..), m a classmethod of the class at C, by keywords alone -/
def tCMethK (C : Addr) (n : Nat) (sp : Sp) (gV : List V → List V → List V) (E : XK) (ta : TE) (tk : TA) : TE := fun σ H Q =>
  ta σ H fun x H1 => x = .ref C ∧ tk σ H1 fun zs H2 => zs.length = n ∧ sp (gV [.ref C] zs) H2 Q E
theorem pe_cmethK (he : PE X o ta) (r : ClX.CRead X.K C mc) (c : ClX.CMet X.K C mc m p g)
    (F : FnOk X.prog X.w X.K X.mg X.base CX k g fd ps sp) (hr : Room k X.A) (hb : KBn X.K fd ps 1 ks gg gV)
    (hx : Passes CX X E) (hkw : PK X kws tk)
    (hall : (backToKw pos (keywordEach kws X.env)).all (·.1.isSome) = true := by rfl)
    (hks : (backToKw pos (keywordEach kws X.env)).filterMap (·.1) = ks := by rfl)
    (hpl : ((backTo pos (starEach [] X.env)).any (·.1) || (backToKw pos (keywordEach kws X.env)).any (·.1.isNone)) = false := by rfl)
    (ht : eval (.Call (.Attribute o m apos) [] kws pos) X.env = (do
      let ov ← eval o X.env; standAt apos.atName
      let (f, first) ← holding [ov] (getMethod ov m pl)
      callWith pos f first (backTo pos (starEach [] X.env)) (backToKw pos (keywordEach kws X.env))) := by rfl) :
    PE X (.Call (.Attribute o m apos) [] kws pos) (tCMethK C ks.length sp gV E ta tk) := by
  refine ⟨fun pins s σ H Q I h => ?_⟩
  refine PySem.W.methodCall_KW (pl := pl) (thn (he.run pins s σ H _ I h) ?_) ht
  rintro u s1 ⟨x, H1, I1, rx, ex, q⟩
  subst ex
  obtain rfl : u = Value.ref C := rx
  refine ClX.getmethcm_ok I1 r c fun s2 I2 => ?_
  have hM : PySem.W.MethP X.K s1.heap.objs.size g (.ref C) s2.heap := ⟨ClX.pin_at I2, I2.kIn⟩
  refine PySem.W.callWith_of (P := PySem.W.MethP X.K s1.heap.objs.size g (.ref C)) hpl (PySem.W.keeps_M c.fi) (PyProof.Rows.evalArgs_kw2_nil hall (thn (hkw.run pos _ s2 σ H1 _ I2 q) ?_))
  rintro ws s3 ⟨zs, H2, I3, rz, l2, q2⟩
  refine ⟨⟨ClX.pin_at I3, I3.kIn⟩, ?_⟩
  rw [hks]
  have r2 : Vals (gV [.ref C] zs) (gg [.ref C] ws) := hb.rel (.cons rfl .nil) rz
  have run := F.run X.A X.stack s3 H2 ⟨[.ref C], ks.zip ws⟩ (gg [.ref C] ws) (gV [.ref C] zs) Q E hr I3.env0
    (hb.to s3 [.ref C] ws I3.kIn rfl (rz.length.symm.trans l2)) r2 q2
  refine wpAny_call (PySem.W.method_call (ClX.pin_at I3) (codeAny_mono run ?_))
  intro r s' hq
  have I4 := ClX.unpin I3
  cases r with
  | error e => exact hx pins σ H2 s3 e s' I4 hq
  | ok fl =>
    cases fl with
    | ret u => exact I4.after hq
    | next => exact False.elim hq
    | brk => exact False.elim hq
    | cont => exact False.elim hq
end
end Ask

set_option Elab.async false
set_option linter.all false
set_option maxRecDepth 100000
set_option maxHeartbeats 2000000
/-! the pen beside other objects; data whose text is short -/
namespace Ask
open PySem L2
open PyProof.Rows
theorem Pen.mono {H : Hp} {p : Addr} {n m : Nat} (h : Pen H p n) (e : n ≤ m) : Pen H p m := by
  obtain ⟨l, i, v, ns, h1, h2, h3, h4, h5⟩ := h
  exact ⟨l, i, v, ns, h1, h2, h3, by omega, h5⟩
/-- a new object beside the pen -/
theorem Pen.new {H : Hp} {p q : Addr} {n : Nat} {o : HO} (h : Pen H p n) (e : H q = none) : Pen (upd H q o) p n := by
  obtain ⟨l, i, v, ns, h1, h2, h3⟩ := h
  exact ⟨l, i, v, ns, by rw [upd_ne (ne_of_none h1 e)]; exact h1, by rw [upd_ne (ne_of_none h2 e)]; exact h2, h3⟩
/-- all kept -/
theorem Pen.same {H H' : Hp} {p : Addr} {n : Nat} (h : Pen H p n) (s : Same H H') : Pen H' p n := by
  obtain ⟨l, i, v, ns, h1, h2, h3⟩ := h
  exact ⟨l, i, v, ns, s _ _ h1, s _ _ h2, h3⟩
theorem Pen.ne {H : Hp} {p q : Addr} {n : Nat} {o : HO} (h : Pen H p n) (e : H q = some o) (ho : ∀ l i v, o ≠ .lst [.ref l, .int i, .int v]) : q ≠ p := by
  obtain ⟨l, i, v, ns, h1, _⟩ := h
  exact ne_of e h1 (ho l i v)
theorem Pen.ne0 {H : Hp} {p q : Addr} {n : Nat} (h : Pen H p n) (e : H q = none) : p ≠ q := by
  obtain ⟨l, i, v, ns, h1, _⟩ := h
  exact ne_of_none h1 e
/-- what stands where the pen does not, is where a new object cannot be -/
theorem But.free {H H' : Hp} {p q : Addr} {n : Nat} (h : But p H H') (hp : Pen H' p n) (e : H' q = none) : H q = none := by
  cases z : H q with
  | none => rfl
  | some o =>
    have y := h q o (Ne.symm (hp.ne0 e)) z
    rw [e] at y
    cases y
/-- an item of a written list at a drawn place -/
theorem at_drawn {xs : List V} {z : Int} {n : Int} (h0 : 0 ≤ z) (h1 : z < n) (hn : n = (xs.length : Int)) : ∃ v, atI xs z = some v ∧ v ∈ xs := by
  obtain ⟨j, rfl⟩ := Int.eq_ofNat_of_zero_le h0
  have hj : j < xs.length := by omega
  exact ⟨xs[j], atI_nat (List.getElem?_eq_getElem hj), List.getElem_mem hj⟩
/-- [e, ..][digit]: the list new at q, one draw, the digit's item -/
theorem Pen.pick {K : PySem.W.Frag} {H0 H H' : Hp} {p q : Addr} {n : Nat} {xs : List V} {z b : Int} (hp : Pen H p n) (hq : H q = none) (bb : But p (upd H q (.lst xs)) H')
    (z0 : 0 ≤ z) (z1 : z < b) (hb : b = (xs.length : Int)) (B : But p H0 H) : ∃ v, atI xs z = some v ∧ v ∈ xs ∧ SqL K H' q xs ∧ But p H0 H' := by
  obtain ⟨v, hv, hm⟩ := at_drawn z0 z1 hb
  exact ⟨v, hv, hm, SqL.of (bb q _ (Ne.symm (hp.ne0 hq)) upd_same), B.trans ((But.new hq).trans bb)⟩
theorem Shows.up {n m : Nat} {d : PyData} (s : Shows n d) (h : n ≤ m) : Shows m d := ⟨s.can, s.nod, s.dep, Nat.le_trans s.len h⟩
theorem shows_int {i : Int} (h : i.natAbs < 10 ^ 12) : Shows 13 (.int i) := by
  refine ⟨?_, rfl, ?_, PyData.shown_int_le h⟩
  · unfold PyData.showable
    exact decide_eq_true (Nat.lt_of_lt_of_le (PySem.Flt.log2_lt_of (by decide : 0 < 40) (Nat.lt_of_lt_of_le h (by decide))) (by decide))
  · unfold PyData.depth
    omega
theorem shows_none : Shows 4 .none := by
  refine ⟨rfl, rfl, ?_, by decide +kernel⟩
  unfold PyData.depth
  omega
/-- the data of a flat value -/
def flatD : V → PyData
  | .bl b => .bool b
  | .int i => .int i
  | .str x => .str x
  | _ => .none
def Flat : V → Prop
  | .non => True
  | .bl _ => True
  | .int i => i.natAbs < 10 ^ 12
  | .str x => Shows 20 (.str x)
  | _ => False
theorem Flat.shows : ∀ {v : V}, Flat v → Shows 20 (flatD v)
  | .non, _ => shows_none.up (by decide)
  | .bl b, _ => (shows_bool b).up (by decide)
  | .int i, h => (shows_int h).up (by decide)
  | .str x, h => h
theorem Flat.dep : ∀ {v : V}, Flat v → (flatD v).depth ≤ 18
  | .non, _ => by
    show PyData.depth _ ≤ 18
    unfold flatD PyData.depth
    omega
  | .bl b, _ => by
    unfold flatD PyData.depth
    omega
  | .int i, h => by
    unfold flatD PyData.depth
    omega
  | .str x, h => by
    unfold flatD PyData.depth
    omega
theorem Flat.dp {K : PySem.W.Frag} {H : Hp} : ∀ {v : V}, Flat v → Dp K H v (flatD v)
  | .non, _ => .non
  | .bl b, _ => .bl b
  | .int i, _ => .int i
  | .str x, _ => .str x
theorem dp_flats {K : PySem.W.Frag} {H : Hp} : ∀ {vs : List V}, (∀ v ∈ vs, Flat v) → DpAll K H vs (vs.map flatD)
  | [], _ => .nil
  | v :: vs, h => .cons (h v List.mem_cons_self).dp (dp_flats fun x hx => h x (List.mem_cons_of_mem _ hx))
theorem repr_flats {K : PySem.W.Frag} {H : Hp} {t : Addr} {R : PyData → Prop} {xs : List V} (h : H t = some (.lst xs)) (hf : ∀ v ∈ xs, Flat v) (n : xs.length ≤ 100)
    (q : R (PyData.list (xs.map flatD))) :
    ∃ (v : V) (d : PyData), [V.ref t] = [v] ∧ Dp K H v d ∧ d.showable = true ∧ d.hasDict = false ∧ d.depth ≤ 60 ∧ d.shown.length ≤ sizeLine ∧ R d := by
  have s := shows_list (n := 20) (k := 100) (ds := xs.map flatD) (fun d hd => by
    obtain ⟨v, hv, rfl⟩ := List.mem_map.mp hd
    exact (hf v hv).shows) (fun d hd => by
    obtain ⟨v, hv, rfl⟩ := List.mem_map.mp hd
    exact (hf v hv).dep) (by rw [List.length_map]; exact n)
  exact ⟨_, _, rfl, .lst (SqL.of h) (dp_flats hf), s.can, s.nod, Nat.le_trans s.dep (by decide), Nat.le_trans s.len (by decide), q⟩
/-- a call by keywords of a def without defaults -/
theorem Fun.kb {K : PySem.W.Frag} {x qual : Str} {st : Stmt} {f : Addr} {fd : FuncData} {ps : List Str} (F : L2.Fun K x qual st f fd) (n : Nat) (ks : List Str) (g : {α : Type} → List α → List α → List α)
    (hrel : ∀ {vs zs : List V} {us ws : List Value}, Vals vs us → Vals zs ws → Vals (g vs zs) (g us ws))
    (h : ∀ (kV doc pm : Value) (an : Option Addr) (cdv ct : Value) (us ws : List Value), us.length = n → ws.length = ks.length →
      bindArgs (PySem.W.fnOf x qual (defArgs st) (defBody st) (defScope st) .none kV doc pm an cdv ct) ⟨us, ks.zip ws⟩ = pure (ps.zip (g us ws))) :
    KBn K fd ps n ks (fun us ws => g us ws) (fun vs zs => g vs zs) := by
  obtain ⟨oc, od, kV, doc, pm, an, cdv, ct, osl, rfl, lk, hcd⟩ := F.ex
  exact ⟨fun s us ws X l1 l2 => BindsTo.of_looks fun M => PySem.W.Looks.of_pure (h kV doc pm an cdv ct us ws l1 l2), fun r1 r2 => hrel r1 r2⟩
theorem vals_drop : ∀ (j : Nat) {vs : List V} {us : List Value}, Vals vs us → Vals (vs.drop j) (us.drop j)
  | 0, _, _, h => h
  | _ + 1, _, _, .nil => .nil
  | j + 1, _, _, .cons _ h => vals_drop j h
theorem vals_take : ∀ (j : Nat) {vs : List V} {us : List Value}, Vals vs us → Vals (vs.take j) (us.take j)
  | 0, _, _, _ => .nil
  | _ + 1, _, _, .nil => .nil
  | j + 1, _, _, .cons a h => .cons a (vals_take j h)
end Ask

set_option Elab.async false
set_option linter.all false
set_option maxRecDepth 100000
set_option maxHeartbeats 2000000
/-! try: .. except x as n: .. n is kept in another name: behind the suite the error is an object of the heap -/
namespace Ask
open PySem PySem.Spec L2
open PyProof.Rows
/-- at a: an error of the class cls, its dict at d -/
def ExK (cls : Value) (d : Option Addr) (a : Addr) : HO := .ext fun h => ∃ (o : Obj) (vs : Array Value),
  h.get? a = some o ∧ Zc cls d o ∧ o.data = .fields vs
theorem exK_ok {P : Program} {w : World} {H : Hp} {h : Heap} {a : Addr} {cls : Value} {d : Option Addr} {o : Obj} {vs : Array Value}
    (e : h.get? a = some o) (z : Zc cls d o) (f : o.data = .fields vs) : ObjOk P w H h a (ExK cls d a) :=
  ⟨⟨o, vs, e, z, f⟩, ⟨o, e⟩, fun _ _ ⟨o1, v1, q, r⟩ k => ⟨o1, v1, k o1 q, r⟩⟩
theorem exK_at {P : Program} {w : World} {H : Hp} {h : Heap} {a : Addr} {cls : Value} {d : Option Addr} (x : ObjOk P w H h a (ExK cls d a)) :
    ∃ (o : Obj) (vs : Array Value), h.get? a = some o ∧ Zc cls d o ∧ o.data = .fields vs := x.1
section
variable {X : Cx} {pins : List (Addr × Obj)} {σ : L2.St} {H : Hp} {s sI s' : Shared} {B : Heap} {a : Addr} {o : HO}
/-- landed, and one new object of it tracked -/
theorem landedK (I : Inv X pins σ H sI) (nb : ∀ b ob, sI.heap.get? b = some ob → b ∉ frs X.stack → B.get? b = some ob)
    (st : B.StaysIn s'.heap) (up : sI.heap.UpToSlots s'.heap) (os : s'.os = sI.os) (ag : AllBare s'.gens)
    (na : H a = none) (nw : sI.heap.get? a = none) (new : ObjOk X.prog X.w (upd H a o) s'.heap a o) : Inv X pins σ (upd H a o) s' := by
  have slot : ∀ b ob, sI.heap.get? b = some ob → b ∈ frs X.stack → ∃ sl, s'.heap.get? b = some { ob with slots := sl } := by
    intro b ob e hm
    obtain ⟨_, o', e', nf⟩ := I.stack.mem hm
    obtain rfl : ob = o' := Option.some.inj (e.symm.trans e')
    exact up b ob e nf
  have U : Un (frs X.stack) [] H (upd H a o) sI.heap s'.heap := by
    refine ⟨fun b ob e _ hm _ => st b ob (nb b ob e hm), fun b ob e _ hm _ => slot b ob e hm, fun b ob e n _ => ?_, fun b ob e _ => ?_, fun b xs e => ?_, fun b u v e => ?_, fun b ps e => ⟨#[], ?_⟩⟩
    · rw [upd_ne (fun z => by rw [z, nw] at e; cases e)]
      exact n
    · by_cases hm : b ∈ frs X.stack
      · obtain ⟨sl, q⟩ := slot b ob e hm
        exact ⟨_, q⟩
      · exact ⟨ob, st b ob (nb b ob e hm)⟩
    · rw [upd_ne (ne_of_none e na)]
      exact e
    · rw [upd_ne (ne_of_none e na)]
      exact e
    · rw [upd_ne (ne_of_none e na), e]
      simp
  have J := I.call (ch := []) (h' := s'.heap) (g' := s'.gens) (t' := s'.toks) (d' := s'.drawn) U
    (HOk.laidN ((I.inGround nb).kept st) (fun _ _ z => z) na new) ag (fun _ z => nomatch z)
  have e : s' = { sI with heap := s'.heap, gens := s'.gens, drawn := s'.drawn, toks := s'.toks } := by
    cases s'
    cases os
    rfl
  rw [e]
  exact J
theorem Inv.inSuite (I : L2.Inv X pins σ H s) (b : Addr) : L2.Inv (X.suite b (X.pn ++ pins)) [] σ H s where
  ok := I.ok.suite b _
  os := I.os
  bare := I.bare
  base := I.base
  loc := I.loc
  cell := I.cell
  free := I.free
  freeC := I.freeC
  pin := fun p hp => I.pin p (by
    have hp' : p ∈ (X.pn ++ pins) ++ [] := hp
    rwa [List.append_nil] at hp')
  hok := I.hok
  len := I.len
theorem Inv.outSuite {b : Addr} {q : List (Addr × Obj)} (ok : X.Ok) (I : L2.Inv (X.suite b (X.pn ++ pins)) q σ H s) : L2.Inv X pins σ H s where
  ok := ok
  os := I.os
  bare := I.bare
  base := I.base
  loc := I.loc
  cell := I.cell
  free := I.free
  freeC := I.freeC
  pin := fun p hp => I.pin p (List.mem_append_left q hp)
  hok := I.hok
  len := I.len
end
/-- the wish of an except clause whose error is tracked from then on -/
def wKeep (K : PySem.W.Frag) (c : Value) (i : Nat) (ts : TS) (W : WX) (D : Ends) : WX := fun cls d σ H => ∃ b, PySem.W.exmOne K cls c = some b ∧ (b = false → W cls d σ H) ∧
  (b = true → ∀ a, H a = none → ts { nx := fun τ G => D.nx (τ.set i none) G, rt := D.rt, bk := fun τ G => D.bk (τ.set i none) G, ct := fun τ G => D.ct (τ.set i none) G } (σ.set i (some (.ref a))) (upd H a (ExK cls d a)))
section
variable {X : Cx} {x n : Str} {c : Value} {i : Nat} {body suite : List Stmt} {b₀ : Stmt} {np pos pos' : Pos} {tb : WX → TS} {ts : TS} {Wout : WX}
theorem ps_try_keep (hs : X.stack = X.env :: X.outer) (hf : X.env.frame = some X.env.locals) (hN : X.N.Nodup) (hi : X.N[i]? = some n)
    (hln : X.env.kindOf n = some .local) (hc : Names X x c) (tk : Takes X Wout)
    (hb : ∀ (W : WX) (pn : List (Addr × Obj)) (xe : Value → Shared → Prop), Takes (X.tr pn xe) W →
      PassesOwn (model X.prog X.w) X.A X.env xe → PSs (X.tr pn xe) body (tb W))
    (hsu : ∀ (a : Addr) (pn : List (Addr × Obj)), PSs (X.suite a pn) (b₀ :: suite) ts) :
    PS X (.Try body [.ExceptHandler (some (.Name x np)) (some n) (b₀ :: suite) pos'] [] [] pos)
      (fun D σ H => tb (wKeep X.K c i ts Wout D) D σ H) := by
  constructor
  intro pins s σ H D I h
  have ok := I.ok
  have hfr : X.A.frames = some (X.env :: X.outer) := ok.frames.trans (congrArg some hs)
  refine wpAny_Try_except ?_
  let hd := [ExceptHandler.ExceptHandler (some (.Name x np)) (some n) (b₀ :: suite) pos']
  let K2 : Value → Shared → Prop := fun e s2 => wpAny (model X.prog X.w) X.A (setFlight e none)
    (fun _ s3 => wpAny (model X.prog X.w) X.A (handleBy e X.env hd) (SP X pins D) X.xe s3) X.xe s2
  let K1 : Value → Shared → Prop := fun e s1 => wpAny (model X.prog X.w) X.A (noteFrame e X.env) (fun _ s2 => K2 e s2) X.xe s1
  have catch_ : Takes (X.tr (X.pn ++ pins) K1) (wKeep X.K c i ts Wout D) := by
    intro u s' xx
    obtain ⟨a, B, sI, pins', σ', H', cls, d, rfl, J', nb, up, sky, na, os, ag, b, hb1, hno, hyes⟩ := xx
    have J : L2.Inv X pins σ' H' sI := J'.ofTry ok
    have sky' : Sky B (X.env :: X.outer) a (Zc cls d) X.env.locals s'.heap := hs ▸ sky
    refine Sky.land Zc.steady hfr hf sky' fun h3 fl3 up3 => ?_
    have J3 : L2.Inv X pins σ' H' { s' with heap := h3 } := J.landed nb fl3.1 (up.trans up3) os ag
    obtain ⟨o3, v3, g3, z3, d3⟩ := fl3.there
    -- a is no frame's
    have noFrame : a ∉ frs (X.env :: X.outer) := by
      intro hm
      obtain ⟨_, o', e', nf⟩ := fl3.2.2.1.mem hm
      obtain rfl : o3 = o' := Option.some.inj (g3.symm.trans e')
      exact nf _ d3
    have nw : sI.heap.get? a = none := by
      cases e : sI.heap.get? a with
      | none => rfl
      | some ob =>
        have q := nb a ob e (hs.symm ▸ noFrame)
        rw [fl3.2.1] at q
        cases q
    have S3 := Ask.Inv.inSuite J3 a
    refine wpAny_handleBy_cons (codeAny_handlers_test ?_) (fun q => by cases q)
    have LT : PySem.W.Looks (model X.prog X.w) h3 (typeOf (.ref a)) cls := fun A' Q' E' s2 k q => wpAny_typeOf_ref (k _ _ g3) (by rw [z3.1]; exact q)
    have LM := PySem.W.exm_one (M := model X.prog X.w) J3.kIn LT hb1
    have clause : ∀ {Q' : Value → Shared → Prop} {E' : Value → Shared → Prop}, Q' c { s' with heap := h3 } →
        wpAny (model X.prog X.w) (X.A.mark (some (.ref a))) (eval (.Name x np) X.env) Q' E' { s' with heap := h3 } := by
      intro Q' E' q
      obtain ⟨hg, hdb, hm | ⟨hm, hv, hn⟩⟩ := hc
      · exact ld_glob (X := X.suite a (X.pn ++ pins)) S3 hg hm q hdb
      · exact ld_blt (X := X.suite a (X.pn ++ pins)) S3 hg hm hv q hn hdb
    refine clause (LM.here ?_)
    cases b with
    | false =>
      show wpAny _ X.A (handleBy (.ref a) X.env []) _ _ _
      refine wpAny_handleBy_nil ?_
      obtain ⟨_, _, _, o5, v5, T5, oT, t5, g5, _, d5, h5, _⟩ := id fl3
      unfold PySem.passOn
      refine wpAny_bind (wpAny_field g5 d5 h5 ?_)
      rw [if_neg (by simp)]
      have fin : wpAny (model X.prog X.w) X.A (setFlight (.ref a) X.env.frame)
          (fun _ s4 => wpAny (model X.prog X.w) X.A (throw (.ref a) : Sem Flow) (SP X pins D) X.xe s4) X.xe { s' with heap := h3 } := by
        rw [hf]
        refine HandSPX.setFlight_upZ fl3 fun h4 hh4 up4 => wpAny_throw (tk _ _ ?_)
        exact ⟨a, B, sI, pins, σ', H', cls, d, rfl, J, nb, (up.trans up3).trans up4, .inr (.inr (hs ▸ hh4)), na, os, ag, hno rfl⟩
      first
        | exact wpAny_bind (wpAny_pure (wpAny_bind fin))
        | exact wpAny_bind fin
    | true =>
      refine codeAny_handlers_suite_as ?_
      refine HandSPX.lands_againZ fl3 fun h4 fl4 up4 => ?_
      obtain ⟨o4, v4, g4, z4, d4⟩ := fl4.there
      have J4 : L2.Inv X pins σ' (upd H' a (ExK cls d a)) { s' with heap := h4 } :=
        landedK J nb fl4.1 ((up.trans up3).trans up4) os ag na nw (exK_ok g4 z4 d4)
      refine store_ok (X := X.suite a (X.pn ++ pins)) (v := .ref a) (Ask.Inv.inSuite J4 a) hN hi (.inl hln) rfl (fun s5 S5 => ?_) (.inr hln)
      refine wpAny_mono ((hsu a (X.pn ++ pins)).run [] s5 _ _ _ S5 (hyes rfl a na)) (fun f s6 hsp => ?_) (fun _ _ z => False.elim z)
      have away : ∀ {τ : L2.St} {G : Hp} {Q' : Shared → Prop}, L2.Inv (X.suite a (X.pn ++ pins)) [] τ G s6 →
          (∀ s7, L2.Inv X pins (τ.set i none) G s7 → Q' s7) →
          wpAny (model X.prog X.w) X.A (do bindName X.env n .none; unbindBehindTheSuite X.env n pos') (fun _ s7 => Q' s7) X.xe s6 :=
        fun S6 q => gone_ok (Ask.Inv.outSuite ok S6) hN hi hln q
      cases f with
      | ret u =>
        obtain ⟨v6, τ, G, S6, r6, q6⟩ := hsp
        exact away S6 fun s7 J7 => ⟨_, _, _, J7, r6, q6⟩
      | next =>
        obtain ⟨τ, G, S6, q6⟩ := hsp
        exact away S6 fun s7 J7 => ⟨_, _, J7, q6⟩
      | brk =>
        obtain ⟨τ, G, S6, q6⟩ := hsp
        exact away S6 fun s7 J7 => ⟨_, _, J7, q6⟩
      | cont =>
        obtain ⟨τ, G, S6, q6⟩ := hsp
        exact away S6 fun s7 J7 => ⟨_, _, J7, q6⟩
  have run := (hb (wKeep X.K c i ts Wout D) (X.pn ++ pins) K1 catch_ PassesOwn.looking).run [] s σ H D (I.toTry _) h
  refine wpAny_mono run (fun f s1 hsp => ?_) (fun e s1 he => he)
  cases f with
  | next =>
    obtain ⟨τ, G, J', q⟩ := hsp
    exact wpAny_execs_nil ⟨τ, G, J'.ofTry ok, q⟩
  | ret u =>
    obtain ⟨v, τ, G, J', r, q⟩ := hsp
    exact ⟨v, τ, G, J'.ofTry ok, r, q⟩
  | brk =>
    obtain ⟨τ, G, J', q⟩ := hsp
    exact ⟨τ, G, J'.ofTry ok, q⟩
  | cont =>
    obtain ⟨τ, G, J', q⟩ := hsp
    exact ⟨τ, G, J'.ofTry ok, q⟩
end
/-! what is asked of such an object -/
theorem instK {X : Cx} {pins : List (Addr × Obj)} {σ : L2.St} {H : Hp} {s : Shared} {a D : Addr} {d : Option Addr} (I : L2.Inv X pins σ H s)
    (ha : H a = some (ExK (.ref D) d a)) (hd : ∀ e, d = some e → ∃ fs, H e = some (.xd fs)) : ∃ (o : Obj) (od : Option Obj), PySem.W.InstAt s.heap a o D od := by
  obtain ⟨⟨oc, od, oda, osl⟩, vs, g, ⟨z1, z2⟩, f⟩ := exK_at (I.hok a _ ha)
  dsimp only at z1 z2 f
  subst z1 z2 f
  cases od with
  | none => exact ⟨_, none, g, rfl, rfl, trivial⟩
  | some e =>
    obtain ⟨fs, he⟩ := hd e rfl
    obtain ⟨mA, hns, _⟩ := (show ObjOk X.prog X.w H s.heap e (.xd fs) from I.hok e _ he)
    obtain ⟨o2, ho2, _⟩ := lookIn_ns hns
    exact ⟨_, some o2, g, rfl, rfl, ho2⟩
/-- isinstance(e, c), e an error kept -/
def rIsK (K : PySem.W.Frag) : List V → Hp → VK → Prop := fun xs H Q => ∃ (a D : Addr) (d : Option Addr) (c : V) (cv : Value) (b : Bool), xs = [.ref a, c] ∧
  H a = some (ExK (.ref D) d a) ∧ (∀ e, d = some e → ∃ fs, H e = some (.xd fs)) ∧ ExcC K D ∧ ClsV c cv ∧ PySem.W.kitOne K (.ref D) cv = some b ∧ Q (.bl b) H
theorem call_isK {X : Cx} : CallR X (.builtin "isinstance") (rIsK X.K) := by
  intro pins s σ H xs us Q I r h
  obtain ⟨a, D, d, c, cv, b, rfl, ha, hd, C, k, e, q⟩ := h
  obtain ⟨u1, u2, rfl, r1, r2⟩ := vals2 r
  obtain rfl : u1 = Value.ref a := r1
  obtain rfl := k.eq r2
  obtain ⟨o, od, J⟩ := instK I ha hd
  have hcl : (PySem.W.clsIn X.K D).isSome = true := by
    obtain ⟨cd, hc, _⟩ := PySem.W.any_some C.hd
    rw [hc]
    rfl
  exact PySem.W.kia_one (PySem.W.kitx_exc (od := od) hcl C.hg C.hk C.hs C.ha C.hn C.ht C.hm) I.kIn J e (fun z => nomatch z) fun tk => ⟨.bl b, H, I.tok tk, rfl, q⟩
/-- e.n, e an error kept: its field -/
def tXk (K : PySem.W.Frag) (n : Str) (te : TE) : TE := fun σ H Q => te σ H fun x H1 => ∃ (a C d : Addr) (fs : List (Str × V)) (v : V), x = .ref a ∧
  H1 a = some (ExK (.ref C) (some d) a) ∧ H1 d = some (.xd fs) ∧ XfC K C ∧ PySem.W.findIn K (.ref C) n = some none ∧ fs.lookup n = some v ∧ Q v H1
theorem pe_xk {X : Cx} {e : Expr} {te : TE} {pos : Pos} {n : Str} (he : PE X e te) (hb : attributeBase e n X.env (eval e X.env) = eval e X.env := by rfl) :
    PE X (.Attribute e n pos) (tXk X.K n te) := by
  refine ⟨fun pins s σ H Q I h => ?_⟩
  refine attr_of hb (thn (he.run pins s σ H _ I h) ?_)
  rintro u s1 ⟨x, H1, I1, rx, a, C, d, fs, v, ex, ha, hd, T, hno, l, q⟩
  subst ex
  obtain rfl : u = Value.ref a := rx
  obtain ⟨⟨oc, od, oda, osl⟩, vs, g, ⟨z1, z2⟩, f⟩ := exK_at (I1.hok a _ ha)
  dsimp only at z1 z2 f
  subst z1 z2 f
  obtain ⟨mA, hns, hr⟩ := (show ObjOk X.prog X.w H1 s1.heap d (.xd fs) from I1.hok d _ hd)
  obtain ⟨o2, ho, hl⟩ := lookIn_ns hns
  obtain ⟨w, hw, rw'⟩ := RelO.some_of (v := v) (o := mA n) (by rw [← l]; exact hr n)
  have J : PySem.W.InstAt s1.heap a ⟨.ref C, some d, .fields vs, osl⟩ C (some o2) := ⟨g, rfl, rfl, ho⟩
  exact HandSPX.exc_get I1.kIn J T.ga T.gg T.exC (PySem.W.findObj_own T.hdC hno rfl (by rw [hl, hw])) (handed_of rw') ⟨v, H1, I1.tok _, rw', q⟩
end Ask

set_option Elab.async false
set_option linter.all false
set_option maxRecDepth 100000
set_option maxHeartbeats 2000000
/-! data with dicts in it: their text; the law's own def where sys.modules is known to stand apart -/
namespace Ask
open PySem PySem.Spec L2
open PyProof.Rows
/-- a flat value and its data -/
def FlatD : V → PyData → Prop
  | .non, d => d = .none
  | .bl b, d => d = .bool b
  | .int i, d => d = .int i
  | .str x, d => d = .str x
  | _, _ => False
def keyD : Key → PyData
  | .inl i => .int i
  | .inr x => .str x
/-- at v: the data d, nested no deeper than n, every object of it at such an address -/
def Dq (fr : Addr → Prop) (H : Hp) : Nat → V → PyData → Prop
  | 0, v, d => FlatD v d
  | n + 1, v, d => FlatD v d ∨ (∃ a xs ds, v = .ref a ∧ d = .list ds ∧ fr a ∧ H a = some (.lst xs) ∧ Paired (Dq fr H n) xs ds) ∨
    (∃ a xs ds, v = .ref a ∧ d = .tuple ds ∧ fr a ∧ H a = some (.tup xs) ∧ Paired (Dq fr H n) xs ds) ∨
    (∃ (a : Addr) (kvs : List (Key × V)) (ds : List PyData), v = .ref a ∧ d = .dict ((kvs.map fun p => keyD p.1).zip ds) ∧ fr a ∧ H a = some (.dK kvs) ∧ Paired (Dq fr H n) (kvs.map (·.2)) ds)
theorem paired_imp {α β : Type} {F G : α → β → Prop} (h : ∀ x y, F x y → G x y) : ∀ {xs : List α} {ys : List β}, Paired F xs ys → Paired G xs ys
  | _, _, .nil => .nil
  | _, _, .cons a r => .cons (h _ _ a) (paired_imp h r)
theorem Dq.imp {fr fr' : Addr → Prop} {H H' : Hp} (hf : ∀ a, fr a → fr' a) (hk : ∀ a o, fr a → H a = some o → H' a = some o) : ∀ (n : Nat) {v : V} {d : PyData}, Dq fr H n v d → Dq fr' H' n v d
  | 0, _, _, h => h
  | n + 1, _, _, h => by
    rcases h with h | ⟨a, xs, ds, e1, e2, f, e, p⟩ | ⟨a, xs, ds, e1, e2, f, e, p⟩ | ⟨a, kvs, ds, e1, e2, f, e, p⟩
    · exact .inl h
    · exact .inr (.inl ⟨a, xs, ds, e1, e2, hf a f, hk a _ f e, paired_imp (fun _ _ => Dq.imp hf hk n) p⟩)
    · exact .inr (.inr (.inl ⟨a, xs, ds, e1, e2, hf a f, hk a _ f e, paired_imp (fun _ _ => Dq.imp hf hk n) p⟩))
    · exact .inr (.inr (.inr ⟨a, kvs, ds, e1, e2, hf a f, hk a _ f e, paired_imp (fun _ _ => Dq.imp hf hk n) p⟩))
theorem Dq.flat {fr : Addr → Prop} {H : Hp} {v : V} {d : PyData} (h : FlatD v d) : ∀ n, Dq fr H n v d
  | 0 => h
  | _ + 1 => .inl h
theorem Dq.up {fr : Addr → Prop} {H : Hp} : ∀ (n : Nat) {v : V} {d : PyData}, Dq fr H n v d → Dq fr H (n + 1) v d
  | 0, _, _, h => .inl h
  | n + 1, _, _, h => by
    rcases h with h | ⟨a, xs, ds, e1, e2, f, e, p⟩ | ⟨a, xs, ds, e1, e2, f, e, p⟩ | ⟨a, kvs, ds, e1, e2, f, e, p⟩
    · exact .inl h
    · exact .inr (.inl ⟨a, xs, ds, e1, e2, f, e, paired_imp (fun _ _ => Dq.up n) p⟩)
    · exact .inr (.inr (.inl ⟨a, xs, ds, e1, e2, f, e, paired_imp (fun _ _ => Dq.up n) p⟩))
    · exact .inr (.inr (.inr ⟨a, kvs, ds, e1, e2, f, e, paired_imp (fun _ _ => Dq.up n) p⟩))
/-- the kind of a value that is data -/
inductive AnyV (H : Hp) : V → String → Prop
  | non : AnyV H .non "NoneType"
  | bl (b : Bool) : AnyV H (.bl b) "bool"
  | int (i : Int) : AnyV H (.int i) "int"
  | str (x : Str) : AnyV H (.str x) "str"
  | lst {a : Addr} {xs : List V} (e : H a = some (.lst xs)) : AnyV H (.ref a) "list"
  | tup {a : Addr} {xs : List V} (e : H a = some (.tup xs)) : AnyV H (.ref a) "tuple"
  | dct {a : Addr} {kvs : List (Key × V)} (e : H a = some (.dK kvs)) : AnyV H (.ref a) "dict"
theorem AnyV.ty {K : PySem.W.Frag} {H : Hp} {v : V} {t : String} (h : AnyV H v t) : TyX K H v (.type t) ∧ t ∈ kinds := by
  cases h with
  | non => exact ⟨.base .non, by decide⟩
  | bl b => exact ⟨.base (.bl b), by decide⟩
  | int i => exact ⟨.base (.int i), by decide⟩
  | str x => exact ⟨.base (.str x), by decide⟩
  | lst e => exact ⟨.base (.lst e), by decide⟩
  | tup e => exact ⟨.base (.tup e), by decide⟩
  | dct e => exact ⟨.base (.dK e), by decide⟩
theorem FlatD.any {H : Hp} : ∀ {v : V} {d : PyData}, FlatD v d → ∃ t, AnyV H v t
  | .non, _, _ => ⟨_, .non⟩
  | .bl b, _, _ => ⟨_, .bl b⟩
  | .int i, _, _ => ⟨_, .int i⟩
  | .str x, _, _ => ⟨_, .str x⟩
theorem Dq.any {fr : Addr → Prop} {H : Hp} : ∀ {n : Nat} {v : V} {d : PyData}, Dq fr H n v d → ∃ t, AnyV H v t
  | 0, _, _, h => FlatD.any h
  | n + 1, _, _, h => by
    rcases h with h | ⟨a, xs, ds, rfl, _, _, e, _⟩ | ⟨a, xs, ds, rfl, _, _, e, _⟩ | ⟨a, kvs, ds, rfl, _, _, e, _⟩
    · exact FlatD.any h
    · exact ⟨_, .lst e⟩
    · exact ⟨_, .tup e⟩
    · exact ⟨_, .dct e⟩
/-! ### as the heap reads it -/
section
variable {X : Cx} {pins : List (Addr × Obj)} {σ : L2.St} {H : Hp} {s : Shared} {fr : Addr → Prop}
theorem flat_reads : ∀ {v : V} {d : PyData} {u : Value}, FlatD v d → RelV v u → Reads s.heap u d []
  | .non, _, _, rfl, rfl => .none
  | .bl b, _, _, rfl, rfl => .bool b
  | .int i, _, _, rfl, ⟨t, rfl⟩ => .int i t
  | .str x, _, _, rfl, ⟨t, rfl⟩ => .str x t
theorem pairs_keys {P : Program} {w : World} : ∀ {es : List DictEntry} {kvs : List (Key × Value)}, Pairs (mixKind P w) es kvs →
    ReadsAll s.heap (es.map (·.key)) (kvs.map fun p => keyD p.1) [] ∧ es.map (·.val) = kvs.map (·.2)
  | _, _, .nil => ⟨.nil, rfl⟩
  | _, _, .cons (e := e) (kv := kv) h1 h2 r => by
    obtain ⟨i1, i2⟩ := pairs_keys (P := P) (w := w) r
    refine ⟨?_, ?_⟩
    · rw [List.map_cons, List.map_cons]
      have z : Reads s.heap e.key (keyD kv.1) [] := by
        rcases keyIs_shape h1 with ⟨i, t, e1, e2⟩ | ⟨x, t, e1, e2⟩
        · rw [e1, e2]
          exact .int i t
        · rw [e1, e2]
          exact .str x t
      exact ReadsAll.cons z i1
    · rw [List.map_cons, List.map_cons, h2, i2]
theorem kv_keys : ∀ {kvs : List (Key × V)} {ws : List (Key × Value)}, KV kvs ws → (ws.map fun p => keyD p.1) = (kvs.map fun p => keyD p.1) ∧ Vals (kvs.map (·.2)) (ws.map (·.2))
  | _, _, .nil => ⟨rfl, .nil⟩
  | _, _, .cons ⟨a, b⟩ r => by
    obtain ⟨i1, i2⟩ := kv_keys r
    refine ⟨?_, .cons b i2⟩
    rw [List.map_cons, List.map_cons, i1, a]
theorem paired_len {α β : Type} {F : α → β → Prop} : ∀ {xs : List α} {ys : List β}, Paired F xs ys → xs.length = ys.length
  | _, _, .nil => rfl
  | _, _, .cons _ r => congrArg (· + 1) (paired_len r)
theorem Dq.reads (I : L2.Inv X pins σ H s) (hfr : ∀ a, fr a → (a == sysModules) = false) : ∀ (n : Nat) {v : V} {d : PyData} {u : Value}, Dq fr H n v d → RelV v u → ∃ as, Reads s.heap u d as ∧ sysModules ∉ as := by
  intro n
  induction n with
  | zero => exact fun h r => ⟨[], flat_reads h r, by simp⟩
  | succ n ih =>
    have all : ∀ {xs : List V} {ds : List PyData} {us : List Value}, Paired (Dq fr H n) xs ds → Vals xs us → ∃ as, ReadsAll s.heap us ds as ∧ sysModules ∉ as := by
      intro xs ds us p
      induction p generalizing us with
      | nil =>
        intro r
        cases r
        exact ⟨[], .nil, by simp⟩
      | cons a _ ih2 =>
        intro r
        cases r with
        | cons r1 r2 =>
          obtain ⟨as, h1, n1⟩ := ih a r1
          obtain ⟨bs, h2, n2⟩ := ih2 r2
          exact ⟨_, ReadsAll.cons h1 h2, fun z => (List.mem_append.mp z).elim n1 n2⟩
    intro v d u h r
    rcases h with h | ⟨a, xs, ds, rfl, rfl, f, e, p⟩ | ⟨a, xs, ds, rfl, rfl, f, e, p⟩ | ⟨a, kvs, ds, rfl, rfl, f, e, p⟩
    · exact ⟨[], flat_reads h r, by simp⟩
    · obtain rfl : u = Value.ref a := r
      obtain ⟨its, rv, ⟨o, k, ho, hc, _, hd⟩, _⟩ := I.list (SqL.of e)
      obtain ⟨as, hr, hn⟩ := all p rv
      refine ⟨_, Reads.list ho hc hd hr, fun z => ?_⟩
      rcases List.mem_cons.mp z with q | q
      · have y := hfr a f
        rw [← q] at y
        simp at y
      · exact hn q
    · obtain rfl : u = Value.ref a := r
      obtain ⟨_, its, rv, o, ho, hc, k, hd⟩ := (show ObjOk X.prog X.w H s.heap a (.tup xs) from I.hok a _ e)
      obtain ⟨as, hr, hn⟩ := all p rv
      exact ⟨_, Reads.tuple ho hc hd hr, hn⟩
    · obtain rfl : u = Value.ref a := r
      obtain ⟨_, low, ws, hkv, o, es, ep, ho, hx, hd, _, hp, _⟩ := (show ObjOk X.prog X.w H s.heap a (.dK kvs) from I.hok a _ e)
      obtain ⟨k1, k2⟩ := kv_keys hkv
      obtain ⟨p1, p2⟩ := pairs_keys (s := s) hp
      obtain ⟨as, hr, hn⟩ := all p k2
      rw [k1] at p1
      rw [← p2] at hr
      have l1 : (kvs.map fun q => keyD q.1).length = ds.length := by
        rw [List.length_map, ← paired_len p, List.length_map]
      refine ⟨_, Reads.dict (as := []) (bs := as) ho hx.1 hd ?_ ?_, fun z => ?_⟩
      · rw [List.map_fst_zip (Nat.le_of_eq l1)]
        exact p1
      · rw [List.map_snd_zip (Nat.le_of_eq l1.symm)]
        exact hr
      · rcases List.mem_cons.mp z with q | q
        · rw [← q] at low
          simp at low
        · exact hn q
end
end Ask

set_option Elab.async false
set_option linter.all false
set_option maxRecDepth 100000
set_option maxHeartbeats 2000000
/-! the text of data with dicts in it; the law's own def where sys.modules is known to stand apart -/
namespace Ask
open PySem PySem.Spec L2
open PyProof.Rows
/-- data that can be shown, nested at most n deep, its text of at most L signs -/
structure Sh (n L : Nat) (d : PyData) : Prop where
  can : d.showable = true
  dep : d.depth ≤ n
  len : d.shown.length ≤ L
theorem Sh.up {n m L M : Nat} {d : PyData} (h : Sh n L d) (a : n ≤ m) (b : L ≤ M) : Sh m M d := ⟨h.can, Nat.le_trans h.dep a, Nat.le_trans h.len b⟩
theorem sh_list {n k L : Nat} {ds : List PyData} (h : ∀ d ∈ ds, Sh n L d) (hk : ds.length ≤ k) : Sh (n + 1) (L * k + 2 * k + 3) (.list ds) where
  can := by
    unfold PyData.showable
    exact showAll ds fun d hx => (h d hx).can
  dep := by
    have z := depAll ds fun d hx => (h d hx).dep
    unfold PyData.depth
    omega
  len := by
    have z := lenAll ds fun d hx => (h d hx).len
    have y := listText_len_le (PyData.shownAll ds)
    have m : L * ds.length ≤ L * k := Nat.mul_le_mul_left L hk
    unfold PyData.shown
    omega
theorem sh_tup {n k L : Nat} {ds : List PyData} (h : ∀ d ∈ ds, Sh n L d) (hk : ds.length ≤ k) : Sh (n + 1) (L * k + 2 * k + 3) (.tuple ds) where
  can := by
    unfold PyData.showable
    exact showAll ds fun d hx => (h d hx).can
  dep := by
    have z := depAll ds fun d hx => (h d hx).dep
    unfold PyData.depth
    omega
  len := by
    have z := lenAll ds fun d hx => (h d hx).len
    have y := tupleText_len_le (PyData.shownAll ds)
    have m : L * ds.length ≤ L * k := Nat.mul_le_mul_left L hk
    unfold PyData.shown
    omega
theorem kvAll {n L : Nat} : ∀ kvs : List (PyData × PyData), (∀ p ∈ kvs, Sh n L p.1 ∧ Sh n L p.2) → PyData.showableKv kvs = true ∧ PyData.depthKv kvs ≤ n ∧
    ((PyData.shownKv kvs).map (·.length)).sum ≤ (2 * L + 2) * kvs.length ∧ (PyData.shownKv kvs).length = kvs.length
  | [], _ => by
    unfold PyData.showableKv PyData.depthKv PyData.shownKv
    exact ⟨rfl, Nat.zero_le _, Nat.zero_le _, rfl⟩
  | (a, b) :: r, h => by
    obtain ⟨ha, hb⟩ := h (a, b) List.mem_cons_self
    obtain ⟨i1, i2, i3, i4⟩ := kvAll r fun p hp => h p (List.mem_cons_of_mem _ hp)
    have e : (a.shown ++ ": " ++ b.shown).length = a.shown.length + 2 + b.shown.length := by
      rw [strLen_append, strLen_append]
      rfl
    have la : a.shown.length ≤ L := ha.len
    have lb : b.shown.length ≤ L := hb.len
    have da : a.depth ≤ n := ha.dep
    have db : b.depth ≤ n := hb.dep
    unfold PyData.showableKv PyData.depthKv PyData.shownKv
    refine ⟨?_, ?_, ?_, ?_⟩
    · rw [ha.can, hb.can, i1]
      rfl
    · omega
    · rw [List.map_cons, List.sum_cons, List.length_cons, Nat.mul_succ]
      omega
    · rw [List.length_cons, List.length_cons, i4]
theorem sh_dict {n k L : Nat} {kvs : List (PyData × PyData)} (h : ∀ p ∈ kvs, Sh n L p.1 ∧ Sh n L p.2) (hk : kvs.length ≤ k) : Sh (n + 1) ((2 * L + 2) * k + 2 * k + 3) (.dict kvs) := by
  obtain ⟨i1, i2, i3, i4⟩ := kvAll kvs h
  refine ⟨?_, ?_, ?_⟩
  · unfold PyData.showable
    exact i1
  · unfold PyData.depth
    omega
  · have y := dictText_len_le (PyData.shownKv kvs)
    have m : (2 * L + 2) * kvs.length ≤ (2 * L + 2) * k := Nat.mul_le_mul_left _ hk
    unfold PyData.shown
    omega
theorem sh_int {i : Int} (h : i.natAbs < 10 ^ 12) : Sh 0 13 (.int i) := ⟨(shows_int h).can, by unfold PyData.depth; omega, (shows_int h).len⟩
theorem sh_none : Sh 0 4 .none := ⟨rfl, by unfold PyData.depth; omega, by decide +kernel⟩
theorem sh_bool (b : Bool) : Sh 0 5 (.bool b) := ⟨rfl, by unfold PyData.depth; omega, by cases b <;> decide +kernel⟩
theorem sh_str {x : Str} {L : Nat} (h : (PyData.str x).shown.length ≤ L) : Sh 0 L (.str x) := ⟨rfl, by unfold PyData.depth; omega, h⟩
/-- repr(x), x any data -/
def rReprD (K : PySem.W.Frag) : List V → Hp → VK → Prop := fun xs H Q =>
  ∃ (fr : Addr → Prop) (n : Nat) (v : V) (d : PyData), xs = [v] ∧ (∀ a, fr a → (a == sysModules) = false) ∧ Dq fr H n v d ∧ Sh 60 sizeLine d ∧ Q (.str d.shown) H
theorem cr_reprD {X : Cx} (hg : X.A.guards = some []) (hu : X.A.units + 64 < cLine) :
    CallR X (.builtin "repr") (rReprD X.K) := by
  intro pins s σ H xs us Q I r h
  obtain ⟨fr, n, v, d, rfl, hfr, hd, hs, q⟩ := h
  obtain ⟨u, rfl, rx⟩ := vals1 r
  obtain ⟨as, rd, hn⟩ := Dq.reads I hfr n hd rx
  have flat : ∀ {v : V} {d : PyData} {u : Value}, FlatD v d → RelV v u → Sh 60 sizeLine d → Q (.str d.shown) H → wpAny (model X.prog X.w) X.A (call (.builtin "repr") [u]) (EP X pins σ Q) X.xe s := by
    intro v d u hf rx hs q
    cases v with
    | non =>
      cases rx
      cases hf
      exact P.repr_of_none ⟨.str _, H, I.tok _, ⟨_, rfl⟩, q⟩
    | bl b =>
      cases rx
      cases hf
      exact P.repr_of_bool ⟨.str _, H, I.tok _, ⟨_, rfl⟩, by cases b <;> exact q⟩
    | int i =>
      obtain ⟨t, rfl⟩ := rx
      cases hf
      have hz : i.natAbs.log2 < 1920 := by
        simpa [PyData.showable] using hs.can
      exact P.repr_of_int hz ⟨.str _, H, I.tok _, ⟨_, rfl⟩, q⟩
    | str x =>
      obtain ⟨t, rfl⟩ := rx
      cases hf
      exact P.repr_of_str ⟨.str _, H, I.tok _, ⟨_, rfl⟩, q⟩ hs.len
    | _ => exact hf.elim
  have dp := hs.dep
  have boxed : ∀ {a : Addr}, v = .ref a → wpAny (model X.prog X.w) X.A (call (.builtin "repr") [u]) (EP X pins σ Q) X.xe s := by
    intro a e
    subst e
    obtain rfl : u = Value.ref a := rx
    refine repr_of_reads' rd hs.can (fun _ => hn) hg (by omega) (fun _ _ e => e) (fun h' u tk hk => ?_) hs.len
    exact ⟨.str _, H, I.kept hk, ⟨_, rfl⟩, q⟩
  cases n with
  | zero => exact flat hd rx hs q
  | succ n =>
    rcases hd with h | ⟨a, xs, ds, e1, _⟩ | ⟨a, xs, ds, e1, _⟩ | ⟨a, kvs, ds, e1, _⟩
    · exact flat h rx hs q
    · exact boxed e1
    · exact boxed e1
    · exact boxed e1
/-! ### the law, sys.modules apart -/
/-- sys.modules stands, and is never one of ours -/
def Sys (H : Hp) : Prop := ∃ o u, H sysModules = some (.frz o u)
theorem Sys.ne {H : Hp} {a : Addr} (h : Sys H) (e : H a = none) : (a == sysModules) = false := by
  obtain ⟨o, u, h⟩ := h
  exact beq_eq_false_iff_ne.mpr fun z => by rw [z, h] at e; cases e
theorem Sys.same {H H' : Hp} (h : Sys H) (s : Same H H') : Sys H' := by
  obtain ⟨o, u, h⟩ := h
  exact ⟨o, u, s _ _ h⟩
theorem Sys.but {H H' : Hp} {p : Addr} {n : Nat} (h : Sys H) (s : But p H H') (hp : Pen H p n) : Sys H' := by
  obtain ⟨o, u, h⟩ := h
  exact ⟨o, u, s _ _ (hp.ne h fun _ _ _ z => by cases z) h⟩
theorem Sys.new {H : Hp} {q : Addr} {o : HO} (h : Sys H) (e : H q = none) : Sys (upd H q o) := h.same (Same.new e)
def seenS (K : PySem.W.Frag) (o1 : Obj) (a : Addr) (vs : List Value) (ns : List Int) : Hp := fun b =>
  if b = sysModules then some (.frz o1 (.own 0)) else seen K a vs ns b
/-- what a law promises: True, whatever the script -/
def spLawS (K : PySem.W.Frag) : Sp := fun vs H Q _ => ∃ (s : Addr) (ns : List Int), vs = [.ref s] ∧
  SqL K H s (ns.map V.int) ∧ ns.length ≤ 63 ∧ Sys H ∧ ∀ H', Q (.bl true) H'
theorem law_goS {P : Program} {w : World} {K : PySem.W.Frag} {mg mb ms : Str → Option Value} {k : Nat}
    {fa a : Addr} {fd : FuncData} {x : Str} {sp : Sp} {s₁ : Shared} {vs : List Value} {ns : List Int}
    (KX : K.In s₁.heap) (hK1 : K.lookup sysModules = none) (hsm : s₁.heap.Ns sysModules ms) (hns : s₁.heap.Ns mainGlobals mg) (hb : s₁.heap.Ns builtinsNs mb)
    (hbb : ∀ x : Str, x ≠ "__name__" → mb x = bootBuiltins x) (hlim : s₁.heap.NoLimit) (hg : s₁.gens = #[])
    (ha : s₁.heap.get? a = some { cls := .type "list", data := .seq vs.toArray }) (hi : IntsAre vs ns)
    (hl : ns.length ≤ sizeLine) (hr : Room k callerA)
    (F : ∀ base : Heap, K.In base → base.Ns mainGlobals mg → GOk P w K mg base CX0 k fa fd [x] sp)
    (hbind : ∀ (s : Shared) (u : Value), BindsTo s fd ⟨[u], []⟩ [(x, u)])
    (hsp : ∀ H : Hp, Sys H → SqL K H a (ns.map V.int) → sp [.ref a] H (fun v _ => v = .bl true) fun _ _ _ => False) :
    codeAny (model P w) callerA (.call (.ref fa) ⟨[.ref a], []⟩)
      (fun r s' => r = .ok (.ret (.bool true)) ∧ OldK s₁.heap s'.heap ∧ s'.os = s₁.os ∧ AllBare s'.gens) s₁ := by
  have rv := vals_ints hi
  have lenV := hi.length
  obtain ⟨o1, es1, ep1, h1, d1, _⟩ := hsm
  have a1 : a ≠ sysModules := fun z => by
    rw [z, h1] at ha
    have y := Option.some.inj ha
    rw [y] at d1
    cases (show Data.seq vs.toArray _ = Data.dict es1 ep1 from d1)
  -- what is tracked
  have hA : ∀ b u, seenS K o1 a vs ns b = some u → (b = sysModules ∧ u = .frz o1 (.own 0)) ∨ (b = a ∧ K.lookup a = none ∧ u = .frz { cls := .type "list", data := .seq vs.toArray } (.lst (ns.map V.int))) := by
    intro b u e
    unfold seenS at e
    by_cases hb1 : b = sysModules
    · rw [if_pos hb1] at e
      exact .inl ⟨hb1, (Option.some.inj e).symm⟩
    · rw [if_neg hb1] at e
      refine .inr ?_
      unfold seen at e
      cases q : K.lookup a with
      | some o =>
        rw [q] at e
        cases e
      | none =>
        rw [q] at e
        by_cases hba : b = a
        · exact ⟨hba, rfl, (Option.some.inj ((if_pos hba).symm.trans e)).symm⟩
        · cases (if_neg hba).symm.trans e
  have hT : ∀ b u, seenS K o1 a vs ns b = some u → ∃ o v, u = .frz o v ∧ s₁.heap.get? b = some o ∧ K.lookup b = none := by
    intro b u e
    rcases hA b u e with ⟨rfl, rfl⟩ | ⟨rfl, z, rfl⟩
    · exact ⟨_, _, rfl, h1, hK1⟩
    · exact ⟨_, _, rfl, ha, z⟩
  have hS : SqL K (seenS K o1 a vs ns) a (ns.map V.int) := by
    cases q : K.lookup a with
    | some o =>
      have e := KX a o q
      rw [ha] at e
      cases e
      exact Or.inr ⟨_, vs.toArray, _, q, rfl, rfl, rfl, by rw [List.size_toArray, lenV]; exact hl, by simpa using rv⟩
    | none =>
      refine Or.inl (Or.inr ⟨{ cls := .type "list", data := .seq vs.toArray }, ?_⟩)
      unfold seenS seen
      rw [if_neg a1, q]
      exact if_pos rfl
  have hok : HOk P w (seenS K o1 a vs ns) s₁.heap := fun b u e => by
    rcases hA b u e with ⟨rfl, rfl⟩ | ⟨rfl, _, rfl⟩
    · exact ⟨h1, o1, h1⟩
    · exact ⟨ha, by rw [List.length_map]; exact hl, vs, _, rv, ha⟩
  have nsH : ∀ {b : Addr} {m : Str → Option Value}, b ≠ sysModules → s₁.heap.Ns b m → (hidT s₁.heap (seenS K o1 a vs ns)).Ns b m := by
    intro b m hb1 ⟨o, es, ep, e, d, r⟩
    refine ⟨o, es, ep, hidT_get e ?_, d, r⟩
    cases q : seenS K o1 a vs ns b with
    | none => rfl
    | some u =>
      rcases hA b u q with ⟨z, _⟩ | ⟨rfl, _, _⟩
      · exact absurd z hb1
      · rw [ha] at e
        cases e
        cases (show Data.seq vs.toArray _ = Data.dict es ep from d)
  have kH : K.In (hidT s₁.heap (seenS K o1 a vs ns)) := by
    intro b o e
    refine hidT_get (KX b o e) ?_
    cases q : seenS K o1 a vs ns b with
    | none => rfl
    | some u =>
      obtain ⟨_, _, _, _, z⟩ := hT b u q
      rw [z] at e
      cases e
  have limH : (hidT s₁.heap (seenS K o1 a vs ns)).NoLimit := by
    obtain ⟨mc, l1, l2⟩ := hlim
    exact ⟨mc, nsH (by decide) l1, l2⟩
  have e0 : Env0 P w K mg (hidT s₁.heap (seenS K o1 a vs ns)) callerA [] s₁ (seenS K o1 a vs ns) := {
    frames := rfl
    mod := ⟨kH, nsH (by decide) hns, ⟨mb, nsH (by decide) hb, hbb⟩, limH⟩
    bs := fun b o e => of_hidT e
    bsz := Nat.le_of_eq (hidT_size _ _)
    funs := trivial
    frf := fun b hb => absurd (show b ∈ ([] : List Addr) from hb) (by simp)
    hok := hok
    bare := .of_eq hg }
  have sys : Sys (seenS K o1 a vs ns) := ⟨o1, .own 0, if_pos rfl⟩
  have run := (F _ kH (nsH (by decide) hns)).run callerA [] s₁ (seenS K o1 a vs ns) ⟨[.ref a], []⟩ [.ref a] [.ref a]
    _ _ hr rfl e0 (hbind s₁ (.ref a)) (.cons rfl .nil) (hsp _ sys hS)
  refine codeAny_mono run fun r s' h => ?_
  cases r with
  | error e => exact False.elim h
  | ok fl =>
    cases fl with
    | next => exact False.elim h
    | brk => exact False.elim h
    | cont => exact False.elim h
    | ret u =>
      obtain ⟨v, H', os, bare, un, hok', r', q⟩ := h
      obtain rfl : v = V.bl true := q
      obtain rfl : u = Value.bool true := r'
      refine ⟨rfl, OldK.of_keep fun b o e => ?_, os, bare⟩
      cases q : seenS K o1 a vs ns b with
      | none => exact un.keep b o e q (fun z => nomatch z) (fun z => nomatch z)
      | some u =>
        obtain ⟨o2, u2, rfl, g2, _⟩ := hT b u q
        obtain ⟨g3, _⟩ := hok' b _ (un.frzs b _ _ q)
        rw [e] at g2
        cases g2
        exact g3
/-- the goal that the head leaves, from such a def -/
theorem walk_lawS {l : PySem.W.OpenLaw} {k : Nat} {q : Program} {loose : List Str}
    {XP : (Str → Option Value) → Heap → Prop} {YP : World → Heap → Prop} {d : DefRec}
    {K : Params → PySem.W.Frag} (hn : l.most = some 63) (hdf : d.params.defaults = []) (hr : Room k callerA)
    (hq : importsNone q = true) (hK1 : ∀ w : World, (K w.params).lookup sysModules = none)
    (hY : ∀ (w : World) (h : Heap), YP w h → (K w.params).In h)
    (F : ∀ (w : World) (mg : Str → Option Value) (fa : Addr) (h : Heap), (K w.params).In h →
      h.Ns mainGlobals mg → mg d.name = some (.ref fa) →
      ∃ fd : FuncData, (∀ (s : Shared) (u : Value), BindsTo s fd ⟨[u], []⟩ [("script", u)]) ∧
        ∀ base : Heap, (K w.params).In base → base.Ns mainGlobals mg →
          GOk l.prog w (K w.params) mg base CX0 k fa fd ["script"] (spLawS (K w.params))) :
    PySem.W.WalkO q loose XP YP l.row.toRowW d [] (fun f vs => PySem.call f vs) := by
  refine Att.attach_call hn hdf ?_
  intro w s₀ s₁ mg mb fa o pm cd doc a vs ns G Y ho hd hcd hmg hobj hints hlen hg
  have KX := hY w _ Y
  obtain ⟨fd, hb, hF⟩ := F w mg fa _ KX G.T.g hmg
  obtain ⟨mm, hsm, _⟩ := (G.T.seer hq).mods
  exact law_goS KX (hK1 w) hsm G.T.g G.T.b G.T.builtins G.T.nolimit hg hobj hints (Nat.le_trans hlen (by decide)) hr hF hb
    fun H hO hS => ⟨a, ns, rfl, hS, hlen, hO, fun _ => rfl⟩
/-- xs[i] where the context is a comprehension's -/
theorem ix_listK {X : Cx} {K : PySem.W.Frag} (h : X.K = K) : IxR X (rIxL K) := by
  subst h
  exact ix_list
theorem dV_int (i j : Int) : decide (V.int i = V.int j) = decide (i = j) := by
  by_cases h : i = j
  · rw [decide_eq_true h, decide_eq_true (congrArg V.int h)]
  · rw [decide_eq_false h, decide_eq_false (fun q => h (V.int.inj q))]
theorem dV_str (i j : Str) : decide (V.str i = V.str j) = decide (i = j) := by
  by_cases h : i = j
  · rw [decide_eq_true h, decide_eq_true (congrArg V.str h)]
  · rw [decide_eq_false h, decide_eq_false (fun q => h (V.str.inj q))]
end Ask

set_option Elab.async false
set_option linter.all false
set_option maxRecDepth 100000
set_option maxHeartbeats 2000000
/-! an error of one field whose __init__ says super().__init__(f'..'), self.n = n -/
namespace Ask
open PySem PySem.Spec L2 PySem.W
open PyProof.Rows PySem.Calls
/-- what is told of the class at C, its __init__ at fI -/
structure ETxt (P : Program) (K : PySem.W.Frag) (C fI : Addr) (n qual : Str) (params : Arguments) (body : List Stmt) (scope : Scope) : Prop where
  cls : ∃ nm q N bs bm sn sub ab col dd k0 k1 k2 k3 k5,
    K.lookup C = some (excClassObj nm q C N bs bm true sn sub ab col dd k0 k1 k2 k3 k5 "ValueError.__new__") ∧ HandSPX.refsVE bm = true
  sa : findIn K (.ref C) "__setattr__" = some (some (.builtin "object.__setattr__"))
  noN : findIn K (.ref C) n = some none
  iC : findIn K (.ref C) "__init__" = some (some (.ref fI))
  tC : typeIn K (.ref fI) = some (.type "function")
  kC : keepIn K (.ref C) = true
  exC : subIn K (.ref C) (.type "BaseException") = some true
  veC : subIn K (.ref C) (.type "ValueError") = some true
  tyC : typeIn K (.ref C) = some (.type "type")
  up : ks_superIn K C C "__init__" = some (some (.builtin "ValueError.__init__"))
  me : mroIn K C (.ref C) = some true
  opq : nsIn K cStatics "thirdparty.any" = some none
  sup : nsIn K mainGlobals "super" = some none
  top : (P.main.scope.names.lookup ("super" : Str)).isSome = false
  fn : ∃ (oc : Value) (od : Option Addr) (doc pm : Value) (an : Option Addr) (ct : Value) (osl : Array (Option Value)) (cc cda : Addr)
    (cl : Value) (cld : Option Addr) (csl : Array (Option Value)) (ccl : Value) (cdd : Option Addr) (vs : Array Value) (ccs : Array (Option Value)) (file : Str) (tf : Tok),
    K.lookup fI = some ⟨oc, od, .func (fnX "__init__" qual params body scope [("__class__", cc)] .none .none doc pm an (.ref cda) ct), osl⟩ ∧
    codeIn K (.ref cda) qual = true ∧ K.lookup cc = some ⟨cl, cld, .cell (some (.ref C)), csl⟩ ∧ K.lookup cda = some ⟨ccl, cdd, .fields vs, ccs⟩ ∧
    vs[2]? = some (.str file tf) ∧ ((P.main.file : Str) == file) = true
/-- what the text of its __init__ must be -/
structure EText (n : Str) (params : Arguments) (body : List Stmt) (scope : Scope) (es : List Expr) (pj : Pos) : Prop where
  bd : ∃ p0 p1 p2 p4 p5 q0 q1 q2 q3, body = [.Expr (.Call (.Attribute (.Call (.Name "super" p0) [] [] p1) "__init__" p2) [.JoinedStr es pj] [] p4) p5, .Assign [.Attribute (.Name "self" q0) n q1] (.Name n q2) q3] ∧ (p2.endLine == p4.line) = true
  self : ∃ ar, (params.posonlyargs ++ params.args).head? = some ar ∧ ar.arg = "self"
  kind : scope.kind = .function
  co : scope.isCoroutine = false
  gen : scope.isGenerator = false
  cell : ∀ x ∈ scope.names, x.2 ≠ .cell
  lself : scope.names.lookup ("self" : Str) = some .local
  ln : scope.names.lookup n = some .local
  lcls : scope.names.lookup ("__class__" : Str) = some .free
  lsup : scope.names.lookup ("super" : Str) = some .globalImplicit
  ndb : (n == ("__debug__" : Str)) = false
  nself : n ≠ "self"
  bind : ∀ (q : Str) (cc : Addr) (doc pm : Value) (an : Option Addr) (cd ct u v : Value),
    bindArgs (fnX "__init__" q params body scope [("__class__", cc)] .none .none doc pm an cd ct) ⟨[u, v], []⟩ = pure [(("self" : Str), u), (n, v)]
  swap : ∀ (q0 q1 q2 q3 : Pos) (env : Env), swapsWith (.Name n q2) (some (.Attribute (.Name "self" q0) n q1)) q3.line env = pure false
theorem super_eq (p0 p1 p2 p4 pj : Pos) (es : List Expr) (env : Env) (hl : (p2.endLine == p4.line) = true) : eval (.Call (.Attribute (.Call (.Name "super" p0) [] [] p1) "__init__" p2) [.JoinedStr es pj] [] p4) env = (do
      let ov ← attributeBase (.Call (.Name "super" p0) [] [] p1) "__init__" env (eval (.Call (.Name "super" p0) [] [] p1) env)
      standAt p2.atName
      let (f, first) ← holding [ov] (getMethod ov "__init__" (do return (← importBound (.Call (.Name "super" p0) [] [] p1) env).getD true))
      callWith p4 f first (backTo p4 (starEach [.JoinedStr es pj] env)) []) := by
  rw [arm_eval_Call]
  have e : ∀ few o, methodCallPos few o env p2 p4 = pure p4 := by
    intro few o
    unfold methodCallPos
    rw [hl, Bool.or_true]
    rfl
  unfold methodCall
  simp only [e]
  rfl
/-- e is a text whatever the frame, read from n alone: nothing of the heap changes -/
def TextOf (P : Program) (w : World) (n : Str) (e : Expr) (v : Value) : Prop :=
  ∀ (A : Around) (env : Env) (m : Str → Option Value) (s : Shared) (Q : Value → Shared → Prop) (E : Value → Shared → Prop), s.heap.Ns env.locals m → m n = some v → env.scope.kind = .function → env.kindOf n = some .local →
    (∀ y t tk, Q (.str y t) { s with toks := tk }) → wpAny (model P w) A (eval e env) Q E s
/-- the parts of such a text -/
inductive Part (n : Str) : Expr → Prop
  | c {m : Str} {j : Nat} {p : Pos} (h : m.length ≤ 100000) : Part n (.Constant (.str m) j p)
  | f {p1 p2 : Pos} : Part n (.FormattedValue (.Name n p1) (-1) none p2)
def TxtV (v : Value) : Prop := (∃ y t, v = .str y t ∧ y.length ≤ 100000) ∨ ∃ i t, v = .int i t ∧ i.natAbs < 10 ^ 12
theorem text_parts {P : Program} {w : World} {n : Str} {v : Value} (hv : TxtV v) (nd : (n == ("__debug__" : Str)) = false) {v1 v2 : Expr} {rest : List Expr} {pos : Pos}
    (hp : ∀ e ∈ v1 :: v2 :: rest, Part n e) (hl : (v1 :: v2 :: rest).length ≤ 20) : TextOf P w n (.JoinedStr (v1 :: v2 :: rest) pos) v := by
  intro A env m s Q E hn hm hk hloc q
  have loop : ∀ (es : List Expr) (acc : Str) (s1 : Shared) (R : Str → Shared → Prop), (∀ e ∈ es, Part n e) → acc.length + 100000 * es.length ≤ 3000000 → s1.heap = s.heap → s1 = { s with toks := s1.toks } →
      (∀ out tk, out.length ≤ 3000000 → R out { s with toks := tk }) → Joins (model P w) A E (evalEach es env) acc R s1 := by
    intro es
    induction es with
    | nil =>
      intro acc s1 R _ hz _ e1 k
      have e0 : evalEach [] env = [] := by first | rfl | simp [evalEach]
      rw [e0, e1]
      exact k acc s1.toks (by simpa using hz)
    | cons e es ih =>
      intro acc s1 R hpe hz eh e1 k
      have e0 : evalEach (e :: es) env = eval e env :: evalEach es env := by first | rfl | simp [evalEach]
      rw [e0]
      rw [List.length_cons] at hz
      have more : ∀ (y : Str) (t : Tok) (tk : Nat), y.length ≤ 100000 → ∃ y' t', Value.str y t = .str y' t' ∧ (acc ++ y').length ≤ sizeLine ∧ Joins (model P w) A E (evalEach es env) (acc ++ y') R { s with toks := tk } := by
        intro y t tk hy
        have la : (acc ++ y).length = acc.length + y.length := strLen_append acc y
        refine ⟨y, t, rfl, ?_, ih (acc ++ y) _ R (fun x hx => hpe x (List.mem_cons_of_mem _ hx)) (by omega) rfl rfl k⟩
        rw [la]
        exact Nat.le_trans (show _ ≤ 3000000 by omega) (by decide)
      rcases hpe e List.mem_cons_self with ⟨hm'⟩ | _
      · rename_i m' j p
        refine wpAny_Constant_str ?_
        rw [e1]
        exact more _ _ _ hm'
      · refine wpAny_FormattedValue_plain (wpAny_Name (wpAny_loadName_local hk hloc (by rw [eh]; exact hn) hm ?_) nd)
        rcases hv with ⟨y, t, rfl, hy⟩ | ⟨i, t, rfl, hi⟩
        · refine wpAny_formatField_str ?_ ?_ (Nat.le_trans hy (by decide))
          · rw [e1]
            exact more _ _ _ hy
          · rw [e1]
            exact more _ _ _ hy
        · have h1 : i.natAbs.log2 < 1920 := Nat.lt_of_lt_of_le (PySem.Flt.log2_lt_of (by decide : 0 < 40) (Nat.lt_of_lt_of_le hi (by decide))) (by decide)
          refine wpAny_formatField_int h1 ?_
          rw [e1]
          refine more _ _ _ (Nat.le_trans (?_ : _ ≤ 13) (by decide))
          exact PyData.shown_int_le hi
  refine wpAny_JoinedStr (loop _ Str.empty s _ hp ?_ rfl rfl fun out tk hz => ⟨Nat.le_trans hz (by decide), q _ _ _⟩)
  show 0 + 100000 * _ ≤ _
  omega
/-- what __init__ leaves of a fresh error at x -/
structure InitAt (h h' : Heap) (x C dx : Addr) (n : Str) (v : Value) : Prop where
  keep : ∀ b o, b ≠ x → h.get? b = some o → h'.get? b = some o
  obj : ∃ t1, h'.get? x = some { cls := .ref C, dict := some dx, data := .fields #[.ref t1, .none, .none, .none, .bool false, .none] }
  big : h.objs.size ≤ dx
  ne : dx ≠ x
  ns : h'.Ns1 dx (fun y => if y = n then some v else none)
/-- ValueError.__init__ bound to x, called -/
theorem call_mw {P : Program} {w : World} {A : Around} {E : Value → Shared → Prop} {Q : Value → Shared → Prop} {h : Heap} {g : Array GenState} {d : Drawn} {t : Nat} {os : OsState}
    {nm q : Str} {C N u x t0 : Addr} {bs bm : List Value} {sn : List Str} {sub : List Value} {ab : Bool} {col : Option Bool} {dd : Option Addr} {k0 k1 k2 k3 k5 : Option Value} {rest : List Value}
    (hC : h.get? C = some (excClassObj nm q C N bs bm true sn sub ab col dd k0 k1 k2 k3 k5 "ValueError.__new__")) (hx : h.get? x = some (HandSPX.excO C t0))
    (hu : h.get? u = some (kxs_mw "ValueError.__init__" x)) (hz : rest.length ≤ sizeLine)
    (k : ∀ h' t1, (∀ b o, b ≠ x → h.get? b = some o → h'.get? b = some o) → h'.get? x = some (HandSPX.excO C t1) → Q .none ⟨h', g, d, t, os⟩) :
    wpAny (model P w) A (call (.ref u) rest) Q E ⟨h, g, d, t, os⟩ := by
  have FB := PySem.F.excBase_ValueError
  refine wpAny_call (codeAny_of_tree ?_)
  show wpAny _ A.in1 (callAny (.ref u) ⟨rest, []⟩) _ _ _
  unfold callAny
  refine wpAny_bind (wpAny_load hu ?_)
  have c1 : (Value.type "method-wrapper" == Value.type "method" || Value.type "method-wrapper" == Value.type "builtin_function_or_method"
      || Value.type "method-wrapper" == Value.type "method-wrapper") = true := by decide
  simp only [kxs_mw, c1, if_true]
  refine KFB.if_so (by decide) ?_
  refine wpAny_bind (check_bound_init FB.toExcCallFacts hC hx rfl ?_)
  refine wpAny_bind (wpAny_pure (wpAny_pure ⟨plainId_quiet FB.init.plain _, codeAny_builtin FB.initEntry ?_⟩))
  exact exc_init_tree (cls := .ref C) (t0 := t0) (dv := none) (c2 := .none) (c3 := .none) (b4 := .bool false) hx hz fun h' k' e' _ => k h' _ k' e'
section
variable {P : Program} {w : World} {A : Around} {R : Result → Shared → Prop} {s : Shared} {K : PySem.W.Frag} {mg mb : Str → Option Value} {C fI x t0 : Addr} {n qual : Str} {params : Arguments} {body : List Stmt} {scope : Scope} {es : List Expr} {pj : Pos} {v : Value}
theorem init_sup (T : ETxt P K C fI n qual params body scope) (S : EText n params body scope es pj) (te : TextOf P w n (.JoinedStr es pj) v) (X : K.In s.heap) (hg : s.heap.Ns mainGlobals mg) (hbt : s.heap.Ns builtinsNs mb)
    (hbb : ∀ x : Str, x ≠ "__name__" → mb x = bootBuiltins x) (hlim : s.heap.NoLimit) (hx : s.heap.get? x = some (HandSPX.excO C t0)) (hnx : K.lookup x = none) (hroom : A.depth < recursionLimit)
    (hq : ∀ h' tk dx, InitAt s.heap h' x C dx n v → R (.ok (.ret .none)) { s with heap := h', toks := tk }) :
    codeAny (model P w) A (.call (.ref fI) ⟨[.ref x, v], []⟩) R s := by
  obtain ⟨oc, od, doc, pm, an, ct, osl, cc, cda, cl, cld, csl, ccl, cdd, vs, ccs, file, tf, hf, hcd, hcc, hcda, hvs, hfile⟩ := T.fn
  obtain ⟨nm, q, N, bs, bm, sn, sub, ab, col, dd, k0, k1, k2, k3, k5, hC, hbm⟩ := T.cls
  obtain ⟨p0, p1, p2, p4, p5, q0, q1, q2, q3, hbd, hline⟩ := S.bd
  obtain ⟨ar, har, hself⟩ := S.self
  have hcl : clsIn K C = some { name := nm, bases := bs, mro := .ref C :: bm, ns := N, qualname := q, hasDict := true, slotNames := sn, subclasses := sub, abstract := ab, collection := col, hasDel := false } := by
    unfold clsIn
    rw [hC]
  have hxC : x ≠ C := by
    intro z
    rw [z, X _ _ hC] at hx
    cases hx
  refine ks_codeAny_call_defAt (binds := [(("self" : Str), .ref x), (n, v)]) hroom (X _ _ hf) rfl hlim (codeRec_of X hcd) rfl (BindsTo.of_eq (S.bind _ _ _ _ _ _ _ _ _)) S.cell ?_ (fun h₁ hn k => ?_) S.co S.gen S.kind
  · intro y hy
    simp only [List.mem_cons, List.not_mem_nil, or_false] at hy
    rcases hy with rfl | rfl
    · exact S.lself
    · exact S.ln
  have X1 : K.In h₁ := X.keeps k
  have hx1 := k _ _ hx
  have lself : ([(("self" : Str), Value.ref x), (n, v)].reverse.lookup ("self" : Str)) = some (.ref x) := by
    have z : ((("self" : Str)) == n) = false := by simpa using (Ne.symm S.nself)
    simp [List.lookup, z]
  have ln : ([(("self" : Str), Value.ref x), (n, v)].reverse.lookup n) = some v := by
    simp [List.lookup]
  subst hbd
  have hin : ∀ (fd : FuncData) (L b : Addr), fd.scope = scope → interactive (callEnv fd L b) = false := by
    intro fd L b e
    unfold interactive
    have z : (callEnv fd L b).scope.kind = .function := by
      show fd.scope.kind = .function
      rw [e, S.kind]
    rw [z]
    rfl
  refine ks_wpAt_execs_cons ?_
  refine ks_wpAt_Expr_any (hi := hin _ _ _ rfl) ?_
  refine ks_wpAt_MethodCall (he := super_eq _ _ _ _ _ _ _ hline) ?_
  refine ks_wpAt_mono (Q := fun so s2 => so = .ref h₁.objs.size ∧ ∃ h2, s2 = { s with heap := h2, toks := s.toks + 2 } ∧ h2.get? h₁.objs.size = some (ks_superObj C x C) ∧ ∀ y o, h₁.get? y = some o → h2.get? y = some o)
    (ks_wpAt_super_base (ar := ar) S.lsup S.lcls (by decide +kernel) rfl (X1 _ _ hf) rfl har rfl (X1 _ _ hcda) rfl hvs hfile T.top ?_) ?_ (fun _ _ z => z)
  · -- super()
    refine ks_loadName_global S.kind S.lsup (loadGlobal_builtin (hg.keeps k) (mg_none_of X hg T.sup) (hbt.keeps k) ((hbb _ (by decide +kernel)).trans (by rfl)) ⟨rfl, ?_⟩)
    refine wpAny_loadName_free S.kind S.lcls rfl ⟨_, X1 _ _ hcc, rfl⟩ ?_
    rw [hself]
    refine wpAny_loadName_local S.kind S.lself hn lself ?_
    refine ks_wpAny_isType_cls (X1 _ _ hC) rfl ⟨rfl, ?_⟩
    refine ks_wpAny_call_super (X1 _ _ hC) rfl hx1 rfl (fun c z => by cases z) (looks_mroIn X1 T.me) (fun h2 z k2 => ?_)
    exact ⟨rfl, h2, rfl, z, k2⟩
  · rintro so s2 ⟨rfl, h2, rfl, hso, k2⟩
    have X2 := X1.keeps k2
    have hx2 := k2 _ _ hx1
    have J : InstAt h2 x (HandSPX.excO C t0) C none := ⟨hx2, rfl, rfl, trivial⟩
    have hup : alongIn K "__init__" (((Value.ref C :: bm).dropWhile (· != .ref C)).drop 1) = some (some (.builtin "ValueError.__init__")) := by
      have z := T.up
      unfold ks_superIn at z
      rw [hcl] at z
      exact z
    refine kxs_getMethod kxs_ValueError hso (looks_opaque X2 T.opq) (l₀ := .ref C :: bm) (fun A' Q' E' s' k' q' => wpAny_bind ((looks_clsIn X2 hcl) A' _ E' s' k' (wpAny_pure q'))) rfl X2 hup
      (J.type.andThen (looks_subIn X2 T.veC)) hxC (by decide) ?_
    have hmw : (h2.push (kxs_mw "ValueError.__init__" x)).get? h2.objs.size = some (kxs_mw "ValueError.__init__" x) := Heap.get?_push_at rfl rfl
    have k3 : ∀ b o, h2.get? b = some o → (h2.push (kxs_mw "ValueError.__init__" x)).get? b = some o := fun b o z => Heap.get?_push_of_some _ z
    refine kxs_callWith (i := "ValueError.__init__") (x := x) rfl (evalArgs_plain (Calls.spliced_cons ?_))
    refine te _ _ _ _ _ _ ((hn.keeps k2).keeps k3) ln S.kind S.ln (fun y t tk => ?_)
    refine Calls.spliced_nil ⟨hmw, ?_⟩
    refine call_mw (k3 _ _ (X2 _ _ hC)) (k3 _ _ hx2) hmw (show 1 ≤ sizeLine by decide) (fun h4 t1 k4 hx4 => ?_)
    have old4 : ∀ b o, b ≠ x → h₁.get? b = some o → h4.get? b = some o := fun b o hb z => k4 b o hb (k3 _ _ (k2 _ _ z))
    have hL : s.heap.objs.size ≠ x := Nat.ne_of_gt (Heap.lt_size hx)
    have hn4 : h4.Ns s.heap.objs.size (fun y => [(("self" : Str), Value.ref x), (n, v)].reverse.lookup y) := by
      obtain ⟨o, es1, ep1, z1, z2, z3⟩ := hn
      exact ⟨o, es1, ep1, old4 _ _ hL z1, z2, z3⟩
    have X4 : K.In h4 := by
      intro b o z
      refine old4 b o (fun e1 => ?_) (X1 _ _ z)
      rw [e1, hnx] at z
      cases z
    -- self.n = n
    refine wpAt_of_wpAny (wpAny_execs_cons (plainObj_wpAny_Assign_Attribute ?_ (S.swap _ _ _ _ _)))
    refine wpAny_Name (wpAny_loadName_local S.kind S.ln hn4 ln ?_) S.ndb
    refine wpAny_Name (wpAny_loadName_local S.kind S.lself hn4 lself ?_) (by decide)
    refine set_plain X4 (ox := HandSPX.excO C t1) (od := none) ⟨hx4, rfl, rfl, trivial⟩ T.sa ?_
    refine HandSPX.exc_osa X4 hx4 hcl (show HandSPX.refsVE (.ref C :: bm) = true from hbm) rfl T.noN (fun h5 tk5 dx k5 dn dne hx5 hn5 => ?_)
    show wpAny _ _ (execs _ _) _ _ _
    have sz : s.heap.objs.size ≤ h4.objs.size := Nat.le_of_lt hn4.lt
    refine wpAny_execs_nil (hq h5 _ dx ⟨fun b o hb z => ?_, ⟨t1, hx5⟩, Nat.le_trans sz dn, dne, hn5⟩)
    exact k5 b o hb (old4 b o hb (k _ _ z))
end
end Ask

set_option Elab.async false
set_option linter.all false
set_option maxRecDepth 100000
set_option maxHeartbeats 2000000
/-! such an error made: raised, or held as a value -/
namespace Ask
open PySem PySem.Spec L2 PySem.W
open PyProof.Rows PySem.Calls
/-- an error of C made at e, its dict at d -/
structure MadeE (h h' : Heap) (e C d : Addr) (n : Str) (v : Value) : Prop where
  keep : ∀ b o, h.get? b = some o → h'.get? b = some o
  new : h.objs.size ≤ e
  obj : ∃ t1, h'.get? e = some { cls := .ref C, dict := some d, data := .fields #[.ref t1, .none, .none, .none, .bool false, .none] }
  big : h.objs.size ≤ d
  ne : d ≠ e
  ns : h'.Ns1 d (fun y => if y = n then some v else none)
section
variable {P : Program} {w : World} {A : Around} {R : Result → Shared → Prop} {s : Shared} {K : PySem.W.Frag} {mg mb : Str → Option Value} {C fI : Addr} {n qual : Str} {params : Arguments} {body : List Stmt} {scope : Scope} {es : List Expr} {pj : Pos} {v : Value}
theorem err_made (T : ETxt P K C fI n qual params body scope) (S : EText n params body scope es pj) (te : TextOf P w n (.JoinedStr es pj) v) (X : K.In s.heap) (hg : s.heap.Ns mainGlobals mg) (hbt : s.heap.Ns builtinsNs mb)
    (hbb : ∀ x : Str, x ≠ "__name__" → mb x = bootBuiltins x) (hlim : s.heap.NoLimit) (hroom : A.depth + 1 < recursionLimit)
    (hq : ∀ h' tk e d, MadeE s.heap h' e C d n v → R (.ok (.ret (.ref e))) { s with heap := h', toks := tk }) :
    codeAny (model P w) A (.call (.ref C) ⟨[v], []⟩) R s := by
  obtain ⟨nm, q, N, bs, bm, sn, sub, ab, col, dd, k0, k1, k2, k3, k5, hC, hbm⟩ := T.cls
  obtain ⟨hp, g, dr, tk, os⟩ := s
  have k : ∀ b o, hp.get? b = some o → ((hp.push (kdv_tup [v])).push (HandSPX.excO C hp.objs.size)).get? b = some o :=
    fun b o z => Heap.get?_push_of_some _ (Heap.get?_push_of_some _ z)
  have hat : ((hp.push (kdv_tup [v])).push (HandSPX.excO C hp.objs.size)).get? (hp.objs.size + 1) = some (HandSPX.excO C hp.objs.size) := by heap_get
  have hnx : K.lookup (hp.objs.size + 1) = none := by
    cases z : K.lookup (hp.objs.size + 1) with
    | none => rfl
    | some o =>
      have y : hp.objs.size + 1 < hp.objs.size := Heap.lt_size (show hp.get? _ = some o from X _ _ z)
      omega
  refine HandSPX.call_own PySem.F.excBase_ValueError (fun Y => HandSPX.refsVE_contains Y bm hbm) (X _ _ hC) (looks_findIn X T.iC) (fun self => bind_fn X self T.tC) (show 1 ≤ sizeLine by decide) ?_
  refine init_sup (s := ⟨(hp.push (kdv_tup [v])).push (HandSPX.excO C hp.objs.size), g, dr, tk, os⟩) T S te (X.keeps k) (hg.keeps k) (hbt.keeps k) hbb (hlim.keeps k) hat hnx (show A.depth + 1 < recursionLimit from hroom) ?_
  rintro h' tk' dx ⟨keep, obj, big, ne, ns⟩
  have z : hp.objs.size + 2 ≤ dx := by
    have y := big
    dsimp only at y
    rw [Heap.size_push, Heap.size_push] at y
    exact y
  exact ⟨rfl, hq h' tk' (hp.objs.size + 1) dx ⟨fun b o y => keep b o (Nat.ne_of_lt (Nat.lt_succ_of_lt (Heap.lt_size y))) (k b o y), Nat.le_succ _, obj, by show hp.objs.size ≤ dx; omega, ne, ns⟩⟩
end
/-- a text or a number that such an error tells -/
def TV : V → Prop
  | .str y => y.length ≤ 100000
  | .int i => i.natAbs < 10 ^ 12
  | _ => False
theorem TV.txt : ∀ {v : V} {u : Value}, TV v → RelV v u → TxtV u
  | .str y, _, h, ⟨t, rfl⟩ => .inl ⟨y, t, rfl, h⟩
  | .int i, _, h, ⟨t, rfl⟩ => .inr ⟨i, t, rfl, h⟩
theorem relO_one {n : Str} {v : V} {u : Value} (r : RelV v u) (f : Str) : RelO (List.lookup f [(n, v)]) (if f = n then some u else none) := by
  by_cases h : f = n
  · subst h
    rw [if_pos rfl]
    have q : List.lookup f [(f, v)] = some v := by simp [List.lookup]
    rw [q]
    exact r
  · rw [if_neg h]
    have q : (f == n) = false := by simpa using h
    have q2 : List.lookup f [(n, v)] = none := by simp [List.lookup, q]
    rw [q2]
    trivial
/-- C(e), raised -/
def tMkE (C : Addr) (n : Str) (ta : TA) : L2.St → Hp → XK → Prop := fun σ H Q => ta σ H fun vs H1 => ∃ v, vs = [v] ∧ TV v ∧ ∀ d, H1 d = none → Q (.ref C) (some d) (upd H1 d (.xd [(n, v)]))
/-- C(e), a value -/
def tErr (C : Addr) (n : Str) (ta : TA) : TE := fun σ H Q => ta σ H fun vs H1 => ∃ v, vs = [v] ∧ TV v ∧ ∀ d e, H1 d = none → H1 e = none → d ≠ e → Q (.ref e) (upd (upd H1 d (.xd [(n, v)])) e (ExK (.ref C) (some d) e))
section
variable {X : Cx} {C fI : Addr} {x n qual : Str} {params : Arguments} {body : List Stmt} {scope : Scope} {es : List Expr} {pj p pos : Pos} {a : Expr} {ta : TA} {k : Nat}
theorem pmk_err (gC : X.mg x = some (.ref C)) (T : ETxt X.prog X.K C fI n qual params body scope) (S : EText n params body scope es pj) (te : ∀ u, TxtV u → TextOf X.prog X.w n (.JoinedStr es pj) u)
    (hr : Room k X.A) (ha : PA X [a] ta) (hg : Gl X x := by rfl) (hdb : (x == ("__debug__" : Str)) = false := by decide)
    (he : starEach (a :: []) X.env = (false, eval a X.env) :: starEach [] X.env := by rfl) (hpl : (backTo pos (starEach [] X.env)).any (·.1) = false := by rfl) :
    PMk X (.Call (.Name x p) [a] [] pos) (tMkE C n ta) := by
  intro pins s σ H Q I h
  refine wpAny_Call_Name_kw (ld_glob I hg gC ?_ hdb)
  refine callWith_K (h₀ := X.base) I.ok.mod.kin T.kC (thn (ha.run pos pins s σ H _ I h) ?_) he hpl
  rintro us s1 ⟨vs, H1, I1, r1, v, rfl, hv, q⟩
  refine ⟨I1.kIn, ?_⟩
  obtain ⟨u, rfl, rv⟩ := vals1 r1
  obtain ⟨mb, hbt, hbb⟩ := I1.ok.mod.blt
  have hlim := I1.nolimit
  have hgl := I1.ok.mod.glob.keeps I1.bk
  have hbt1 := hbt.keeps I1.bk
  obtain ⟨hp, g, dr, tk, os⟩ := s1
  refine wpAny_call (err_made T S (te _ (hv.txt rv)) I1.kIn hgl hbt1 hbb hlim (by have := hr.dp; omega) fun h' tk' e d M => ?_)
  show MkP X pins σ Q (.ref e) ⟨h', g, dr, tk', os⟩
  obtain ⟨t1, hoe⟩ := M.obj
  have hns := M.ns
  -- the heap without the error
  obtain ⟨G, g1, g2⟩ := restrict h' fun b => decide (b ≠ e)
  have gk : ∀ b, b ≠ e → G.get? b = h'.get? b := fun b hb => g1 b (decide_eq_true hb)
  have ge : G.get? e = none := g2 e (by simp)
  have old : ∀ b o, hp.get? b = some o → G.get? b = some o := by
    intro b o z
    rw [gk b (Nat.ne_of_lt (Nat.lt_of_lt_of_le (Heap.lt_size z) M.new))]
    exact M.keep b o z
  have ob : ObjOk X.prog X.w (upd H1 d (.xd [(n, v)])) G d (.xd [(n, v)]) := ⟨_, hns.at (fun o z => (gk d M.ne).trans z), fun f => relO_one rv f⟩
  have J : L2.Inv X pins σ (upd H1 d (.xd [(n, v)])) ⟨G, g, dr, tk', os⟩ := I1.laid (t' := tk') old M.big ob
  refine ⟨e, _, _, ⟨G, g, dr, tk', os⟩, _, .ref C, some d, rfl, J, fun b o z => ?_, ge, hoe, ⟨rfl, rfl⟩, rfl, rfl, ?_, rfl, I1.bare, raises_own T.exC T.tyC, q d (I1.hok.fresh M.big)⟩
  · by_cases hb : b = e
    · have y : G.get? b = some o := z
      rw [hb, ge] at y
      cases y
    · exact (gk b hb).symm.trans z
  · rw [upd_ne (Ne.symm M.ne)]
    exact I1.hok.fresh M.new
theorem pe_err (gC : X.mg x = some (.ref C)) (T : ETxt X.prog X.K C fI n qual params body scope) (S : EText n params body scope es pj) (te : ∀ u, TxtV u → TextOf X.prog X.w n (.JoinedStr es pj) u)
    (hr : Room k X.A) (ha : PA X [a] ta) (hg : Gl X x := by rfl) (hdb : (x == ("__debug__" : Str)) = false := by decide)
    (he : starEach (a :: []) X.env = (false, eval a X.env) :: starEach [] X.env := by rfl) (hpl : (backTo pos (starEach [] X.env)).any (·.1) = false := by rfl) :
    PE X (.Call (.Name x p) [a] [] pos) (tErr C n ta) := by
  refine ⟨fun pins s σ H Q I h => ?_⟩
  refine wpAny_Call_Name_kw (ld_glob I hg gC ?_ hdb)
  refine callWith_K (h₀ := X.base) I.ok.mod.kin T.kC (thn (ha.run pos pins s σ H _ I h) ?_) he hpl
  rintro us s1 ⟨vs, H1, I1, r1, v, rfl, hv, q⟩
  refine ⟨I1.kIn, ?_⟩
  obtain ⟨u, rfl, rv⟩ := vals1 r1
  obtain ⟨mb, hbt, hbb⟩ := I1.ok.mod.blt
  have hlim := I1.nolimit
  have hgl := I1.ok.mod.glob.keeps I1.bk
  have hbt1 := hbt.keeps I1.bk
  obtain ⟨hp, g, dr, tk, os⟩ := s1
  refine wpAny_call (err_made T S (te _ (hv.txt rv)) I1.kIn hgl hbt1 hbb hlim (by have := hr.dp; omega) fun h' tk' e d M => ?_)
  obtain ⟨t1, hoe⟩ := M.obj
  have hd1 : H1 d = none := I1.hok.fresh M.big
  have he1 : H1 e = none := I1.hok.fresh M.new
  have hns := M.ns
  obtain ⟨G, g1, g2⟩ := restrict h' fun b => decide (b ≠ e)
  have gk : ∀ b, b ≠ e → G.get? b = h'.get? b := fun b hb => g1 b (decide_eq_true hb)
  have ge : G.get? e = none := g2 e (by simp)
  have old : ∀ b o, hp.get? b = some o → G.get? b = some o := by
    intro b o z
    rw [gk b (Nat.ne_of_lt (Nat.lt_of_lt_of_le (Heap.lt_size z) M.new))]
    exact M.keep b o z
  have ob : ObjOk X.prog X.w (upd H1 d (.xd [(n, v)])) G d (.xd [(n, v)]) := ⟨_, hns.at (fun o z => (gk d M.ne).trans z), fun f => relO_one rv f⟩
  have J : L2.Inv X pins σ (upd H1 d (.xd [(n, v)])) ⟨G, g, dr, tk', os⟩ := I1.laid (t' := tk') old M.big ob
  have e2 : upd H1 d (HO.xd [(n, v)]) e = none := by
    rw [upd_ne (Ne.symm M.ne)]
    exact he1
  have J2 := J.laidN (h' := h') (t' := tk') (fun b o z => by
    by_cases hb : b = e
    · have y : G.get? b = some o := z
      rw [hb, ge] at y
      cases y
    · exact (gk b hb).symm.trans z) ge e2 (exK_ok (cls := .ref C) (d := some d) hoe ⟨rfl, rfl⟩ rfl)
  exact ⟨.ref e, _, J2, rfl, q d e hd1 he1 M.ne⟩
end
/-- a class of errors, as clauses and isinstance ask it -/
structure ErrC (K : PySem.W.Frag) (C : Addr) : Prop where
  is : ExcC K C
  ic : isClsIn K C = true
  ty : typeIn K (.ref C) = some (.type "type")
  ss : subIn K (.ref C) (.ref C) = some true
  kp : keepIn K (.ref C) = true
/-- o.m(e, ..), a method that may raise, within a try: what is wished of its error may speak of the slots -/
def tMethX (C : Addr) (m : Str) (sp : Sp) (E : L2.St → XK) (ta : TE) (t : TA) : TE := fun σ H Q => ta σ H fun x H1 => ∃ a dx fs, x = .ref a ∧
  H1 a = some (.ins C dx fs) ∧ fs.lookup m = none ∧ t σ H1 fun vs H2 => sp (x :: vs) H2 Q (E σ)
theorem pe_methX {X : Cx} {CX : CXT} {k : Nat} {C f : Addr} {fd : FuncData} {ps : List Str} {sp : Sp} {E : L2.St → XK} {o e : Expr} {es : List Expr} {m : Str} {pos apos : Pos} {ta : TE} {t : TA} {pl : Sem Bool}
    (he : PE X o ta) (c : Cls X.K C) (hm : Meth X.K C m f) (F : FnOk X.prog X.w X.K X.mg X.base CX k f fd ps sp) (hr : Room k X.A) (hb : Binds X.K fd ps [])
    (hx : ∀ σ, PassesAt CX X σ (E σ)) (ha : PA X (e :: es) t)
    (hst : starEach (e :: es) X.env = (false, eval e X.env) :: starEach es X.env := by rfl)
    (hpl : (backTo pos (starEach es X.env)).any (·.1) = false := by rfl)
    (ht : eval (.Call (.Attribute o m apos) (e :: es) [] pos) X.env = (do
      let ov ← eval o X.env; standAt apos.atName
      let (f, first) ← holding [ov] (getMethod ov m pl)
      callWith pos f first (backTo pos (starEach (e :: es) X.env)) (backToKw pos (keywordEach [] X.env))) := by rfl) :
    PE X (.Call (.Attribute o m apos) (e :: es) [] pos) (tMethX C m sp E ta t) := by
  refine ⟨fun pins s σ H Q I h => ?_⟩
  refine methodCall_KW (pl := pl) (thn (he.run pins s σ H _ I h) ?_) ht
  rintro u s1 ⟨x, H1, I1, rx, a, dx, fs, ex, ea, l, q⟩
  subst ex
  obtain rfl : u = Value.ref a := rx
  refine getmeth_ok I1 ea c hm l ?_
  refine callWith_K (first := [.ref a]) (h₀ := X.base) I.ok.mod.kin hm.kp (thn (ha.run pos pins s1 σ H1 _ I1 q) ?_) hst hpl
  rintro us s2 ⟨vs, H2, I2, r, q2⟩
  exact ⟨I2.kIn, run_fnS (us := .ref a :: us) (vs := .ref a :: vs) F hr hb (hx σ) I2 (.cons rfl r) q2⟩
end Ask

set_option Elab.async false
set_option linter.all false
set_option maxRecDepth 100000
set_option maxHeartbeats 2000000
/-! a law that hands lambdas to a def which keeps their error; its entry, with the table of its code objects tracked -/
namespace Ask
open PySem PySem.Spec L2
open PyProof.Rows
/-- an error in the air stands over as many slots as there are names -/
theorem takes_len {X : Cx} {W : WX} (tk : Takes X W) : Takes X (fun cls d σ H => σ.length = X.N.length → W cls d σ H) := by
  intro u s' xx
  obtain ⟨a, B, sI, pins, σ, H, cls, d, e, I, nb, up, sky, na, os, ag, w⟩ := xx
  exact tk u s' ⟨a, B, sI, pins, σ, H, cls, d, e, I, nb, up, sky, na, os, ag, w I.len⟩
/-- what of a heap the law's call sees: the script, sys.modules, the law's table -/
def seenT (K : PySem.W.Frag) (o1 : Obj) (t a : Addr) (vs : List Value) (ns : List Int) : Hp := fun b =>
  if b = t then some (.tbl #[]) else seenS K o1 a vs ns b
def spLawT (K : PySem.W.Frag) (t : Addr) : Sp := fun vs H Q _ => ∃ (s : Addr) (ns : List Int), vs = [.ref s] ∧
  SqL K H s (ns.map V.int) ∧ ns.length ≤ 63 ∧ Sys H ∧ H t = some (.tbl #[]) ∧ ∀ H', Q (.bl true) H'
theorem law_goT {P : Program} {w : World} {K : PySem.W.Frag} {mg mb ms : Str → Option Value} {k : Nat}
    {fa a c t : Addr} {fd : FuncData} {x : Str} {sp : Sp} {s₁ : Shared} {vs : List Value} {ns : List Int}
    (KX : K.In s₁.heap) (hK1 : K.lookup sysModules = none) (hsm : s₁.heap.Ns sysModules ms) (hns : s₁.heap.Ns mainGlobals mg) (hb : s₁.heap.Ns builtinsNs mb)
    (hbb : ∀ x : Str, x ≠ "__name__" → mb x = bootBuiltins x) (hlim : s₁.heap.NoLimit) (hg : s₁.gens = #[])
    (ht : s₁.heap.get? t = some { cls := .none, data := .fields #[] }) (nt : K.lookup t = none) (hC : PySem.W.CodeHd s₁.heap c t)
    (hbm : ∃ (bm : Addr) (ob : Obj), mg "__builtins__" = some (.ref bm) ∧ bm ≠ builtinsNs ∧ s₁.heap.get? bm = some ob ∧ ob.cls = .type "module" ∧ ob.dict = some builtinsNs ∧ ob.data = .plain)
    (ha : s₁.heap.get? a = some { cls := .type "list", data := .seq vs.toArray }) (hi : IntsAre vs ns)
    (hl : ns.length ≤ sizeLine) (hr : Room k callerA)
    (F : ∀ base : Heap, K.In base → base.Ns mainGlobals mg → LamX.TabB base mg c t → GOk P w K mg base CX0 k fa fd [x] sp)
    (hbind : ∀ (s : Shared) (u : Value), BindsTo s fd ⟨[u], []⟩ [(x, u)])
    (hsp : ∀ H : Hp, Sys H → H t = some (.tbl #[]) → SqL K H a (ns.map V.int) → sp [.ref a] H (fun v _ => v = .bl true) fun _ _ _ => False) :
    codeAny (model P w) callerA (.call (.ref fa) ⟨[.ref a], []⟩)
      (fun r s' => r = .ok (.ret (.bool true)) ∧ OldK s₁.heap s'.heap ∧ s'.os = s₁.os ∧ AllBare s'.gens) s₁ := by
  have rv := vals_ints hi
  have lenV := hi.length
  obtain ⟨o1, es1, ep1, h1, d1, _⟩ := hsm
  have a1 : a ≠ sysModules := fun z => by
    rw [z, h1] at ha
    rw [Option.some.inj ha] at d1
    cases (show Data.seq vs.toArray _ = Data.dict es1 ep1 from d1)
  have t1 : t ≠ sysModules := fun z => by
    rw [z, h1] at ht
    rw [Option.some.inj ht] at d1
    cases d1
  have ta : t ≠ a := fun z => by
    rw [z, ha] at ht
    have y := congrArg Obj.data (Option.some.inj ht)
    cases (show Data.seq vs.toArray _ = Data.fields #[] from y)
  -- what is tracked
  have hA : ∀ b u, seenT K o1 t a vs ns b = some u → (b = t ∧ u = .tbl #[]) ∨ (b = sysModules ∧ u = .frz o1 (.own 0)) ∨
      (b = a ∧ K.lookup a = none ∧ u = .frz { cls := .type "list", data := .seq vs.toArray } (.lst (ns.map V.int))) := by
    intro b u e
    unfold seenT at e
    by_cases hbt : b = t
    · rw [if_pos hbt] at e
      exact .inl ⟨hbt, (Option.some.inj e).symm⟩
    rw [if_neg hbt] at e
    refine .inr ?_
    unfold seenS at e
    by_cases hb1 : b = sysModules
    · rw [if_pos hb1] at e
      exact .inl ⟨hb1, (Option.some.inj e).symm⟩
    rw [if_neg hb1] at e
    refine .inr ?_
    unfold seen at e
    cases q : K.lookup a with
    | some o =>
      rw [q] at e
      cases e
    | none =>
      rw [q] at e
      by_cases hba : b = a
      · exact ⟨hba, rfl, (Option.some.inj ((if_pos hba).symm.trans e)).symm⟩
      · cases (if_neg hba).symm.trans e
  have hobj : ∀ b u, seenT K o1 t a vs ns b = some u → ∃ o, s₁.heap.get? b = some o ∧ K.lookup b = none ∧ (b = t ∨ ∃ v, u = .frz o v) ∧ (o.data = .fields #[] ∨ (o.data = o1.data ∧ b = sysModules) ∨ o.data = .seq vs.toArray) := by
    intro b u e
    rcases hA b u e with ⟨rfl, rfl⟩ | ⟨rfl, rfl⟩ | ⟨rfl, z, rfl⟩
    · exact ⟨_, ht, nt, .inl rfl, .inl rfl⟩
    · exact ⟨_, h1, hK1, .inr ⟨_, rfl⟩, .inr (.inl ⟨rfl, rfl⟩)⟩
    · exact ⟨_, ha, z, .inr ⟨_, rfl⟩, .inr (.inr rfl)⟩
  have hS : SqL K (seenT K o1 t a vs ns) a (ns.map V.int) := by
    cases q : K.lookup a with
    | some o =>
      have e := KX a o q
      rw [ha] at e
      cases e
      exact Or.inr ⟨_, vs.toArray, _, q, rfl, rfl, rfl, by rw [List.size_toArray, lenV]; exact hl, by simpa using rv⟩
    | none =>
      refine Or.inl (Or.inr ⟨{ cls := .type "list", data := .seq vs.toArray }, ?_⟩)
      unfold seenT seenS seen
      rw [if_neg (Ne.symm ta), if_neg a1, q]
      exact if_pos rfl
  have hok : HOk P w (seenT K o1 t a vs ns) s₁.heap := fun b u e => by
    rcases hA b u e with ⟨rfl, rfl⟩ | ⟨rfl, rfl⟩ | ⟨rfl, _, rfl⟩
    · exact ht
    · exact ⟨h1, o1, h1⟩
    · exact ⟨ha, by rw [List.length_map]; exact hl, vs, _, rv, ha⟩
  have free : ∀ {b : Addr} {o : Obj}, b ≠ sysModules → s₁.heap.get? b = some o → o.data ≠ .fields #[] → (∀ y, o.data ≠ .seq y) → seenT K o1 t a vs ns b = none := by
    intro b o hb1 e h2 h3
    cases q : seenT K o1 t a vs ns b with
    | none => rfl
    | some u =>
      obtain ⟨o', e', _, _, d⟩ := hobj b u q
      rw [e] at e'
      cases e'
      rcases d with d | ⟨_, d⟩ | d
      · exact absurd d h2
      · exact absurd d hb1
      · exact absurd d (h3 _)
  have nsH : ∀ {b : Addr} {m : Str → Option Value}, b ≠ sysModules → s₁.heap.Ns b m → (hidT s₁.heap (seenT K o1 t a vs ns)).Ns b m := by
    intro b m hb1 ⟨o, es, ep, e, d, r⟩
    exact ⟨o, es, ep, hidT_get e (free hb1 e (by rw [d]; exact fun z => by cases z) (fun y z => by rw [d] at z; cases z)), d, r⟩
  have kH : K.In (hidT s₁.heap (seenT K o1 t a vs ns)) := by
    intro b o e
    refine hidT_get (KX b o e) ?_
    cases q : seenT K o1 t a vs ns b with
    | none => rfl
    | some u =>
      obtain ⟨_, _, z, _⟩ := hobj b u q
      rw [z] at e
      cases e
  have limH : (hidT s₁.heap (seenT K o1 t a vs ns)).NoLimit := by
    obtain ⟨mc, l1, l2⟩ := hlim
    exact ⟨mc, nsH (by decide) l1, l2⟩
  have TB : LamX.TabB (hidT s₁.heap (seenT K o1 t a vs ns)) mg c t := by
    have notD : ∀ {b : Addr} {o : Obj}, s₁.heap.get? b = some o → (∀ y z, o.data ≠ .dict y z) → b ≠ sysModules := by
      rintro b o e n rfl
      rw [h1] at e
      cases e
      exact n _ _ d1
    refine ⟨?_, ?_, fun z => ?_⟩
    · obtain ⟨o, us, file, tf, flags, tg, inF, text, tt, e1, r1, r2, r3, r4, r5, r6, r7, r8, hne⟩ := hC
      have q1 : ∀ y z, o.data ≠ .dict y z := fun y z q => by rw [r2] at q; cases q
      have q2 : o.data ≠ .fields #[] := fun q => by
        rw [r2] at q
        cases q
        simp at r3
      have q3 : ∀ y, o.data ≠ .seq y := fun y q => by rw [r2] at q; cases q
      exact ⟨o, us, file, tf, flags, tg, inF, text, tt, hidT_get e1 (free (notD e1 q1) e1 q2 q3), r1, r2, r3, r4, r5, r6, r7, r8, hne⟩
    · obtain ⟨bm, ob, m1, m2, m3, m4, m5, m6⟩ := hbm
      have nG : bm ≠ mainGlobals := fun q => by
        obtain ⟨o, es, ep, e, hd, _⟩ := hns
        rw [q, e] at m3
        cases m3
        rw [hd] at m6
        cases m6
      have nT : bm ≠ t := fun q => by
        rw [q, ht] at m3
        cases m3
        cases m6
      exact ⟨bm, ob, m1, m2, nG, nT, hidT_get m3 (free (notD m3 (fun y z q => by rw [m6] at q; cases q)) m3 (fun q => by rw [m6] at q; cases q) (fun y q => by rw [m6] at q; cases q)), m4, m5, m6⟩
    · obtain ⟨o, es, ep, e, hd, _⟩ := hns
      rw [z, ht] at e
      cases e
      cases hd
  have e0 : Env0 P w K mg (hidT s₁.heap (seenT K o1 t a vs ns)) callerA [] s₁ (seenT K o1 t a vs ns) := {
    frames := rfl
    mod := ⟨kH, nsH (by decide) hns, ⟨mb, nsH (by decide) hb, hbb⟩, limH⟩
    bs := fun b o e => of_hidT e
    bsz := Nat.le_of_eq (hidT_size _ _)
    funs := trivial
    frf := fun b hb => absurd (show b ∈ ([] : List Addr) from hb) (by simp)
    hok := hok
    bare := .of_eq hg }
  have sys : Sys (seenT K o1 t a vs ns) := ⟨o1, .own 0, by
    unfold seenT seenS
    rw [if_neg (Ne.symm t1)]
    exact if_pos rfl⟩
  have run := (F _ kH (nsH (by decide) hns) TB).run callerA [] s₁ (seenT K o1 t a vs ns) ⟨[.ref a], []⟩ [.ref a] [.ref a]
    _ _ hr rfl e0 (hbind s₁ (.ref a)) (.cons rfl .nil) (hsp _ sys (if_pos rfl) hS)
  refine codeAny_mono run fun r s' h => ?_
  cases r with
  | error e => exact False.elim h
  | ok fl =>
    cases fl with
    | next => exact False.elim h
    | brk => exact False.elim h
    | cont => exact False.elim h
    | ret u =>
      obtain ⟨v, H', os, bare, un, hok', r', q⟩ := h
      obtain rfl : v = V.bl true := q
      obtain rfl : u = Value.bool true := r'
      have key : ∀ b o, b ≠ t → s₁.heap.get? b = some o → s'.heap.get? b = some o := by
        intro b o hbt e
        cases q : seenT K o1 t a vs ns b with
        | none => exact un.keep b o e q (fun z => nomatch z) (fun z => nomatch z)
        | some u =>
          obtain ⟨o2, g2, _, f, _⟩ := hobj b u q
          rcases f with f | ⟨u2, rfl⟩
          · exact absurd f hbt
          · obtain ⟨g3, _⟩ := hok' b _ (un.frzs b _ _ q)
            rw [e] at g2
            cases g2
            exact g3
      obtain ⟨more, z⟩ := un.tbls t #[] (if_pos rfl)
      have hm : s'.heap.get? t = some { cls := .none, data := .fields (#[] ++ more) } := hok' t _ z
      refine ⟨rfl, ⟨fun b o e => ?_, fun b o e => ?_⟩, os, bare⟩
      · by_cases hbt : b = t
        · subst hbt
          rw [ht] at e
          cases e
          exact .inr (.inl ⟨(hC.tab ht).isCodeTable, rfl, #[], more, rfl, hm⟩)
        · exact .inl (key b o hbt e)
      · by_cases hbt : b = t
        · rw [hbt]
          exact ⟨_, hm⟩
        · exact ⟨o, key b o hbt e⟩
/-- what is known of the law at the head's heap h -/
theorem walk_lawT {l : PySem.W.OpenLaw} {k : Nat} {q : Program} {loose : List Str}
    {XP : (Str → Option Value) → Heap → Prop} {YP : World → Heap → Prop} {d : DefRec}
    {K : Params → PySem.W.Frag} (hn : l.most = some 63) (hdf : d.params.defaults = []) (hr : Room k callerA)
    (hq : importsNone q = true) (hK1 : ∀ w : World, (K w.params).lookup sysModules = none)
    (hY : ∀ (w : World) (h : Heap), YP w h → (K w.params).In h)
    (F : ∀ (w : World) (mg : Str → Option Value) (fa : Addr) (h : Heap), YP w h → (K w.params).In h →
      h.Ns mainGlobals mg → mg d.name = some (.ref fa) →
      ∃ (fd : FuncData) (c t : Addr), h.get? t = some { cls := .none, data := .fields #[] } ∧ (K w.params).lookup t = none ∧ PySem.W.CodeHd h c t ∧
        (∀ (s : Shared) (u : Value), BindsTo s fd ⟨[u], []⟩ [("script", u)]) ∧
        ∀ base : Heap, (K w.params).In base → base.Ns mainGlobals mg → LamX.TabB base mg c t →
          GOk l.prog w (K w.params) mg base CX0 k fa fd ["script"] (spLawT (K w.params) t)) :
    PySem.W.WalkO q loose XP YP l.row.toRowW d [] (fun f vs => PySem.call f vs) := by
  refine Att.attach_call hn hdf ?_
  intro w s₀ s₁ mg mb fa o pm cd doc a vs ns G Y ho hd hcd hmg hobj hints hlen hg
  have KX := hY w _ Y
  obtain ⟨fd, c, t, ht, nt, hC, hb, hF⟩ := F w mg fa _ Y KX G.T.g hmg
  obtain ⟨mm, hsm, _⟩ := (G.T.seer hq).mods
  exact law_goT KX (hK1 w) hsm G.T.g G.T.b G.T.builtins G.T.nolimit hg ht nt hC G.T.bmain hobj hints (Nat.le_trans hlen (by decide)) hr hF hb
    fun H hO hT hS => ⟨a, ns, rfl, hS, hlen, hO, hT, fun _ => rfl⟩
end Ask

set_option Elab.async false
set_option linter.all false
set_option maxRecDepth 100000
set_option maxHeartbeats 2000000
/-! a static method reached through an instance -/
namespace Ask
open PySem L2
open PyProof.Rows
structure SInst (K : PySem.W.Frag) (C : Addr) (m : Str) (p g : Addr) : Prop where
  pg : PySem.W.plainGet K C Str.empty = true
  ic : PySem.W.isClsIn K C = true
  at_ : PySem.W.findIn K (.ref C) m = some (some (.ref p))
  ty : PySem.W.typeIn K (.ref p) = some (.type "staticmethod")
  get : PySem.W.specialIn K (.ref p) "__get__" = some (some (.builtin "staticmethod.__get__"))
  tk : PySem.W.takesIn K (.ref p) = some false
  cp : PySem.W.copiedNames.contains m = false
  rc : ∃ rest, PySem.W.recIn K p "staticmethod" = some (.ref g :: rest)
  kp : PySem.W.keepIn K (.ref g) = true
def tSMethI (C : Addr) (m : Str) (sp : Sp) (E : XK) (ta : TE) (t : TA) : TE := fun σ H Q => ta σ H fun x H1 => ∃ a dx fs, x = .ref a ∧
  H1 a = some (.ins C dx fs) ∧ fs.lookup m = none ∧ t σ H1 fun vs H2 => sp vs H2 Q E
theorem pe_smethI {X : Cx} {CX : CXT} {k : Nat} {C p g : Addr} {sp : Sp} {E : XK} {o e : Expr} {es : List Expr} {m : Str} {pos apos : Pos} {ta : TE} {t : TA} {pl : Sem Bool} {fd : FuncData} {ps : List Str}
    (he : PE X o ta) (c : SInst X.K C m p g) (F : FnOk X.prog X.w X.K X.mg X.base CX k g fd ps sp) (hr : Room k X.A) (hb : Binds X.K fd ps [])
    (hx : Passes CX X E) (ha : PA X (e :: es) t)
    (hst : starEach (e :: es) X.env = (false, eval e X.env) :: starEach es X.env := by rfl)
    (hpl : (backTo pos (starEach es X.env)).any (·.1) = false := by rfl)
    (ht : eval (.Call (.Attribute o m apos) (e :: es) [] pos) X.env = (do
      let ov ← eval o X.env; standAt apos.atName
      let (f, first) ← holding [ov] (getMethod ov m pl)
      callWith pos f first (backTo pos (starEach (e :: es) X.env)) (backToKw pos (keywordEach [] X.env))) := by rfl) :
    PE X (.Call (.Attribute o m apos) (e :: es) [] pos) (tSMethI C m sp E ta t) := by
  refine ⟨fun pins s σ H Q I h => ?_⟩
  refine PySem.W.methodCall_KW (pl := pl) (thn (he.run pins s σ H _ I h) ?_) ht
  rintro u s1 ⟨x, H1, I1, rx, a, dx, fs, ex, ea, l, q⟩
  subst ex
  obtain rfl : u = Value.ref a := rx
  obtain ⟨mA, O, rr, _, _, _⟩ := ins_get I1.hok ea
  have hn : mA m = none := RelO.none_of (by rw [← l]; exact rr m)
  obtain ⟨od, J, hl⟩ := O.look
  have hl' : PySem.W.lookIn m od = some none := by rw [hl m, hn]
  have g0 := PySem.W.plainGet_of (show PySem.W.plainGet X.K C m = true from c.pg)
  obtain ⟨rest, hp⟩ := c.rc
  refine PySem.W.method_usual (r := some (.ref p)) I1.kIn J g0.1 g0.2 c.at_ ?_ ?_
  · show ((PySem.W.typeIn X.K (.ref p)).any fun t => t != .type "function" && t != .type "method_descriptor" && t != .type "wrapper_descriptor") = true
    rw [c.ty]
    first
      | rfl
      | decide +kernel
  refine PySem.W.get_bind I1.kIn J g0.1 (ClX.find_cm c.ic c.at_ c.get c.tk c.cp hl') g0.2 ?_
  have I2 := I1.tok (s1.toks + 1)
  refine wpAny_call (PySem.W.sm_get (s := { s1 with toks := s1.toks + 1 }) I2.kIn hp (PySem.W.handed_on rfl ?_))
  refine PySem.W.callWith_K (h₀ := X.base) I2.ok.mod.kin c.kp (thn (ha.run pos pins _ σ H1 _ I2 q) ?_) hst hpl
  rintro us s2 ⟨vs, H2, I3, rv, q2⟩
  exact ⟨I3.kIn, run_fn (us := us) F hr hb .nil hx I3 rv (by rw [List.append_nil]; exact q2)⟩
end Ask

set_option Elab.async false
set_option linter.all false
set_option maxRecDepth 100000
set_option maxHeartbeats 4000000
namespace Ask
open PySem L2
open PyProof.Rows
def top (i : Nat) : Stmt := PySem.Challenge.pw_askranges_k03_invalid_items.main.body.getD i (.Pass ⟨0, 0, 0, 0⟩)
abbrev s__wall : Stmt := top 0
theorem sc__wall : FnScope ["k"] ["k"] (defScope s__wall) := ⟨rfl, rfl, rfl, by decide +kernel, rfl, by decide +kernel, by decide +kernel⟩
abbrev s_is_whole : Stmt := top 5
theorem sc_is_whole : FnScope ["thing"] ["thing"] (defScope s_is_whole) := ⟨rfl, rfl, rfl, by decide +kernel, rfl, by decide +kernel, by decide +kernel⟩
abbrev s_Item___init__ : Stmt := inClass (top 8) 1
theorem sc_Item___init__ : FnScope ["self", "name", "least", "greatest", "price"] ["self", "name", "least", "greatest", "price"] (defScope s_Item___init__) := ⟨rfl, rfl, rfl, by decide +kernel, rfl, by decide +kernel, by decide +kernel⟩
abbrev s_Item_exact : Stmt := inClass (top 8) 2
theorem sc_Item_exact : FnScope ["cls", "name", "value"] ["cls", "name", "value"] (defScope s_Item_exact) := ⟨rfl, rfl, rfl, by decide +kernel, rfl, by decide +kernel, by decide +kernel⟩
abbrev s_Item_is_name : Stmt := inClass (top 8) 3
theorem sc_Item_is_name : FnScope ["thing", "sign"] ["thing"] (defScope s_Item_is_name) := ⟨rfl, rfl, rfl, by decide +kernel, rfl, by decide +kernel, by decide +kernel⟩
abbrev s_Item_name : Stmt := inClass (top 8) 4
theorem sc_Item_name : FnScope ["self"] ["self"] (defScope s_Item_name) := ⟨rfl, rfl, rfl, by decide +kernel, rfl, by decide +kernel, by decide +kernel⟩
abbrev s_Item_least : Stmt := inClass (top 8) 5
theorem sc_Item_least : FnScope ["self"] ["self"] (defScope s_Item_least) := ⟨rfl, rfl, rfl, by decide +kernel, rfl, by decide +kernel, by decide +kernel⟩
abbrev s_Item_greatest : Stmt := inClass (top 8) 6
theorem sc_Item_greatest : FnScope ["self"] ["self"] (defScope s_Item_greatest) := ⟨rfl, rfl, rfl, by decide +kernel, rfl, by decide +kernel, by decide +kernel⟩
abbrev s_Item_price : Stmt := inClass (top 8) 7
theorem sc_Item_price : FnScope ["self"] ["self"] (defScope s_Item_price) := ⟨rfl, rfl, rfl, by decide +kernel, rfl, by decide +kernel, by decide +kernel⟩
abbrev s_Item_is_exact : Stmt := inClass (top 8) 8
theorem sc_Item_is_exact : FnScope ["self"] ["self"] (defScope s_Item_is_exact) := ⟨rfl, rfl, rfl, by decide +kernel, rfl, by decide +kernel, by decide +kernel⟩
abbrev s_Item_value : Stmt := inClass (top 8) 9
theorem sc_Item_value : FnScope ["self"] ["self"] (defScope s_Item_value) := ⟨rfl, rfl, rfl, by decide +kernel, rfl, by decide +kernel, by decide +kernel⟩
abbrev s_Item___eq__ : Stmt := inClass (top 8) 13
theorem sc_Item___eq__ : FnScope ["self", "other"] ["self", "other"] (defScope s_Item___eq__) := ⟨rfl, rfl, rfl, by decide +kernel, rfl, by decide +kernel, by decide +kernel⟩
abbrev s__law_pen : Stmt := top 10
theorem sc__law_pen : FnScope ["script"] ["script"] (defScope s__law_pen) := ⟨rfl, rfl, rfl, by decide +kernel, rfl, by decide +kernel, by decide +kernel⟩
abbrev s__law_next : Stmt := top 11
theorem sc__law_next : FnScope ["pen", "index", "cell", "low", "mid", "top"] ["pen"] (defScope s__law_next) := ⟨rfl, rfl, rfl, by decide +kernel, rfl, by decide +kernel, by decide +kernel⟩
abbrev s__law_draw : Stmt := top 12
theorem sc__law_draw : FnScope ["pen", "below", "digit"] ["pen", "below"] (defScope s__law_draw) := ⟨rfl, rfl, rfl, by decide +kernel, rfl, by decide +kernel, by decide +kernel⟩
abbrev s__law_any : Stmt := top 13
theorem sc__law_any : FnScope ["pen", "levels", "road", "parts", "turn", "k"] ["pen", "levels"] (defScope s__law_any) := ⟨rfl, rfl, rfl, by decide +kernel, rfl, by decide +kernel, by decide +kernel⟩
abbrev s__law_word : Stmt := top 14
theorem sc__law_word : FnScope ["act", "caught", "e"] ["act"] (defScope s__law_word) := ⟨rfl, rfl, rfl, by decide +kernel, rfl, by decide +kernel, by decide +kernel⟩
abbrev s__law_is_name : Stmt := top 15
theorem sc__law_is_name : FnScope ["thing", "sign"] ["thing"] (defScope s__law_is_name) := ⟨rfl, rfl, rfl, by decide +kernel, rfl, by decide +kernel, by decide +kernel⟩
abbrev s__law_whole : Stmt := top 16
theorem sc__law_whole : FnScope ["thing"] ["thing"] (defScope s__law_whole) := ⟨rfl, rfl, rfl, by decide +kernel, rfl, by decide +kernel, by decide +kernel⟩
abbrev s__law_name : Stmt := top 17
theorem sc__law_name : FnScope ["pen", "signs", "word", "turn", "spot", "odd", "some"] ["pen"] (defScope s__law_name) := ⟨rfl, rfl, rfl, by decide +kernel, rfl, by decide +kernel, by decide +kernel⟩
abbrev s_law : Stmt := top 18
theorem sc_law : FnScope ["script", "pen", "turn", "ends", "low", "top", "cost", "nym", "good", "seen", "due", "fine"] ["script"] (defScope s_law) := ⟨rfl, rfl, rfl, by decide +kernel, rfl, by decide +kernel, by decide +kernel⟩
structure Ad where
  f__wall : Addr
  d__wall : FuncData
  f_is_whole : Addr
  d_is_whole : FuncData
  c_Item : Addr
  f_Item___init__ : Addr
  d_Item___init__ : FuncData
  f_Item_exact : Addr
  d_Item_exact : FuncData
  p_Item_exact : Addr
  f_Item_is_name : Addr
  d_Item_is_name : FuncData
  p_Item_is_name : Addr
  f_Item_name : Addr
  d_Item_name : FuncData
  p_Item_name : Addr
  f_Item_least : Addr
  d_Item_least : FuncData
  p_Item_least : Addr
  f_Item_greatest : Addr
  d_Item_greatest : FuncData
  p_Item_greatest : Addr
  f_Item_price : Addr
  d_Item_price : FuncData
  p_Item_price : Addr
  f_Item_is_exact : Addr
  d_Item_is_exact : FuncData
  p_Item_is_exact : Addr
  f_Item_value : Addr
  d_Item_value : FuncData
  p_Item_value : Addr
  f_Item___eq__ : Addr
  d_Item___eq__ : FuncData
  f__law_pen : Addr
  d__law_pen : FuncData
  f__law_next : Addr
  d__law_next : FuncData
  f__law_draw : Addr
  d__law_draw : FuncData
  f__law_any : Addr
  d__law_any : FuncData
  f__law_word : Addr
  d__law_word : FuncData
  f__law_is_name : Addr
  d__law_is_name : FuncData
  f__law_whole : Addr
  d__law_whole : FuncData
  f__law_name : Addr
  d__law_name : FuncData
  f_law : Addr
  d_law : FuncData
  c_AskError : Addr
  c_InvalidItem : Addr
structure Txt (K : PySem.W.Frag) (mg : Str → Option Value) (a : Ad) : Prop where
  F__wall : Fun K "_wall" "_wall" s__wall a.f__wall a.d__wall
  g__wall : mg "_wall" = some (.ref a.f__wall)
  F_is_whole : Fun K "is_whole" "is_whole" s_is_whole a.f_is_whole a.d_is_whole
  g_is_whole : mg "is_whole" = some (.ref a.f_is_whole)
  g_Item : mg "Item" = some (.ref a.c_Item)
  cl_Item : Cls K a.c_Item
  rd_Item : ClX.CRead K a.c_Item (.type "type")
  co_Item_MOST : ∃ u, Con K a.c_Item "MOST" (.int 999) u
  cv_Item_MOST : ∃ u, ClX.CVal K a.c_Item (.type "type") "MOST" (.int 999) u
  mk_Item : Mk K a.c_Item a.f_Item___init__
  F_Item___init__ : FunD K "__init__" "Item.__init__" (defArgs s_Item___init__) (defBody s_Item___init__) (defScope s_Item___init__) [] [("price", V.int 1)] a.f_Item___init__ a.d_Item___init__
  F_Item_exact : Fun K "exact" "Item.exact" s_Item_exact a.f_Item_exact a.d_Item_exact
  m_Item_exact : ClX.CMet K a.c_Item (.type "type") "exact" a.p_Item_exact a.f_Item_exact
  i_Item_exact : ClX.CInst K a.c_Item "exact" a.p_Item_exact a.f_Item_exact
  F_Item_is_name : Fun K "is_name" "Item.is_name" s_Item_is_name a.f_Item_is_name a.d_Item_is_name
  m_Item_is_name : SMet K a.c_Item (.type "type") "is_name" a.p_Item_is_name a.f_Item_is_name
  i_Item_is_name : SInst K a.c_Item "is_name" a.p_Item_is_name a.f_Item_is_name
  F_Item_name : Fun K "name" "Item.name" s_Item_name a.f_Item_name a.d_Item_name
  m_Item_name : PropOf K a.c_Item "name" a.p_Item_name a.f_Item_name
  F_Item_least : Fun K "least" "Item.least" s_Item_least a.f_Item_least a.d_Item_least
  m_Item_least : PropOf K a.c_Item "least" a.p_Item_least a.f_Item_least
  F_Item_greatest : Fun K "greatest" "Item.greatest" s_Item_greatest a.f_Item_greatest a.d_Item_greatest
  m_Item_greatest : PropOf K a.c_Item "greatest" a.p_Item_greatest a.f_Item_greatest
  F_Item_price : Fun K "price" "Item.price" s_Item_price a.f_Item_price a.d_Item_price
  m_Item_price : PropOf K a.c_Item "price" a.p_Item_price a.f_Item_price
  F_Item_is_exact : Fun K "is_exact" "Item.is_exact" s_Item_is_exact a.f_Item_is_exact a.d_Item_is_exact
  m_Item_is_exact : PropOf K a.c_Item "is_exact" a.p_Item_is_exact a.f_Item_is_exact
  F_Item_value : Fun K "value" "Item.value" s_Item_value a.f_Item_value a.d_Item_value
  m_Item_value : PropOf K a.c_Item "value" a.p_Item_value a.f_Item_value
  F_Item___eq__ : Fun K "__eq__" "Item.__eq__" s_Item___eq__ a.f_Item___eq__ a.d_Item___eq__
  m_Item___eq__ : Meth K a.c_Item "__eq__" a.f_Item___eq__
  eq_Item : EqCls K a.c_Item a.f_Item___eq__
  n_Item__name : NoAttr K a.c_Item "_name"
  n_Item__least : NoAttr K a.c_Item "_least"
  n_Item__greatest : NoAttr K a.c_Item "_greatest"
  n_Item__price : NoAttr K a.c_Item "_price"
  ty_Item : InsTy K a.c_Item
  kd_Item : ∀ t ∈ kinds, PySem.W.notFirst K a.c_Item (.type t) = true
  F__law_pen : Fun K "_law_pen" "_law_pen" s__law_pen a.f__law_pen a.d__law_pen
  g__law_pen : mg "_law_pen" = some (.ref a.f__law_pen)
  F__law_next : Fun K "_law_next" "_law_next" s__law_next a.f__law_next a.d__law_next
  g__law_next : mg "_law_next" = some (.ref a.f__law_next)
  F__law_draw : Fun K "_law_draw" "_law_draw" s__law_draw a.f__law_draw a.d__law_draw
  g__law_draw : mg "_law_draw" = some (.ref a.f__law_draw)
  F__law_any : Fun K "_law_any" "_law_any" s__law_any a.f__law_any a.d__law_any
  g__law_any : mg "_law_any" = some (.ref a.f__law_any)
  F__law_word : Fun K "_law_word" "_law_word" s__law_word a.f__law_word a.d__law_word
  g__law_word : mg "_law_word" = some (.ref a.f__law_word)
  F__law_is_name : Fun K "_law_is_name" "_law_is_name" s__law_is_name a.f__law_is_name a.d__law_is_name
  g__law_is_name : mg "_law_is_name" = some (.ref a.f__law_is_name)
  F__law_whole : Fun K "_law_whole" "_law_whole" s__law_whole a.f__law_whole a.d__law_whole
  g__law_whole : mg "_law_whole" = some (.ref a.f__law_whole)
  F__law_name : Fun K "_law_name" "_law_name" s__law_name a.f__law_name a.d__law_name
  g__law_name : mg "_law_name" = some (.ref a.f__law_name)
  F_law : Fun K "law" "law" s_law a.f_law a.d_law
  g_law : mg "law" = some (.ref a.f_law)
  g_AskError : mg "AskError" = some (.ref a.c_AskError)
  x_AskError : ErrC K a.c_AskError
  q_AskError : PySem.W.excIn K a.c_AskError [.type "ValueError", .type "Exception", .type "BaseException", .type "object"] "ValueError.__new__" = true
  g_InvalidItem : mg "InvalidItem" = some (.ref a.c_InvalidItem)
  x_InvalidItem : ErrC K a.c_InvalidItem
  s_InvalidItem : PySem.W.subIn K (.ref a.c_InvalidItem) (.ref a.c_AskError) = some true
  q_InvalidItem : PySem.W.excIn K a.c_InvalidItem [.type "ValueError", .type "Exception", .type "BaseException", .type "object"] "ValueError.__new__" = true
  g_LONGEST_NAME : ∃ u, mg "LONGEST_NAME" = some u ∧ RelV (.int 8) u
  b_len : mg "len" = none
  b_list : mg "list" = none
  b_isinstance : mg "isinstance" = none
  b_str : mg "str" = none
  b_int : mg "int" = none
  b_bool : mg "bool" = none
  b_range : mg "range" = none
  b_repr : mg "repr" = none
  b_all : mg "all" = none
  b_dict : mg "dict" = none
  b_tuple : mg "tuple" = none
theorem Txt.b__wall {K : PySem.W.Frag} {mg : Str → Option Value} {a : Ad} (T : Txt K mg a) : Binds K a.d__wall ["k"] [] := T.F__wall.binds fun _ _ _ _ _ _ us hl => match us, hl with | [_], _ => rfl
theorem Txt.b_is_whole {K : PySem.W.Frag} {mg : Str → Option Value} {a : Ad} (T : Txt K mg a) : Binds K a.d_is_whole ["thing"] [] := T.F_is_whole.binds fun _ _ _ _ _ _ us hl => match us, hl with | [_], _ => rfl
theorem Txt.b_Item_exact {K : PySem.W.Frag} {mg : Str → Option Value} {a : Ad} (T : Txt K mg a) : Binds K a.d_Item_exact ["cls", "name", "value"] [] := T.F_Item_exact.binds fun _ _ _ _ _ _ us hl => match us, hl with | [_, _, _], _ => rfl
theorem Txt.b_Item_is_name {K : PySem.W.Frag} {mg : Str → Option Value} {a : Ad} (T : Txt K mg a) : Binds K a.d_Item_is_name ["thing"] [] := T.F_Item_is_name.binds fun _ _ _ _ _ _ us hl => match us, hl with | [_], _ => rfl
theorem Txt.b_Item_name {K : PySem.W.Frag} {mg : Str → Option Value} {a : Ad} (T : Txt K mg a) : Binds K a.d_Item_name ["self"] [] := T.F_Item_name.binds fun _ _ _ _ _ _ us hl => match us, hl with | [_], _ => rfl
theorem Txt.b_Item_least {K : PySem.W.Frag} {mg : Str → Option Value} {a : Ad} (T : Txt K mg a) : Binds K a.d_Item_least ["self"] [] := T.F_Item_least.binds fun _ _ _ _ _ _ us hl => match us, hl with | [_], _ => rfl
theorem Txt.b_Item_greatest {K : PySem.W.Frag} {mg : Str → Option Value} {a : Ad} (T : Txt K mg a) : Binds K a.d_Item_greatest ["self"] [] := T.F_Item_greatest.binds fun _ _ _ _ _ _ us hl => match us, hl with | [_], _ => rfl
theorem Txt.b_Item_price {K : PySem.W.Frag} {mg : Str → Option Value} {a : Ad} (T : Txt K mg a) : Binds K a.d_Item_price ["self"] [] := T.F_Item_price.binds fun _ _ _ _ _ _ us hl => match us, hl with | [_], _ => rfl
theorem Txt.b_Item_is_exact {K : PySem.W.Frag} {mg : Str → Option Value} {a : Ad} (T : Txt K mg a) : Binds K a.d_Item_is_exact ["self"] [] := T.F_Item_is_exact.binds fun _ _ _ _ _ _ us hl => match us, hl with | [_], _ => rfl
theorem Txt.b_Item_value {K : PySem.W.Frag} {mg : Str → Option Value} {a : Ad} (T : Txt K mg a) : Binds K a.d_Item_value ["self"] [] := T.F_Item_value.binds fun _ _ _ _ _ _ us hl => match us, hl with | [_], _ => rfl
theorem Txt.b_Item___eq__ {K : PySem.W.Frag} {mg : Str → Option Value} {a : Ad} (T : Txt K mg a) : Binds K a.d_Item___eq__ ["self", "other"] [] := T.F_Item___eq__.binds fun _ _ _ _ _ _ us hl => match us, hl with | [_, _], _ => rfl
theorem Txt.b__law_pen {K : PySem.W.Frag} {mg : Str → Option Value} {a : Ad} (T : Txt K mg a) : Binds K a.d__law_pen ["script"] [] := T.F__law_pen.binds fun _ _ _ _ _ _ us hl => match us, hl with | [_], _ => rfl
theorem Txt.b__law_next {K : PySem.W.Frag} {mg : Str → Option Value} {a : Ad} (T : Txt K mg a) : Binds K a.d__law_next ["pen"] [] := T.F__law_next.binds fun _ _ _ _ _ _ us hl => match us, hl with | [_], _ => rfl
theorem Txt.b__law_draw {K : PySem.W.Frag} {mg : Str → Option Value} {a : Ad} (T : Txt K mg a) : Binds K a.d__law_draw ["pen", "below"] [] := T.F__law_draw.binds fun _ _ _ _ _ _ us hl => match us, hl with | [_, _], _ => rfl
theorem Txt.b__law_any {K : PySem.W.Frag} {mg : Str → Option Value} {a : Ad} (T : Txt K mg a) : Binds K a.d__law_any ["pen", "levels"] [] := T.F__law_any.binds fun _ _ _ _ _ _ us hl => match us, hl with | [_, _], _ => rfl
theorem Txt.b__law_word {K : PySem.W.Frag} {mg : Str → Option Value} {a : Ad} (T : Txt K mg a) : Binds K a.d__law_word ["act"] [] := T.F__law_word.binds fun _ _ _ _ _ _ us hl => match us, hl with | [_], _ => rfl
theorem Txt.b__law_is_name {K : PySem.W.Frag} {mg : Str → Option Value} {a : Ad} (T : Txt K mg a) : Binds K a.d__law_is_name ["thing"] [] := T.F__law_is_name.binds fun _ _ _ _ _ _ us hl => match us, hl with | [_], _ => rfl
theorem Txt.b__law_whole {K : PySem.W.Frag} {mg : Str → Option Value} {a : Ad} (T : Txt K mg a) : Binds K a.d__law_whole ["thing"] [] := T.F__law_whole.binds fun _ _ _ _ _ _ us hl => match us, hl with | [_], _ => rfl
theorem Txt.b__law_name {K : PySem.W.Frag} {mg : Str → Option Value} {a : Ad} (T : Txt K mg a) : Binds K a.d__law_name ["pen"] [] := T.F__law_name.binds fun _ _ _ _ _ _ us hl => match us, hl with | [_], _ => rfl
theorem Txt.b_law {K : PySem.W.Frag} {mg : Str → Option Value} {a : Ad} (T : Txt K mg a) : Binds K a.d_law ["script"] [] := T.F_law.binds fun _ _ _ _ _ _ us hl => match us, hl with | [_], _ => rfl
theorem txt_get {K : PySem.W.Frag} {h : Heap} {mg : Str → Option Value} (X : K.In h) (G : h.Ns mainGlobals mg)
    {f1 : Addr} {oc2 : Value} {dc3 : Value} {pm4 : Value} {cd5 : Value} {ct6 : Value} {kV7 : Value} {od8 : Option Addr}
    {an9 : Option Addr} {sl10 : Array (Option Value)} {f15 : Addr} {oc16 : Value} {dc17 : Value} {pm18 : Value} {cd19 : Value} {ct20 : Value}
    {kV21 : Value} {od22 : Option Addr} {an23 : Option Addr} {sl24 : Array (Option Value)} {C29 : Addr} {t37 : Tok} {D41 : Addr} {f42 : Addr}
    {oc43 : Value} {dc44 : Value} {pm45 : Value} {cd46 : Value} {ct47 : Value} {od48 : Option Addr} {an49 : Option Addr} {sl50 : Array (Option Value)}
    {t58 : Tok} {f60 : Addr} {oc61 : Value} {dc62 : Value} {pm63 : Value} {cd64 : Value} {ct65 : Value} {kV66 : Value}
    {od67 : Option Addr} {an68 : Option Addr} {sl69 : Array (Option Value)} {p70 : Addr} {r71 : List Value} {f84 : Addr} {oc85 : Value} {dc86 : Value}
    {pm87 : Value} {cd88 : Value} {ct89 : Value} {kV90 : Value} {od91 : Option Addr} {an92 : Option Addr} {sl93 : Array (Option Value)} {p94 : Addr}
    {r95 : List Value} {f107 : Addr} {oc108 : Value} {dc109 : Value} {pm110 : Value} {cd111 : Value} {ct112 : Value} {kV113 : Value}
    {od114 : Option Addr} {an115 : Option Addr} {sl116 : Array (Option Value)} {p117 : Addr} {r118 : List Value} {f126 : Addr} {oc127 : Value} {dc128 : Value}
    {pm129 : Value} {cd130 : Value} {ct131 : Value} {kV132 : Value} {od133 : Option Addr} {an134 : Option Addr} {sl135 : Array (Option Value)} {p136 : Addr}
    {r137 : List Value} {f145 : Addr} {oc146 : Value} {dc147 : Value} {pm148 : Value} {cd149 : Value} {ct150 : Value} {kV151 : Value}
    {od152 : Option Addr} {an153 : Option Addr} {sl154 : Array (Option Value)} {p155 : Addr} {r156 : List Value} {f164 : Addr} {oc165 : Value} {dc166 : Value}
    {pm167 : Value} {cd168 : Value} {ct169 : Value} {kV170 : Value} {od171 : Option Addr} {an172 : Option Addr} {sl173 : Array (Option Value)} {p174 : Addr}
    {r175 : List Value} {f183 : Addr} {oc184 : Value} {dc185 : Value} {pm186 : Value} {cd187 : Value} {ct188 : Value} {kV189 : Value}
    {od190 : Option Addr} {an191 : Option Addr} {sl192 : Array (Option Value)} {p193 : Addr} {r194 : List Value} {f202 : Addr} {oc203 : Value} {dc204 : Value}
    {pm205 : Value} {cd206 : Value} {ct207 : Value} {kV208 : Value} {od209 : Option Addr} {an210 : Option Addr} {sl211 : Array (Option Value)} {p212 : Addr}
    {r213 : List Value} {f221 : Addr} {oc222 : Value} {dc223 : Value} {pm224 : Value} {cd225 : Value} {ct226 : Value} {kV227 : Value}
    {od228 : Option Addr} {an229 : Option Addr} {sl230 : Array (Option Value)} {N236 : Addr} {e237 : Str} {e238 : Str} {e239 : List Value} {e240 : Bool}
    {e241 : List Str} {e242 : List Value} {e243 : Bool} {e244 : Option Bool} {e245 : Option Addr} {e246 : Option Value} {e247 : Option Value} {e248 : Option Value}
    {e249 : Option Value} {e250 : Option Value} {e251 : String} {f266 : Addr} {oc267 : Value} {dc268 : Value} {pm269 : Value} {cd270 : Value}
    {ct271 : Value} {kV272 : Value} {od273 : Option Addr} {an274 : Option Addr} {sl275 : Array (Option Value)} {f280 : Addr} {oc281 : Value} {dc282 : Value}
    {pm283 : Value} {cd284 : Value} {ct285 : Value} {kV286 : Value} {od287 : Option Addr} {an288 : Option Addr} {sl289 : Array (Option Value)} {f294 : Addr}
    {oc295 : Value} {dc296 : Value} {pm297 : Value} {cd298 : Value} {ct299 : Value} {kV300 : Value} {od301 : Option Addr} {an302 : Option Addr}
    {sl303 : Array (Option Value)} {f308 : Addr} {oc309 : Value} {dc310 : Value} {pm311 : Value} {cd312 : Value} {ct313 : Value} {kV314 : Value}
    {od315 : Option Addr} {an316 : Option Addr} {sl317 : Array (Option Value)} {f322 : Addr} {oc323 : Value} {dc324 : Value} {pm325 : Value} {cd326 : Value}
    {ct327 : Value} {kV328 : Value} {od329 : Option Addr} {an330 : Option Addr} {sl331 : Array (Option Value)} {f336 : Addr} {oc337 : Value} {dc338 : Value}
    {pm339 : Value} {cd340 : Value} {ct341 : Value} {kV342 : Value} {od343 : Option Addr} {an344 : Option Addr} {sl345 : Array (Option Value)} {f350 : Addr}
    {oc351 : Value} {dc352 : Value} {pm353 : Value} {cd354 : Value} {ct355 : Value} {kV356 : Value} {od357 : Option Addr} {an358 : Option Addr}
    {sl359 : Array (Option Value)} {f364 : Addr} {oc365 : Value} {dc366 : Value} {pm367 : Value} {cd368 : Value} {ct369 : Value} {kV370 : Value}
    {od371 : Option Addr} {an372 : Option Addr} {sl373 : Array (Option Value)} {f378 : Addr} {oc379 : Value} {dc380 : Value} {pm381 : Value} {cd382 : Value}
    {ct383 : Value} {kV384 : Value} {od385 : Option Addr} {an386 : Option Addr} {sl387 : Array (Option Value)} {C392 : Addr} {C407 : Addr} {t423 : Tok}
    (a11 : PySem.W.nsIn K mainGlobals "_wall" = some (some (.ref f1)))
    (l12 : K.lookup f1 = some ⟨oc2, od8, .func (PySem.W.fnOf "_wall" "_wall" (defArgs s__wall) (defBody s__wall) (defScope s__wall) .none kV7 dc3 pm4 an9 cd5 ct6), sl10⟩)
    (c13 : PySem.W.codeIn K cd5 "_wall" = true)
    (k14 : PySem.W.keepIn K (.ref f1) = true)
    (a25 : PySem.W.nsIn K mainGlobals "is_whole" = some (some (.ref f15)))
    (l26 : K.lookup f15 = some ⟨oc16, od22, .func (PySem.W.fnOf "is_whole" "is_whole" (defArgs s_is_whole) (defBody s_is_whole) (defScope s_is_whole) .none kV21 dc17 pm18 an23 cd19 ct20), sl24⟩)
    (c27 : PySem.W.codeIn K cd19 "is_whole" = true)
    (k28 : PySem.W.keepIn K (.ref f15) = true)
    (a30 : PySem.W.nsIn K mainGlobals "Item" = some (some (.ref C29)))
    (pg31 : PySem.W.plainGet K C29 Str.empty = true)
    (hd32 : PySem.W.hasDictIn K C29 = true)
    (po33 : PySem.W.plainOver K C29 = true)
    (sa34 : PySem.W.findIn K (.ref C29) "__setattr__" = some (some (.builtin "object.__setattr__")))
    (rd35 : PySem.W.readsIn K C29 (.type "type") = true)
    (ga36 : PySem.W.specialIn K (.ref C29) "__getattribute__" = some (some (.builtin "type.__getattribute__")))
    (fa38 : PySem.W.findIn K (.ref C29) "MOST" = some (some (.int 999 t37)))
    (gt39 : PySem.W.specialIn K (.int 999 t37) "__get__" = some none)
    (cv40 : PySem.W.findCls K (.ref C29) (.type "type") "MOST" = some (.val (.int 999 t37)))
    (a51 : PySem.W.findIn K (.ref C29) "__init__" = some (some (.ref f42)))
    (i52 : PySem.W.isFn K (.ref f42) = true)
    (mk53 : PySem.W.makesIn K C29 = true)
    (kc54 : PySem.W.keepIn K (.ref C29) = true)
    (l55 : K.lookup f42 = some ⟨oc43, od48, .func (PySem.W.fnOf "__init__" "Item.__init__" (defArgs s_Item___init__) (defBody s_Item___init__) (defScope s_Item___init__) .none (.ref D41) dc44 pm45 an49 cd46 ct47), sl50⟩)
    (c56 : PySem.W.codeIn K cd46 "Item.__init__" = true)
    (k57 : PySem.W.keepIn K (.ref f42) = true)
    (q59 : PySem.W.nsIn K D41 "price" = some (some (.int 1 t58)))
    (a72 : PySem.W.findCls K (.ref C29) (.type "type") "exact" = some (.get (.builtin "classmethod.__get__") (.ref p70) .none (.ref C29)))
    (rc73 : PySem.W.recIn K p70 "classmethod" = some (.ref f60 :: r71))
    (l74 : K.lookup f60 = some ⟨oc61, od67, .func (PySem.W.fnOf "exact" "Item.exact" (defArgs s_Item_exact) (defBody s_Item_exact) (defScope s_Item_exact) .none kV66 dc62 pm63 an68 cd64 ct65), sl69⟩)
    (c75 : PySem.W.codeIn K cd64 "Item.exact" = true)
    (k76 : PySem.W.keepIn K (.ref f60) = true)
    (fi77 : PySem.W.fnIn K f60 = true)
    (pg78 : PySem.W.plainGet K C29 Str.empty = true)
    (ic79 : PySem.W.isClsIn K C29 = true)
    (a80 : PySem.W.findIn K (.ref C29) "exact" = some (some (.ref p70)))
    (ty81 : PySem.W.typeIn K (.ref p70) = some (.type "classmethod"))
    (gt82 : PySem.W.specialIn K (.ref p70) "__get__" = some (some (.builtin "classmethod.__get__")))
    (tk83 : PySem.W.takesIn K (.ref p70) = some false)
    (a96 : PySem.W.findCls K (.ref C29) (.type "type") "is_name" = some (.get (.builtin "staticmethod.__get__") (.ref p94) .none (.ref C29)))
    (rc97 : PySem.W.recIn K p94 "staticmethod" = some (.ref f84 :: r95))
    (l98 : K.lookup f84 = some ⟨oc85, od91, .func (PySem.W.fnOf "is_name" "Item.is_name" (defArgs s_Item_is_name) (defBody s_Item_is_name) (defScope s_Item_is_name) .none kV90 dc86 pm87 an92 cd88 ct89), sl93⟩)
    (c99 : PySem.W.codeIn K cd88 "Item.is_name" = true)
    (k100 : PySem.W.keepIn K (.ref f84) = true)
    (pg101 : PySem.W.plainGet K C29 Str.empty = true)
    (ic102 : PySem.W.isClsIn K C29 = true)
    (a103 : PySem.W.findIn K (.ref C29) "is_name" = some (some (.ref p94)))
    (ty104 : PySem.W.typeIn K (.ref p94) = some (.type "staticmethod"))
    (gt105 : PySem.W.specialIn K (.ref p94) "__get__" = some (some (.builtin "staticmethod.__get__")))
    (tk106 : PySem.W.takesIn K (.ref p94) = some false)
    (a119 : PySem.W.findIn K (.ref C29) "name" = some (some (.ref p117)))
    (gt120 : PySem.W.specialIn K (.ref p117) "__get__" = some (some (.builtin "property.__get__")))
    (tk121 : PySem.W.takesIn K (.ref p117) = some true)
    (rc122 : PySem.W.recIn K p117 "property" = some (.ref f107 :: r118))
    (l123 : K.lookup f107 = some ⟨oc108, od114, .func (PySem.W.fnOf "name" "Item.name" (defArgs s_Item_name) (defBody s_Item_name) (defScope s_Item_name) .none kV113 dc109 pm110 an115 cd111 ct112), sl116⟩)
    (c124 : PySem.W.codeIn K cd111 "Item.name" = true)
    (k125 : PySem.W.keepIn K (.ref f107) = true)
    (a138 : PySem.W.findIn K (.ref C29) "least" = some (some (.ref p136)))
    (gt139 : PySem.W.specialIn K (.ref p136) "__get__" = some (some (.builtin "property.__get__")))
    (tk140 : PySem.W.takesIn K (.ref p136) = some true)
    (rc141 : PySem.W.recIn K p136 "property" = some (.ref f126 :: r137))
    (l142 : K.lookup f126 = some ⟨oc127, od133, .func (PySem.W.fnOf "least" "Item.least" (defArgs s_Item_least) (defBody s_Item_least) (defScope s_Item_least) .none kV132 dc128 pm129 an134 cd130 ct131), sl135⟩)
    (c143 : PySem.W.codeIn K cd130 "Item.least" = true)
    (k144 : PySem.W.keepIn K (.ref f126) = true)
    (a157 : PySem.W.findIn K (.ref C29) "greatest" = some (some (.ref p155)))
    (gt158 : PySem.W.specialIn K (.ref p155) "__get__" = some (some (.builtin "property.__get__")))
    (tk159 : PySem.W.takesIn K (.ref p155) = some true)
    (rc160 : PySem.W.recIn K p155 "property" = some (.ref f145 :: r156))
    (l161 : K.lookup f145 = some ⟨oc146, od152, .func (PySem.W.fnOf "greatest" "Item.greatest" (defArgs s_Item_greatest) (defBody s_Item_greatest) (defScope s_Item_greatest) .none kV151 dc147 pm148 an153 cd149 ct150), sl154⟩)
    (c162 : PySem.W.codeIn K cd149 "Item.greatest" = true)
    (k163 : PySem.W.keepIn K (.ref f145) = true)
    (a176 : PySem.W.findIn K (.ref C29) "price" = some (some (.ref p174)))
    (gt177 : PySem.W.specialIn K (.ref p174) "__get__" = some (some (.builtin "property.__get__")))
    (tk178 : PySem.W.takesIn K (.ref p174) = some true)
    (rc179 : PySem.W.recIn K p174 "property" = some (.ref f164 :: r175))
    (l180 : K.lookup f164 = some ⟨oc165, od171, .func (PySem.W.fnOf "price" "Item.price" (defArgs s_Item_price) (defBody s_Item_price) (defScope s_Item_price) .none kV170 dc166 pm167 an172 cd168 ct169), sl173⟩)
    (c181 : PySem.W.codeIn K cd168 "Item.price" = true)
    (k182 : PySem.W.keepIn K (.ref f164) = true)
    (a195 : PySem.W.findIn K (.ref C29) "is_exact" = some (some (.ref p193)))
    (gt196 : PySem.W.specialIn K (.ref p193) "__get__" = some (some (.builtin "property.__get__")))
    (tk197 : PySem.W.takesIn K (.ref p193) = some true)
    (rc198 : PySem.W.recIn K p193 "property" = some (.ref f183 :: r194))
    (l199 : K.lookup f183 = some ⟨oc184, od190, .func (PySem.W.fnOf "is_exact" "Item.is_exact" (defArgs s_Item_is_exact) (defBody s_Item_is_exact) (defScope s_Item_is_exact) .none kV189 dc185 pm186 an191 cd187 ct188), sl192⟩)
    (c200 : PySem.W.codeIn K cd187 "Item.is_exact" = true)
    (k201 : PySem.W.keepIn K (.ref f183) = true)
    (a214 : PySem.W.findIn K (.ref C29) "value" = some (some (.ref p212)))
    (gt215 : PySem.W.specialIn K (.ref p212) "__get__" = some (some (.builtin "property.__get__")))
    (tk216 : PySem.W.takesIn K (.ref p212) = some true)
    (rc217 : PySem.W.recIn K p212 "property" = some (.ref f202 :: r213))
    (l218 : K.lookup f202 = some ⟨oc203, od209, .func (PySem.W.fnOf "value" "Item.value" (defArgs s_Item_value) (defBody s_Item_value) (defScope s_Item_value) .none kV208 dc204 pm205 an210 cd206 ct207), sl211⟩)
    (c219 : PySem.W.codeIn K cd206 "Item.value" = true)
    (k220 : PySem.W.keepIn K (.ref f202) = true)
    (a231 : PySem.W.findIn K (.ref C29) "__eq__" = some (some (.ref f221)))
    (i232 : PySem.W.isFn K (.ref f221) = true)
    (l233 : K.lookup f221 = some ⟨oc222, od228, .func (PySem.W.fnOf "__eq__" "Item.__eq__" (defArgs s_Item___eq__) (defBody s_Item___eq__) (defScope s_Item___eq__) .none kV227 dc223 pm224 an229 cd225 ct226), sl230⟩)
    (c234 : PySem.W.codeIn K cd225 "Item.__eq__" = true)
    (k235 : PySem.W.keepIn K (.ref f221) = true)
    (lc252 : K.lookup C29 = some (excClassObj e237 e238 C29 N236 e239 [.type "object"] e240 e241 e242 e243 e244 e245 e246 e247 e248 e249 e250 e251))
    (no253 : PySem.W.nsOkIn K N236 = true)
    (ee254 : PySem.W.nsIn K N236 "__eq__" = some (some (.ref f221)))
    (en255 : PySem.W.nsIn K N236 "__ne__" = some none)
    (na256 : PySem.W.findIn K (.ref C29) "_name" = some none)
    (na257 : PySem.W.findIn K (.ref C29) "_least" = some none)
    (na258 : PySem.W.findIn K (.ref C29) "_greatest" = some none)
    (na259 : PySem.W.findIn K (.ref C29) "_price" = some none)
    (ha260 : PySem.W.findIn K (.ref C29) "__class__" = some (some (.builtin "object.__class__")))
    (hn261 : PySem.W.specialIn K (.builtin "object.__class__") "__get__" = some (some (.builtin "getset_descriptor.__get__")))
    (ht262 : PySem.W.takesIn K (.builtin "object.__class__") = some true)
    (hm263 : PySem.W.mroIn K C29 (.type "object") = some true)
    (kt264 : ∀ t ∈ kinds, PySem.W.kitOne K (.type t) (.ref C29) = some false)
    (kd265 : ∀ t ∈ kinds, PySem.W.notFirst K C29 (.type t) = true)
    (a276 : PySem.W.nsIn K mainGlobals "_law_pen" = some (some (.ref f266)))
    (l277 : K.lookup f266 = some ⟨oc267, od273, .func (PySem.W.fnOf "_law_pen" "_law_pen" (defArgs s__law_pen) (defBody s__law_pen) (defScope s__law_pen) .none kV272 dc268 pm269 an274 cd270 ct271), sl275⟩)
    (c278 : PySem.W.codeIn K cd270 "_law_pen" = true)
    (k279 : PySem.W.keepIn K (.ref f266) = true)
    (a290 : PySem.W.nsIn K mainGlobals "_law_next" = some (some (.ref f280)))
    (l291 : K.lookup f280 = some ⟨oc281, od287, .func (PySem.W.fnOf "_law_next" "_law_next" (defArgs s__law_next) (defBody s__law_next) (defScope s__law_next) .none kV286 dc282 pm283 an288 cd284 ct285), sl289⟩)
    (c292 : PySem.W.codeIn K cd284 "_law_next" = true)
    (k293 : PySem.W.keepIn K (.ref f280) = true)
    (a304 : PySem.W.nsIn K mainGlobals "_law_draw" = some (some (.ref f294)))
    (l305 : K.lookup f294 = some ⟨oc295, od301, .func (PySem.W.fnOf "_law_draw" "_law_draw" (defArgs s__law_draw) (defBody s__law_draw) (defScope s__law_draw) .none kV300 dc296 pm297 an302 cd298 ct299), sl303⟩)
    (c306 : PySem.W.codeIn K cd298 "_law_draw" = true)
    (k307 : PySem.W.keepIn K (.ref f294) = true)
    (a318 : PySem.W.nsIn K mainGlobals "_law_any" = some (some (.ref f308)))
    (l319 : K.lookup f308 = some ⟨oc309, od315, .func (PySem.W.fnOf "_law_any" "_law_any" (defArgs s__law_any) (defBody s__law_any) (defScope s__law_any) .none kV314 dc310 pm311 an316 cd312 ct313), sl317⟩)
    (c320 : PySem.W.codeIn K cd312 "_law_any" = true)
    (k321 : PySem.W.keepIn K (.ref f308) = true)
    (a332 : PySem.W.nsIn K mainGlobals "_law_word" = some (some (.ref f322)))
    (l333 : K.lookup f322 = some ⟨oc323, od329, .func (PySem.W.fnOf "_law_word" "_law_word" (defArgs s__law_word) (defBody s__law_word) (defScope s__law_word) .none kV328 dc324 pm325 an330 cd326 ct327), sl331⟩)
    (c334 : PySem.W.codeIn K cd326 "_law_word" = true)
    (k335 : PySem.W.keepIn K (.ref f322) = true)
    (a346 : PySem.W.nsIn K mainGlobals "_law_is_name" = some (some (.ref f336)))
    (l347 : K.lookup f336 = some ⟨oc337, od343, .func (PySem.W.fnOf "_law_is_name" "_law_is_name" (defArgs s__law_is_name) (defBody s__law_is_name) (defScope s__law_is_name) .none kV342 dc338 pm339 an344 cd340 ct341), sl345⟩)
    (c348 : PySem.W.codeIn K cd340 "_law_is_name" = true)
    (k349 : PySem.W.keepIn K (.ref f336) = true)
    (a360 : PySem.W.nsIn K mainGlobals "_law_whole" = some (some (.ref f350)))
    (l361 : K.lookup f350 = some ⟨oc351, od357, .func (PySem.W.fnOf "_law_whole" "_law_whole" (defArgs s__law_whole) (defBody s__law_whole) (defScope s__law_whole) .none kV356 dc352 pm353 an358 cd354 ct355), sl359⟩)
    (c362 : PySem.W.codeIn K cd354 "_law_whole" = true)
    (k363 : PySem.W.keepIn K (.ref f350) = true)
    (a374 : PySem.W.nsIn K mainGlobals "_law_name" = some (some (.ref f364)))
    (l375 : K.lookup f364 = some ⟨oc365, od371, .func (PySem.W.fnOf "_law_name" "_law_name" (defArgs s__law_name) (defBody s__law_name) (defScope s__law_name) .none kV370 dc366 pm367 an372 cd368 ct369), sl373⟩)
    (c376 : PySem.W.codeIn K cd368 "_law_name" = true)
    (k377 : PySem.W.keepIn K (.ref f364) = true)
    (a388 : PySem.W.nsIn K mainGlobals "law" = some (some (.ref f378)))
    (l389 : K.lookup f378 = some ⟨oc379, od385, .func (PySem.W.fnOf "law" "law" (defArgs s_law) (defBody s_law) (defScope s_law) .none kV384 dc380 pm381 an386 cd382 ct383), sl387⟩)
    (c390 : PySem.W.codeIn K cd382 "law" = true)
    (k391 : PySem.W.keepIn K (.ref f378) = true)
    (a393 : PySem.W.nsIn K mainGlobals "AskError" = some (some (.ref C392)))
    (bx394 : PySem.W.subIn K (.ref C392) (.type "BaseException") = some true)
    (ic395 : PySem.W.isClsIn K C392 = true)
    (ty396 : PySem.W.typeIn K (.ref C392) = some (.type "type"))
    (ss397 : PySem.W.subIn K (.ref C392) (.ref C392) = some true)
    (hg398 : PySem.W.findIn K (.ref C392) "__getattribute__" = some (some (.builtin "BaseException.__getattribute__")))
    (hk399 : PySem.W.findIn K (.ref C392) "__getattr__" = some none)
    (hd400 : PySem.W.hasDictIn K C392 = true)
    (ha401 : PySem.W.findIn K (.ref C392) "__class__" = some (some (.builtin "object.__class__")))
    (hn402 : PySem.W.specialIn K (.builtin "object.__class__") "__get__" = some (some (.builtin "getset_descriptor.__get__")))
    (ht403 : PySem.W.takesIn K (.builtin "object.__class__") = some true)
    (hm404 : PySem.W.mroIn K C392 (.type "object") = some true)
    (kp405 : PySem.W.keepIn K (.ref C392) = true)
    (ei406 : PySem.W.excIn K C392 [.type "ValueError", .type "Exception", .type "BaseException", .type "object"] "ValueError.__new__" = true)
    (a408 : PySem.W.nsIn K mainGlobals "InvalidItem" = some (some (.ref C407)))
    (bx409 : PySem.W.subIn K (.ref C407) (.type "BaseException") = some true)
    (ic410 : PySem.W.isClsIn K C407 = true)
    (ty411 : PySem.W.typeIn K (.ref C407) = some (.type "type"))
    (ss412 : PySem.W.subIn K (.ref C407) (.ref C407) = some true)
    (hg413 : PySem.W.findIn K (.ref C407) "__getattribute__" = some (some (.builtin "BaseException.__getattribute__")))
    (hk414 : PySem.W.findIn K (.ref C407) "__getattr__" = some none)
    (hd415 : PySem.W.hasDictIn K C407 = true)
    (ha416 : PySem.W.findIn K (.ref C407) "__class__" = some (some (.builtin "object.__class__")))
    (hn417 : PySem.W.specialIn K (.builtin "object.__class__") "__get__" = some (some (.builtin "getset_descriptor.__get__")))
    (ht418 : PySem.W.takesIn K (.builtin "object.__class__") = some true)
    (hm419 : PySem.W.mroIn K C407 (.type "object") = some true)
    (kp420 : PySem.W.keepIn K (.ref C407) = true)
    (sb421 : PySem.W.subIn K (.ref C407) (.ref C392) = some true)
    (ei422 : PySem.W.excIn K C407 [.type "ValueError", .type "Exception", .type "BaseException", .type "object"] "ValueError.__new__" = true)
    (a424 : PySem.W.nsIn K mainGlobals "LONGEST_NAME" = some (some (.int 8 t423)))
    (z425 : PySem.W.nsIn K mainGlobals "len" = some none)
    (z426 : PySem.W.nsIn K mainGlobals "list" = some none)
    (z427 : PySem.W.nsIn K mainGlobals "isinstance" = some none)
    (z428 : PySem.W.nsIn K mainGlobals "str" = some none)
    (z429 : PySem.W.nsIn K mainGlobals "int" = some none)
    (z430 : PySem.W.nsIn K mainGlobals "bool" = some none)
    (z431 : PySem.W.nsIn K mainGlobals "range" = some none)
    (z432 : PySem.W.nsIn K mainGlobals "repr" = some none)
    (z433 : PySem.W.nsIn K mainGlobals "all" = some none)
    (z434 : PySem.W.nsIn K mainGlobals "dict" = some none)
    (z435 : PySem.W.nsIn K mainGlobals "tuple" = some none)
    : ∃ a : Ad, Txt K mg a := ⟨{ f__wall := f1, d__wall := _, f_is_whole := f15, d_is_whole := _, c_Item := C29, f_Item___init__ := f42, d_Item___init__ := _, f_Item_exact := f60, d_Item_exact := _, p_Item_exact := p70, f_Item_is_name := f84, d_Item_is_name := _, p_Item_is_name := p94, f_Item_name := f107, d_Item_name := _, p_Item_name := p117, f_Item_least := f126, d_Item_least := _, p_Item_least := p136, f_Item_greatest := f145, d_Item_greatest := _, p_Item_greatest := p155, f_Item_price := f164, d_Item_price := _, p_Item_price := p174, f_Item_is_exact := f183, d_Item_is_exact := _, p_Item_is_exact := p193, f_Item_value := f202, d_Item_value := _, p_Item_value := p212, f_Item___eq__ := f221, d_Item___eq__ := _, f__law_pen := f266, d__law_pen := _, f__law_next := f280, d__law_next := _, f__law_draw := f294, d__law_draw := _, f__law_any := f308, d__law_any := _, f__law_word := f322, d__law_word := _, f__law_is_name := f336, d__law_is_name := _, f__law_whole := f350, d__law_whole := _, f__law_name := f364, d__law_name := _, f_law := f378, d_law := _, c_AskError := C392, c_InvalidItem := C407 },
  { F__wall := fun_mk l12 c13 k14
    g__wall := PySem.W.mg_of X G a11
    F_is_whole := fun_mk l26 c27 k28
    g_is_whole := PySem.W.mg_of X G a25
    g_Item := PySem.W.mg_of X G a30
    cl_Item := ⟨pg31, hd32, po33, sa34⟩
    rd_Item := ⟨rd35, ga36⟩
    co_Item_MOST := ⟨_, fa38, ⟨_, rfl⟩, gt39, by decide⟩
    cv_Item_MOST := ⟨_, cv40, ⟨_, rfl⟩⟩
    mk_Item := ⟨mk53, a51, i52, kc54⟩
    F_Item___init__ := ⟨⟨_, _, .none, _, _, _, _, _, _, _, rfl, l55, c56, .inl ⟨rfl, rfl⟩, .inr ⟨_, rfl, fun z hz => by obtain rfl := List.mem_singleton.mp hz; exact ⟨_, q59, _, rfl⟩⟩⟩, k57⟩
    F_Item_exact := fun_mk l74 c75 k76
    m_Item_exact := ⟨a72, ⟨_, rc73⟩, fi77⟩
    i_Item_exact := ⟨pg78, ic79, a80, ty81, gt82, tk83, by decide, ⟨_, rc73⟩, fi77⟩
    F_Item_is_name := fun_mk l98 c99 k100
    m_Item_is_name := ⟨a96, ⟨_, rc97⟩, k100⟩
    i_Item_is_name := ⟨pg101, ic102, a103, ty104, gt105, tk106, by decide, ⟨_, rc97⟩, k100⟩
    F_Item_name := fun_mk l123 c124 k125
    m_Item_name := ⟨a119, gt120, tk121, _, rc122⟩
    F_Item_least := fun_mk l142 c143 k144
    m_Item_least := ⟨a138, gt139, tk140, _, rc141⟩
    F_Item_greatest := fun_mk l161 c162 k163
    m_Item_greatest := ⟨a157, gt158, tk159, _, rc160⟩
    F_Item_price := fun_mk l180 c181 k182
    m_Item_price := ⟨a176, gt177, tk178, _, rc179⟩
    F_Item_is_exact := fun_mk l199 c200 k201
    m_Item_is_exact := ⟨a195, gt196, tk197, _, rc198⟩
    F_Item_value := fun_mk l218 c219 k220
    m_Item_value := ⟨a214, gt215, tk216, _, rc217⟩
    F_Item___eq__ := fun_mk l233 c234 k235
    m_Item___eq__ := ⟨a231, i232, k235⟩
    eq_Item := ⟨⟨_, _, _, _, _, _, _, _, _, _, _, _, _, _, _, _, lc252, no253, ee254, en255⟩, a231, i232⟩
    n_Item__name := na256
    n_Item__least := na257
    n_Item__greatest := na258
    n_Item__price := na259
    ty_Item := ⟨ha260, hn261, ht262, hm263, kt264⟩
    kd_Item := kd265
    F__law_pen := fun_mk l277 c278 k279
    g__law_pen := PySem.W.mg_of X G a276
    F__law_next := fun_mk l291 c292 k293
    g__law_next := PySem.W.mg_of X G a290
    F__law_draw := fun_mk l305 c306 k307
    g__law_draw := PySem.W.mg_of X G a304
    F__law_any := fun_mk l319 c320 k321
    g__law_any := PySem.W.mg_of X G a318
    F__law_word := fun_mk l333 c334 k335
    g__law_word := PySem.W.mg_of X G a332
    F__law_is_name := fun_mk l347 c348 k349
    g__law_is_name := PySem.W.mg_of X G a346
    F__law_whole := fun_mk l361 c362 k363
    g__law_whole := PySem.W.mg_of X G a360
    F__law_name := fun_mk l375 c376 k377
    g__law_name := PySem.W.mg_of X G a374
    F_law := fun_mk l389 c390 k391
    g_law := PySem.W.mg_of X G a388
    g_AskError := PySem.W.mg_of X G a393
    x_AskError := ⟨⟨hg398, hk399, bx394, hd400, ha401, hn402, ht403, hm404⟩, ic395, ty396, ss397, kp405⟩
    q_AskError := ei406
    g_InvalidItem := PySem.W.mg_of X G a408
    x_InvalidItem := ⟨⟨hg413, hk414, bx409, hd415, ha416, hn417, ht418, hm419⟩, ic410, ty411, ss412, kp420⟩
    s_InvalidItem := sb421
    q_InvalidItem := ei422
    g_LONGEST_NAME := ⟨_, PySem.W.mg_of X G a424, _, rfl⟩
    b_len := PySem.W.mg_none_of X G z425
    b_list := PySem.W.mg_none_of X G z426
    b_isinstance := PySem.W.mg_none_of X G z427
    b_str := PySem.W.mg_none_of X G z428
    b_int := PySem.W.mg_none_of X G z429
    b_bool := PySem.W.mg_none_of X G z430
    b_range := PySem.W.mg_none_of X G z431
    b_repr := PySem.W.mg_none_of X G z432
    b_all := PySem.W.mg_none_of X G z433
    b_dict := PySem.W.mg_none_of X G z434
    b_tuple := PySem.W.mg_none_of X G z435 }⟩
end Ask

set_option Elab.async false
set_option linter.all false
set_option maxRecDepth 100000
set_option maxHeartbeats 4000000
namespace Ask
open PySem L2
open PyProof.Rows
section
variable {P : Program} {w : World} {K : PySem.W.Frag} {mg : Str → Option Value} {base : Heap} {a : Ad}

/-- any object of a built-in kind -/
def Obj' (K : PySem.W.Frag) (H : Hp) (v : V) (t : String) : Prop := TyX K H v (.type t) ∧ t ∈ kinds
def spWhole (K : PySem.W.Frag) : Sp := fun vs H Q _ => ∃ v t, vs = [v] ∧ Obj' K H v t ∧ Q (.bl (t == "int")) H
theorem ok_whole (T : Txt K mg a) : FnOk P w K mg base CX0 1 a.f_is_whole a.d_is_whole ["thing"] (spWhole K) := by
  refine T.F_is_whole.ok sc_is_whole (fun vs H Q E h => ?_) (fun cdv A outer s H vs Q E hr h => ?_)
  · obtain ⟨v, t, rfl, _⟩ := h
    rfl
  · obtain ⟨v, t, rfl, ⟨ty, ht⟩, q⟩ := h
    refine ⟨_, (pss_one (ps_ret (pe_and (pe_callB call_isi (by rfl) T.b_isinstance (by decide +kernel) (pa_cons (pv 0) (pa_cons (pe_bltn (v := .ty "int") (by rfl) T.b_int (by decide +kernel) rfl) pa_nil))) (pe_one (pe_not (pe_callB call_isi (by rfl) T.b_isinstance (by decide +kernel) (pa_cons (pv 0) (pa_cons (pe_bltn (v := .ty "bool") (by rfl) T.b_bool (by decide +kernel) rfl) pa_nil)))))))), ?_⟩
    refine ⟨v, rfl, ?_⟩
    simp only [kinds, List.mem_cons, List.not_mem_nil, or_false] at ht
    rcases ht with rfl | rfl | rfl | rfl | rfl | rfl | rfl
    · exact ⟨v, .ty "int", _, _, false, rfl, .ty _, ty, kit_ty (by decide +kernel), false, rfl, iteF q⟩
    · refine ⟨v, .ty "int", _, _, true, rfl, .ty _, ty, kit_ty (by decide +kernel), true, rfl, iteT ?_⟩
      exact ⟨v, rfl, v, .ty "bool", _, _, true, rfl, .ty _, ty, kit_ty (by decide +kernel), true, rfl, q⟩
    · refine ⟨v, .ty "int", _, _, true, rfl, .ty _, ty, kit_ty (by decide +kernel), true, rfl, iteT ?_⟩
      exact ⟨v, rfl, v, .ty "bool", _, _, false, rfl, .ty _, ty, kit_ty (by decide +kernel), false, rfl, q⟩
    · exact ⟨v, .ty "int", _, _, false, rfl, .ty _, ty, kit_ty (by decide +kernel), false, rfl, iteF q⟩
    · exact ⟨v, .ty "int", _, _, false, rfl, .ty _, ty, kit_ty (by decide +kernel), false, rfl, iteF q⟩
    · exact ⟨v, .ty "int", _, _, false, rfl, .ty _, ty, kit_ty (by decide +kernel), false, rfl, iteF q⟩
    · exact ⟨v, .ty "int", _, _, false, rfl, .ty _, ty, kit_ty (by decide +kernel), false, rfl, iteF q⟩

/-- the name's signs, the name's length -/
def signB (c : Nat) : Bool := decide (97 ≤ c) && decide (c ≤ 122)
def nameB (x : Str) : Bool := decide (1 ≤ x.length) && decide (x.length ≤ 8) && x.cps.toList.all signB
def spIsName (K : PySem.W.Frag) : Sp := fun vs H Q _ => ∃ v t, vs = [v] ∧ Obj' K H v t ∧
  ((t ≠ "str" ∧ Q (.bl false) H) ∨ ∃ x, v = .str x ∧ x.length ≤ sizeLine ∧ ∀ H', Same H H' → Q (.bl (nameB x)) H')
theorem lt_one (c d : Nat) : decide ((⟨#[c]⟩ : Str).cps.toList < (⟨#[d]⟩ : Str).cps.toList) = decide (c < d) := by
  congr 1
  apply propext
  constructor
  · intro h
    cases h with
    | rel h => exact h
    | cons h => cases h
  · intro h
    exact List.Lex.rel h
theorem lt_a (c : Nat) : decide ((⟨#[c]⟩ : Str).cps.toList < (Str.ofString "a").cps.toList) = decide (c < 97) := by
  rw [show Str.ofString "a" = ⟨#[97]⟩ from by decide +kernel]
  exact lt_one c 97
theorem lt_z (c : Nat) : decide ((Str.ofString "z").cps.toList < (⟨#[c]⟩ : Str).cps.toList) = decide (122 < c) := by
  rw [show Str.ofString "z" = ⟨#[122]⟩ from by decide +kernel]
  exact lt_one 122 c
theorem ok_is_name (T : Txt K mg a) : FnOk P w K mg base CX0 1 a.f_Item_is_name a.d_Item_is_name ["thing"] (spIsName K) := by
  refine T.F_Item_is_name.ok sc_Item_is_name (fun vs H Q E h => ?_) (fun cdv A outer s H vs Q E hr h => ?_)
  · obtain ⟨v, t, rfl, _⟩ := h
    rfl
  · obtain ⟨v, t, rfl, ⟨ty, ht⟩, q⟩ := h
    have nd := sc_Item_is_name.nd
    refine ⟨_, (pss_cons (ps_if (PW.pt (pw_or (pt_not (pt_val (pe_callB call_isi (by rfl) T.b_isinstance (by decide +kernel) (pa_cons (pv 0) (pa_cons (pe_bltn (v := .ty "str") (by rfl) T.b_str (by decide +kernel) rfl) pa_nil))))) (pw_or1 (pt_not (pt_chain op_le op_le pe_int (pe_callB call_len_str (by rfl) T.b_len PySem.boot_len (pa_cons (pv 0) pa_nil)) (pe_gi rfl T.g_LONGEST_NAME))))))
    (pss_one (ps_ret pe_bl))
    pss_nil)
  (pss_one (ps_ret (pe_callB (cr_all rfl) (by rfl) T.b_all (by decide +kernel) (pa_cons (pe_lc (own := [("sign", 1)]) (g := gName 1) (tt := tYes) rfl nd (pi_str (pv 0)) (blkOk_by (N := ["thing", "sign"]) (sc := defScope s_Item_is_name) (by decide +kernel)) (fun _ _ _ _ _ => (pg_name (i := 1) nd rfl (Or.inl rfl))) (fun _ _ _ _ _ => pts_nil) (fun _ _ _ _ _ => (pe_chain op_le_str op_le_str pe_str (pv 1) pe_str))) pa_nil))))), ?_⟩
    refine ⟨v, rfl, ?_⟩
    rcases q with ⟨hn, q⟩ | ⟨x, rfl, hx, q⟩
    · refine ⟨v, .ty "str", _, _, false, rfl, .ty _, ty, kit_ty ?_, false, rfl, iteT (iteT q)⟩
      simp only [kinds, List.mem_cons, List.not_mem_nil, or_false] at ht
      rcases ht with rfl | rfl | rfl | rfl | rfl | rfl | rfl
      all_goals first | decide +kernel | exact absurd rfl hn
    · refine ⟨.str x, .ty "str", _, _, true, rfl, .ty _, .base (.str x), kit_ty (by decide +kernel), true, rfl, iteF ?_⟩
      refine ⟨_, rfl, x, rfl, hx, _, _, rfl, rfl, _, rfl, ?_⟩
      have hlen : x.cps.toList.length = x.length := by simp [Str.length]
      by_cases h1 : (1 : Int) ≤ ((x.length : Nat) : Int)
      · rw [decide_eq_true h1]
        refine iteT ⟨_, _, rfl, rfl, _, rfl, ?_⟩
        by_cases h8 : ((x.length : Nat) : Int) ≤ 8
        · rw [decide_eq_true h8]
          refine iteF ?_
          refine ⟨_, rfl, x, rfl, fun D hD => ?_⟩
          refine lc_it (walk_str (z := x)) (fun i H' => Same H H' ∧ H' D = some (.lst (((x.cps.toList.take i).map signB).map V.bl))) ⟨Same.new hD, upd_same⟩ (fun _ _ _ _ => trivial) ?_ ?_
          · rintro i z H1 H2 hi ⟨b1, b2⟩ ⟨rfl, c, hc, rfl⟩
            have hc' : x.cps.toList[i]? = some c := by rw [Array.getElem?_toList]; exact hc
            have step : x.cps.toList.take (i + 1) = x.cps.toList.take i ++ [c] := by
              rw [List.take_add_one, hc']
              rfl
            have fin : ∀ y, y = V.bl (signB c) → ∃ acc, H2 D = some (.lst acc) ∧ acc.length < sizeLine ∧
                (Same H (upd H2 D (.lst (acc ++ [y]))) ∧ upd H2 D (.lst (acc ++ [y])) D = some (.lst (((x.cps.toList.take (i + 1)).map signB).map V.bl))) := by
              rintro y rfl
              refine ⟨_, b2, ?_, Same.of b1 hD, ?_⟩
              · rw [List.length_map, List.length_map, List.length_take]
                exact Nat.lt_of_le_of_lt (show _ ≤ 8 by omega) (by decide)
              · rw [upd_same, step, List.map_append, List.map_append]
                rfl
            refine ⟨rfl, ?_⟩
            refine ⟨_, rfl, _, _, rfl, rfl, _, rfl, ?_⟩
            rw [lt_a]
            by_cases ha : 97 ≤ c
            · rw [decide_eq_false (show ¬ c < 97 by omega)]
              refine iteT ⟨_, _, rfl, rfl, ?_⟩
              rw [lt_z]
              refine fin _ ?_
              unfold signB
              rw [decide_eq_true ha, Bool.true_and]
              congr 1
              by_cases hz : c ≤ 122
              · rw [decide_eq_true hz, decide_eq_false (by omega)]
                rfl
              · rw [decide_eq_false hz, decide_eq_true (by omega)]
                rfl
            · rw [decide_eq_true (show c < 97 by omega)]
              refine iteF (fin _ ?_)
              unfold signB
              rw [decide_eq_false ha]
              rfl
          · rintro H1 ⟨b1, b2⟩
            refine ⟨D, _, rfl, SqL.of b2, ?_⟩
            have e : nameB x = (List.map signB (x.cps.toList.take x.cps.size)).all id := by
              unfold nameB
              rw [decide_eq_true (show 1 ≤ x.length by omega), decide_eq_true (show x.length ≤ 8 by omega), Bool.true_and, Bool.true_and]
              rw [List.take_of_length_le (by rw [Array.length_toList]; exact Nat.le_refl _), List.all_map]
              rfl
            rw [← e]
            exact q H1 b1
        · rw [decide_eq_false h8]
          refine iteT ?_
          have e : nameB x = false := by
            unfold nameB
            rw [decide_eq_false (show ¬ x.length ≤ 8 by omega), Bool.and_false, Bool.false_and]
          rw [← e]
          exact q H (Same.refl H)
      · rw [decide_eq_false h1]
        refine iteF ⟨_, rfl, ?_⟩
        have e : nameB x = false := by
          unfold nameB
          rw [decide_eq_false (show ¬ 1 ≤ x.length by omega), Bool.false_and, Bool.false_and]
        have q2 := q H (Same.refl H)
        rw [e] at q2
        exact q2
end
end Ask

set_option Elab.async false
set_option linter.all false
set_option maxRecDepth 100000
set_option maxHeartbeats 4000000
namespace Ask
open PySem L2
open PyProof.Rows
section
variable {P : Program} {w : World} {K : PySem.W.Frag} {mg : Str → Option Value} {base : Heap} {a : Ad}
def itF (nm : Str) (lo hi pr : Int) : List (Str × V) := [("_name", .str nm), ("_least", .int lo), ("_greatest", .int hi), ("_price", .int pr)]
theorem itF_put (nm : Str) (lo hi pr : Int) : putF "_price" (.int pr) (putF "_greatest" (.int hi) (putF "_least" (.int lo) (putF "_name" (.str nm) []))) = itF nm lo hi pr := by
  with_unfolding_all rfl
/-- what a new item's price is -/
def prI (lo hi pr : Int) : Int := if lo = hi then 0 else pr
/-- arguments that form an item -/
structure Fits (v1 v2 v3 v4 : V) (nm : Str) (lo hi pr : Int) : Prop where
  e1 : v1 = .str nm
  e2 : v2 = .int lo
  e3 : v3 = .int hi
  e4 : v4 = .int pr
  nm : nameB nm = true
  le : lo ≤ hi
  p1 : 1 ≤ pr
  p2 : pr ≤ 999
/-- __init__, any arguments -/
def spInitX (C CI : Addr) : Sp := fun vs H Q E => ∃ (x dx : Addr) (v1 v2 v3 v4 : V) (t1 t2 t3 t4 : String), vs = [.ref x, v1, v2, v3, v4] ∧ H x = some (.ins C dx []) ∧
  (∀ H', Same H H' → AnyV H' v1 t1 ∧ AnyV H' v2 t2 ∧ AnyV H' v3 t3 ∧ AnyV H' v4 t4) ∧ (∀ y, v1 = .str y → y.length ≤ sizeLine) ∧
  (∀ nm lo hi pr, Fits v1 v2 v3 v4 nm lo hi pr → ∀ H', But x H H' → H' x = some (.ins C dx (itF nm lo hi (prI lo hi pr))) → Q .non H') ∧
  ((∀ nm lo hi pr, ¬ Fits v1 v2 v3 v4 nm lo hi pr) → ∀ H', Same H H' → E (.ref CI) none H')
theorem whole_cases {H : Hp} {v : V} {t : String} (h : AnyV H v t) : (∃ i, v = .int i ∧ t = "int") ∨ ((t == "int") = false ∧ ∀ i, v ≠ .int i) := by
  cases h with
  | int i => exact .inl ⟨i, rfl, rfl⟩
  | _ => exact .inr ⟨by decide, fun i z => by cases z⟩
theorem str_cases {H : Hp} {v : V} {t : String} (h : AnyV H v t) : (∃ y, v = .str y ∧ t = "str") ∨ (t ≠ "str" ∧ ∀ y, v ≠ .str y) := by
  cases h with
  | str y => exact .inl ⟨y, rfl, rfl⟩
  | _ => exact .inr ⟨by decide, fun i z => by cases z⟩
theorem ok_initX (T : Txt K mg a) : FnOk P w K mg base (L2.CX P w) 3 a.f_Item___init__ a.d_Item___init__ ["self", "name", "least", "greatest", "price"] (spInitX a.c_Item a.c_InvalidItem) := by
  have G_is_name : FnOk P w K mg base CX0 1 a.f_Item_is_name a.d_Item_is_name ["thing"] (spIsName K) := ok_is_name T
  have Gis_whole : FnOk P w K mg base CX0 1 a.f_is_whole a.d_is_whole ["thing"] (spWhole K) := ok_whole T
  refine T.F_Item___init__.ok sc_Item___init__ (fun vs H Q E h => ?_) (fun cdv A outer s H vs Q E hr h => ?_)
  · obtain ⟨x, dx, v1, v2, v3, v4, t1, t2, t3, t4, rfl, _⟩ := h
    rfl
  · obtain ⟨x, dx, v1, v2, v3, v4, t1, t2, t3, t4, rfl, hx, av, sl, q1, q2⟩ := h
    have nd := sc_Item___init__.nd
    refine ⟨_, (pss_cons (ps_if (pt_not (pt_val (pe_smeth (pe_glob (v := .ref a.c_Item) rfl T.g_Item rfl) T.rd_Item T.m_Item_is_name G_is_name (hr.mono (by decide)) T.b_Item_is_name pass0 (pa_cons (pv 1) pa_nil))))
    (pss_one (ps_raise rfl (takes_of rfl rfl rfl rfl) (pmk_own PySem.F.excBase_ValueError T.q_InvalidItem T.g_InvalidItem T.x_InvalidItem.kp (raises_own T.x_InvalidItem.is.hs T.x_InvalidItem.ty) (by exact rfl))))
    pss_nil)
  (pss_cons (ps_if (PW.pt (pw_or (pt_not (pt_val (pe_call Gis_whole (hr.mono (by first | decide | omega)) rfl T.g_is_whole T.F_is_whole.kp T.b_is_whole .nil pass0 (pa_cons (pv 2) pa_nil)))) (pw_or1 (pt_not (pt_val (pe_call Gis_whole (hr.mono (by first | decide | omega)) rfl T.g_is_whole T.F_is_whole.kp T.b_is_whole .nil pass0 (pa_cons (pv 3) pa_nil)))))))
    (pss_one (ps_raise rfl (takes_of rfl rfl rfl rfl) (pmk_own PySem.F.excBase_ValueError T.q_InvalidItem T.g_InvalidItem T.x_InvalidItem.kp (raises_own T.x_InvalidItem.is.hs T.x_InvalidItem.ty) (by exact rfl))))
    pss_nil)
  (pss_cons (ps_if (pt_cmpR op_gt (pv 2) (pv 3) (nomark _))
    (pss_one (ps_raise rfl (takes_of rfl rfl rfl rfl) (pmk_own PySem.F.excBase_ValueError T.q_InvalidItem T.g_InvalidItem T.x_InvalidItem.kp (raises_own T.x_InvalidItem.is.hs T.x_InvalidItem.ty) (by exact rfl))))
    pss_nil)
  (pss_cons (ps_if (PW.pt (pw_or (pt_not (pt_val (pe_call Gis_whole (hr.mono (by first | decide | omega)) rfl T.g_is_whole T.F_is_whole.kp T.b_is_whole .nil pass0 (pa_cons (pv 4) pa_nil)))) (pw_or1 (pt_not (pt_chain op_le op_le pe_int (pv 4) (ClX.pe_cval (pe_glob (v := .ref a.c_Item) rfl T.g_Item rfl)))))))
    (pss_one (ps_raise rfl (takes_of rfl rfl rfl rfl) (pmk_own PySem.F.excBase_ValueError T.q_InvalidItem T.g_InvalidItem T.x_InvalidItem.kp (raises_own T.x_InvalidItem.is.hs T.x_InvalidItem.ty) (by exact rfl))))
    pss_nil)
  (pss_cons (ps_fld (pv 0) (pv 1) rfl)
  (pss_cons (ps_fld (pv 0) (pv 2) rfl)
  (pss_cons (ps_fld (pv 0) (pv 3) rfl)
  (pss_one (ps_fld (pv 0) (pe_ifExp (pt_cmpR op_eq (pv 2) (pv 3) (nomark _)) pe_int (pv 4)) rfl))))))))), ?_⟩
    have av0 := av H (Same.refl H)
    refine ⟨rfl, _, rfl, v1, t1, rfl, av0.1.ty, ?_⟩
    rcases str_cases av0.1 with ⟨nm, rfl, rfl⟩ | ⟨hn, hv⟩
    · refine .inr ⟨nm, rfl, sl _ rfl, fun H1 s1 => ?_⟩
      have no : (∀ lo hi pr, ¬ Fits (.str nm) v2 v3 v4 nm lo hi pr) → ∀ nm' lo hi pr, ¬ Fits (.str nm) v2 v3 v4 nm' lo hi pr := by
        intro h nm' lo hi pr f
        obtain rfl : nm = nm' := V.str.inj f.e1
        exact h lo hi pr f
      obtain ⟨_, b2, b3, b4⟩ := av H1 s1
      by_cases hn : nameB nm = true
      case neg =>
        rw [Bool.eq_false_iff.mpr hn]
        exact ⟨_, rfl, iteT (q2 (no fun lo hi pr f => hn f.nm) H1 s1)⟩
      rw [hn]
      refine ⟨_, rfl, iteF ?_⟩
      -- the ends
      refine ⟨_, rfl, v2, t2, rfl, b2.ty, ?_⟩
      rcases whole_cases b2 with ⟨lo, rfl, rfl⟩ | ⟨hw, hv⟩
      case inr =>
        rw [hw]
        exact ⟨_, rfl, iteT (q2 (no fun lo hi pr f => hv lo f.e2) H1 s1)⟩
      refine ⟨_, rfl, iteF ?_⟩
      refine ⟨_, rfl, v3, t3, rfl, b3.ty, ?_⟩
      rcases whole_cases b3 with ⟨hi, rfl, rfl⟩ | ⟨hw, hv⟩
      case inr =>
        rw [hw]
        exact ⟨_, rfl, iteT (q2 (no fun lo hi pr f => hv hi f.e3) H1 s1)⟩
      refine ⟨_, rfl, iteF ?_⟩
      refine ⟨_, rfl, _, rfl, _, _, rfl, rfl, _, rfl, ?_⟩
      by_cases hlh : hi < lo
      · rw [decide_eq_true hlh]
        refine iteT (q2 (no fun lo' hi' pr f => ?_) H1 s1)
        have z1 := V.int.inj f.e2
        have z2 := V.int.inj f.e3
        have z3 := f.le
        omega
      rw [decide_eq_false hlh]
      refine iteF ?_
      -- the price
      refine ⟨_, rfl, v4, t4, rfl, b4.ty, ?_⟩
      rcases whole_cases b4 with ⟨pr, rfl, rfl⟩ | ⟨hw, hv⟩
      case inr =>
        rw [hw]
        exact ⟨_, rfl, iteT (q2 (no fun lo hi pr f => hv pr f.e4) H1 s1)⟩
      refine ⟨_, rfl, iteF ?_⟩
      have badP : ¬ (1 ≤ pr ∧ pr ≤ 999) → ∀ H', Same H H' → E (.ref a.c_InvalidItem) none H' := fun h => q2 (no fun lo' hi' pr' f => by
        have z1 := V.int.inj f.e4
        have z2 := f.p1
        have z3 := f.p2
        exact h ⟨by omega, by omega⟩)
      refine ⟨_, rfl, _, _, rfl, rfl, _, rfl, ?_⟩
      obtain ⟨u, cv⟩ := T.cv_Item_MOST
      by_cases p1 : 1 ≤ pr
      case neg =>
        rw [decide_eq_false p1]
        exact iteF ⟨_, rfl, iteT (badP (fun h => p1 h.1) H1 s1)⟩
      rw [decide_eq_true p1]
      refine iteT ⟨_, _, _, u, rfl, T.rd_Item, cv, _, _, rfl, rfl, _, rfl, ?_⟩
      by_cases p2 : pr ≤ 999
      case neg =>
        rw [decide_eq_false p2]
        exact iteT (badP (fun h => p2 h.2) H1 s1)
      rw [decide_eq_true p2]
      refine iteF ?_
      have k := q1 nm lo hi pr ⟨rfl, rfl, rfl, rfl, hn, by omega, p1, p2⟩
      have hx1 := s1 _ _ hx
      refine ⟨_, rfl, _, rfl, x, _, dx, _, rfl, hx1, T.cl_Item, T.n_Item__name, (by show 0 < 1000; decide), ?_⟩
      refine ⟨_, rfl, _, rfl, x, _, dx, _, rfl, upd_same, T.cl_Item, T.n_Item__least, (by show 1 < 1000; decide), ?_⟩
      refine ⟨_, rfl, _, rfl, x, _, dx, _, rfl, upd_same, T.cl_Item, T.n_Item__greatest, (by show 2 < 1000; decide), ?_⟩
      refine ⟨_, rfl, _, rfl, rfl, _, rfl, ?_⟩
      have fin : ∀ z, z = prI lo hi pr → Q .non (upd (upd (upd (upd H1 x (.ins a.c_Item dx (putF "_name" (.str nm) []))) x (.ins a.c_Item dx (putF "_least" (.int lo) (putF "_name" (.str nm) [])))) x
          (.ins a.c_Item dx (putF "_greatest" (.int hi) (putF "_least" (.int lo) (putF "_name" (.str nm) []))))) x (.ins a.c_Item dx (putF "_price" (.int z) (putF "_greatest" (.int hi) (putF "_least" (.int lo) (putF "_name" (.str nm) [])))))) := by
        rintro z rfl
        refine k _ ?_ ?_
        · intro b o hb e
          rw [upd_ne hb, upd_ne hb, upd_ne hb, upd_ne hb]
          exact s1 b o e
        · rw [upd_same, itF_put]
      by_cases e : lo = hi
      · rw [decide_eq_true (congrArg V.int e)]
        refine iteT ?_
        refine ⟨_, rfl, x, _, dx, _, rfl, upd_same, T.cl_Item, T.n_Item__price, (by show 3 < 1000; decide), ?_⟩
        exact fin 0 (by unfold prI; rw [if_pos e])
      · rw [decide_eq_false (fun q => e (V.int.inj q))]
        refine iteF ?_
        refine ⟨_, rfl, _, rfl, x, _, dx, _, rfl, upd_same, T.cl_Item, T.n_Item__price, (by show 3 < 1000; decide), ?_⟩
        exact fin pr (by unfold prI; rw [if_neg e])
    · exact .inl ⟨hn, _, rfl, iteT (q2 (fun nm lo hi pr f => hv _ f.e1) H (Same.refl H))⟩
end
end Ask

set_option Elab.async false
set_option linter.all false
set_option maxRecDepth 100000
set_option maxHeartbeats 4000000
namespace Ask
open PySem L2
open PyProof.Rows
section
variable {P : Program} {w : World} {K : PySem.W.Frag} {mg : Str → Option Value} {base : Heap} {a : Ad}
/-- the item (nm, lo, hi, pr) stands at x -/
def ItemAt (C : Addr) (H : Hp) (x : Addr) (nm : Str) (lo hi pr : Int) : Prop := ∃ dx, H x = some (.ins C dx (itF nm lo hi pr))
theorem ok_lwhole (T : Txt K mg a) : FnOk P w K mg base CX0 1 a.f__law_whole a.d__law_whole ["thing"] (spWhole K) := by
  refine T.F__law_whole.ok sc__law_whole (fun vs H Q E h => ?_) (fun cdv A outer s H vs Q E hr h => ?_)
  · obtain ⟨v, t, rfl, _⟩ := h
    rfl
  · obtain ⟨v, t, rfl, ⟨ty, ht⟩, q⟩ := h
    refine ⟨_, (pss_one (ps_ret (pe_and (pe_callB call_isi (by rfl) T.b_isinstance (by decide +kernel) (pa_cons (pv 0) (pa_cons (pe_bltn (v := .ty "int") (by rfl) T.b_int (by decide +kernel) rfl) pa_nil))) (pe_one (pe_not (pe_callB call_isi (by rfl) T.b_isinstance (by decide +kernel) (pa_cons (pv 0) (pa_cons (pe_bltn (v := .ty "bool") (by rfl) T.b_bool (by decide +kernel) rfl) pa_nil)))))))), ?_⟩
    refine ⟨v, rfl, ?_⟩
    simp only [kinds, List.mem_cons, List.not_mem_nil, or_false] at ht
    rcases ht with rfl | rfl | rfl | rfl | rfl | rfl | rfl
    · exact ⟨v, .ty "int", _, _, false, rfl, .ty _, ty, kit_ty (by decide +kernel), false, rfl, iteF q⟩
    · refine ⟨v, .ty "int", _, _, true, rfl, .ty _, ty, kit_ty (by decide +kernel), true, rfl, iteT ?_⟩
      exact ⟨v, rfl, v, .ty "bool", _, _, true, rfl, .ty _, ty, kit_ty (by decide +kernel), true, rfl, q⟩
    · refine ⟨v, .ty "int", _, _, true, rfl, .ty _, ty, kit_ty (by decide +kernel), true, rfl, iteT ?_⟩
      exact ⟨v, rfl, v, .ty "bool", _, _, false, rfl, .ty _, ty, kit_ty (by decide +kernel), false, rfl, q⟩
    · exact ⟨v, .ty "int", _, _, false, rfl, .ty _, ty, kit_ty (by decide +kernel), false, rfl, iteF q⟩
    · exact ⟨v, .ty "int", _, _, false, rfl, .ty _, ty, kit_ty (by decide +kernel), false, rfl, iteF q⟩
    · exact ⟨v, .ty "int", _, _, false, rfl, .ty _, ty, kit_ty (by decide +kernel), false, rfl, iteF q⟩
    · exact ⟨v, .ty "int", _, _, false, rfl, .ty _, ty, kit_ty (by decide +kernel), false, rfl, iteF q⟩

theorem ok_lisname (T : Txt K mg a) : FnOk P w K mg base CX0 1 a.f__law_is_name a.d__law_is_name ["thing"] (spIsName K) := by
  refine T.F__law_is_name.ok sc__law_is_name (fun vs H Q E h => ?_) (fun cdv A outer s H vs Q E hr h => ?_)
  · obtain ⟨v, t, rfl, _⟩ := h
    rfl
  · obtain ⟨v, t, rfl, ⟨ty, ht⟩, q⟩ := h
    have nd := sc__law_is_name.nd
    refine ⟨_, (pss_cons (ps_if (PW.pt (pw_or (pt_not (pt_val (pe_callB call_isi (by rfl) T.b_isinstance (by decide +kernel) (pa_cons (pv 0) (pa_cons (pe_bltn (v := .ty "str") (by rfl) T.b_str (by decide +kernel) rfl) pa_nil))))) (pw_or1 (pt_not (pt_chain op_le op_le pe_int (pe_callB call_len_str (by rfl) T.b_len PySem.boot_len (pa_cons (pv 0) pa_nil)) pe_int)))))
    (pss_one (ps_ret pe_bl))
    pss_nil)
  (pss_one (ps_ret (pe_callB (cr_all rfl) (by rfl) T.b_all (by decide +kernel) (pa_cons (pe_lc (own := [("sign", 1)]) (g := gName 1) (tt := tYes) rfl nd (pi_str (pv 0)) (blkOk_by (N := ["thing", "sign"]) (sc := defScope s__law_is_name) (by decide +kernel)) (fun _ _ _ _ _ => (pg_name (i := 1) nd rfl (Or.inl rfl))) (fun _ _ _ _ _ => pts_nil) (fun _ _ _ _ _ => (pe_chain op_le_str op_le_str pe_str (pv 1) pe_str))) pa_nil))))), ?_⟩
    refine ⟨v, rfl, ?_⟩
    rcases q with ⟨hn, q⟩ | ⟨x, rfl, hx, q⟩
    · refine ⟨v, .ty "str", _, _, false, rfl, .ty _, ty, kit_ty ?_, false, rfl, iteT (iteT q)⟩
      simp only [kinds, List.mem_cons, List.not_mem_nil, or_false] at ht
      rcases ht with rfl | rfl | rfl | rfl | rfl | rfl | rfl
      all_goals first | decide +kernel | exact absurd rfl hn
    · refine ⟨.str x, .ty "str", _, _, true, rfl, .ty _, .base (.str x), kit_ty (by decide +kernel), true, rfl, iteF ?_⟩
      refine ⟨_, rfl, x, rfl, hx, _, _, rfl, rfl, _, rfl, ?_⟩
      have hlen : x.cps.toList.length = x.length := by simp [Str.length]
      by_cases h1 : (1 : Int) ≤ ((x.length : Nat) : Int)
      · rw [decide_eq_true h1]
        refine iteT ⟨_, _, rfl, rfl, _, rfl, ?_⟩
        by_cases h8 : ((x.length : Nat) : Int) ≤ 8
        · rw [decide_eq_true h8]
          refine iteF ?_
          refine ⟨_, rfl, x, rfl, fun D hD => ?_⟩
          refine lc_it (walk_str (z := x)) (fun i H' => Same H H' ∧ H' D = some (.lst (((x.cps.toList.take i).map signB).map V.bl))) ⟨Same.new hD, upd_same⟩ (fun _ _ _ _ => trivial) ?_ ?_
          · rintro i z H1 H2 hi ⟨b1, b2⟩ ⟨rfl, c, hc, rfl⟩
            have hc' : x.cps.toList[i]? = some c := by rw [Array.getElem?_toList]; exact hc
            have step : x.cps.toList.take (i + 1) = x.cps.toList.take i ++ [c] := by
              rw [List.take_add_one, hc']
              rfl
            have fin : ∀ y, y = V.bl (signB c) → ∃ acc, H2 D = some (.lst acc) ∧ acc.length < sizeLine ∧
                (Same H (upd H2 D (.lst (acc ++ [y]))) ∧ upd H2 D (.lst (acc ++ [y])) D = some (.lst (((x.cps.toList.take (i + 1)).map signB).map V.bl))) := by
              rintro y rfl
              refine ⟨_, b2, ?_, Same.of b1 hD, ?_⟩
              · rw [List.length_map, List.length_map, List.length_take]
                exact Nat.lt_of_le_of_lt (show _ ≤ 8 by omega) (by decide)
              · rw [upd_same, step, List.map_append, List.map_append]
                rfl
            refine ⟨rfl, ?_⟩
            refine ⟨_, rfl, _, _, rfl, rfl, _, rfl, ?_⟩
            rw [lt_a]
            by_cases ha : 97 ≤ c
            · rw [decide_eq_false (show ¬ c < 97 by omega)]
              refine iteT ⟨_, _, rfl, rfl, ?_⟩
              rw [lt_z]
              refine fin _ ?_
              unfold signB
              rw [decide_eq_true ha, Bool.true_and]
              congr 1
              by_cases hz : c ≤ 122
              · rw [decide_eq_true hz, decide_eq_false (by omega)]
                rfl
              · rw [decide_eq_false hz, decide_eq_true (by omega)]
                rfl
            · rw [decide_eq_true (show c < 97 by omega)]
              refine iteF (fin _ ?_)
              unfold signB
              rw [decide_eq_false ha]
              rfl
          · rintro H1 ⟨b1, b2⟩
            refine ⟨D, _, rfl, SqL.of b2, ?_⟩
            have e : nameB x = (List.map signB (x.cps.toList.take x.cps.size)).all id := by
              unfold nameB
              rw [decide_eq_true (show 1 ≤ x.length by omega), decide_eq_true (show x.length ≤ 8 by omega), Bool.true_and, Bool.true_and]
              rw [List.take_of_length_le (by rw [Array.length_toList]; exact Nat.le_refl _), List.all_map]
              rfl
            rw [← e]
            exact q H1 b1
        · rw [decide_eq_false h8]
          refine iteT ?_
          have e : nameB x = false := by
            unfold nameB
            rw [decide_eq_false (show ¬ x.length ≤ 8 by omega), Bool.and_false, Bool.false_and]
          rw [← e]
          exact q H (Same.refl H)
      · rw [decide_eq_false h1]
        refine iteF ⟨_, rfl, ?_⟩
        have e : nameB x = false := by
          unfold nameB
          rw [decide_eq_false (show ¬ 1 ≤ x.length by omega), Bool.false_and, Bool.false_and]
        have q2 := q H (Same.refl H)
        rw [e] at q2
        exact q2
theorem init_d (T : Txt K mg a) : ∃ ds, Vals [V.int 1] ds ∧ Binds K a.d_Item___init__ ["self", "name", "least", "greatest", "price"] ds := by
  refine T.F_Item___init__.binds0 (ps := ["self", "name", "least", "greatest", "price"]) 4 (by simp) rfl ?_
  intro D doc pm an cdv ct us ks l1 l2
  match us, ks, l1, l2 with
  | [_, _, _, _], [_], _, _ => exact ⟨_, _, _, _, _, _, rfl, rfl, rfl⟩
/-- exact, any arguments -/
def spExactX (C CI : Addr) : Sp := fun vs H Q E => ∃ (v1 v2 : V) (t1 t2 : String), vs = [.ref C, v1, v2] ∧ (∀ H', Same H H' → AnyV H' v1 t1 ∧ AnyV H' v2 t2) ∧ (∀ y, v1 = .str y → y.length ≤ sizeLine) ∧
  (∀ nm i, v1 = .str nm → v2 = .int i → nameB nm = true → ∀ x H', H x = none → Same H H' → ItemAt C H' x nm i i 0 → Q (.ref x) H') ∧
  ((∀ nm i, v1 = .str nm → v2 = .int i → nameB nm = true → False) → ∀ H', Same H H' → E (.ref CI) none H')
theorem same_made {H : Hp} {C x dx : Addr} (hx : H x = none) (hdx : H dx = none) (ne : dx ≠ x) : Same H (upd (upd H dx (.own x)) x (.ins C dx [])) := by
  intro b o e
  rw [upd_ne (ne_of_none e hx), upd_ne (ne_of_none e hdx)]
  exact e
theorem made {H H' : Hp} {C x dx : Addr} (hx : H x = none) (hdx : H dx = none) (hb : But x (upd (upd H dx (.own x)) x (.ins C dx [])) H') : Same H H' := by
  intro b o e
  refine hb b o (ne_of_none e hx) ?_
  rw [upd_ne (ne_of_none e hx), upd_ne (ne_of_none e hdx)]
  exact e
theorem ok_exactX (T : Txt K mg a) : FnOk P w K mg base (L2.CX P w) 5 a.f_Item_exact a.d_Item_exact ["cls", "name", "value"] (spExactX a.c_Item a.c_InvalidItem) := by
  have G_init : FnOk P w K mg base (L2.CX P w) 3 a.f_Item___init__ a.d_Item___init__ ["self", "name", "least", "greatest", "price"] (spInitX a.c_Item a.c_InvalidItem) := ok_initX T
  obtain ⟨ds, hdv, hbn⟩ := init_d T
  refine T.F_Item_exact.okX sc_Item_exact (fun vs H Q E h => ?_) (fun cdv A outer s H vs Q E hr h => ?_)
  · obtain ⟨v1, v2, t1, t2, rfl, _⟩ := h
    rfl
  · obtain ⟨v1, v2, t1, t2, rfl, av, sl, q1, q2⟩ := h
    refine ⟨_, (pss_one (ps_ret (pe_makeL (i := 0) T.mk_Item G_init (hr.mono (by decide)) rfl (Or.inl rfl) hbn hdv (passes_call (takes_of rfl rfl rfl rfl) (fun _ _ _ _ z => z)) (pa_cons (pv 1) (pa_cons (pv 2) (pa_cons (pv 2) pa_nil)))))), rfl, ?_⟩
    refine ⟨_, rfl, _, rfl, _, rfl, fun x dx hx hdx ne => ?_⟩
    have S0 := same_made (C := a.c_Item) hx hdx ne
    refine ⟨x, dx, v1, v2, v2, .int 1, t1, t2, t2, "int", rfl, upd_same, fun H' S => ⟨(av H' (S0.trans S)).1, (av H' (S0.trans S)).2, (av H' (S0.trans S)).2, .int 1⟩, sl, fun nm lo hi pr f H' hb' hx' => ⟨rfl, ?_⟩, fun bad H' S => ?_⟩
    · obtain rfl : lo = hi := V.int.inj (f.e2.symm.trans f.e3)
      have e0 : prI lo lo pr = 0 := by
        unfold prI
        rw [if_pos rfl]
      rw [e0] at hx'
      exact q1 nm lo f.e1 f.e2 f.nm x H' hx (made hx hdx hb') ⟨dx, hx'⟩
    · exact q2 (fun nm i e1 e2 hn => bad nm i i 1 ⟨e1, e2, e2, rfl, hn, by omega, by decide, by decide⟩) H' (S0.trans S)
end
end Ask

set_option Elab.async false
set_option linter.all false
set_option maxRecDepth 100000
set_option maxHeartbeats 4000000
namespace Ask
open PySem L2
open PyProof.Rows
section
variable {a : Ad}
/-- _law_word(lambda: ..): "" where it returns, "item" where InvalidItem is raised -/
def TTword (CI : Addr) : (XK → Hp → VK → Prop) → Hp → VK → Prop := fun tl H Q => ∀ Q' : VK, (∀ v H', Q (.str "") H' → Q' v H') →
  tl (fun cls d H' => cls = .ref CI ∧ d = none ∧ ∀ b, H' b = none → Q (.str "item") (upd H' b (ExK cls d b))) H Q'
theorem word_gives {X : Cx} (T : Txt X.K X.mg a) (cdg : Value) (q : Str) : LamX.GivesTo X ["act", "caught", "e"] "_law_word" (defScope s__law_word) a.f__law_word cdg (defBody s__law_word) "act" q (TTword a.c_InvalidItem) := by
  intro f c' s H Q tl act hc h
  have nd := sc__law_word.nd
  let tb : WX → TS := fun W D σ H => ∃ Ech : XK, (∀ cls d σ' H', Ech cls d H' → σ'.length = 3 → W cls d σ' H') ∧ σ[0]? = some (some (.ref f)) ∧ H c' = some (LamX.CodeO c' q) ∧ tl Ech H (fun _ H1 => D.nx σ H1)
  have body_ : ∀ (W : WX) (pn : List (Addr × Obj)) (xe : Value → Shared → Prop) {p1 p2 p3 : Pos},
      Takes ((cxOf C8.CX0 X.prog X.w X.K X.mg X.base ["act", "caught", "e"] "_law_word" (defScope s__law_word) a.f__law_word cdg X.A X.stack s H C8.E0).nox.tr pn xe) W →
      PSs ((cxOf C8.CX0 X.prog X.w X.K X.mg X.base ["act", "caught", "e"] "_law_word" (defScope s__law_word) a.f__law_word cdg X.A X.stack s H C8.E0).nox.tr pn xe) [.Expr (.Call (.Name "act" p1) [] [] p2) p3] (tb W) := by
    intro W pn xe p1 p2 p3 tk
    refine ⟨fun pins s' σ H' D I h' => ?_⟩
    obtain ⟨Ech, hW, h1, h2, h3⟩ := h'
    have hp := act (fun cls d σ H => σ.length = 3 → W cls d σ H) pn xe Ech p1 p2 (takes_len tk) (fun cls d σ' H' e l => hW cls d σ' H' e l)
    have hq := pss_one (ps_expr (pos := p3) hp)
    exact hq.run pins s' σ H' D I ⟨h1, h2, h3⟩
  refine ⟨_, (pss_cons (ps_set (i := 1) nd rfl (Or.inl rfl) pe_non)
  (pss_cons (ps_try_keep (X := (cxOf C8.CX0 X.prog X.w X.K X.mg X.base ["act", "caught", "e"] "_law_word" (defScope s__law_word) a.f__law_word cdg X.A X.stack s H C8.E0).nox) (i := 2) (tb := tb) rfl rfl nd rfl rfl ⟨rfl, by decide, .inl T.g_AskError⟩ takes0 (fun W pn xe tk _ => body_ W pn xe tk) (fun b pn => pss_one (ps_set (i := 1) nd rfl (Or.inl rfl) (pv 2))))
  (pss_cons (ps_if (pt_cmpR op_isN (pv 1) pe_non (nomark _))
    (pss_one (ps_ret pe_str))
    pss_nil)
  (pss_one (ps_ret (pe_ifExp (pt_val (pe_callB call_isK (by rfl) T.b_isinstance (by decide +kernel) (pa_cons (pv 1) (pa_cons (pe_glob (v := .ref a.c_InvalidItem) rfl T.g_InvalidItem rfl) pa_nil)))) pe_str pe_str)))))), ?_⟩
  refine ⟨_, ?_, rfl, hc, h _ fun v H1 hq => ?_⟩
  · rintro cls d σ' H' ⟨rfl, rfl, k⟩ hl
    match σ', hl with
    | [x0, x1, x2], _ =>
      refine ⟨true, PySem.W.exm_ref T.x_AskError.is.hs T.x_AskError.is.hd T.x_AskError.ty T.s_InvalidItem, (fun z => by cases z), fun _ b hb => ?_⟩
      refine ⟨_, rfl, _, rfl, rfl, ?_⟩
      rw [decide_eq_false (fun z => by cases z)]
      refine ⟨_, rfl, iteF ?_⟩
      refine ⟨_, rfl, b, a.c_InvalidItem, none, .ref a.c_InvalidItem, .ref a.c_InvalidItem, true, rfl, upd_same, (fun e he => by cases he), T.x_InvalidItem.is, .own _, kit_self, true, rfl, iteT ?_⟩
      exact k b hb
  · refine ⟨_, rfl, rfl, ?_⟩
    rw [decide_eq_true rfl]
    exact ⟨_, rfl, iteT hq⟩
end
end Ask

set_option Elab.async false
set_option linter.all false
set_option maxRecDepth 100000
set_option maxHeartbeats 4000000
namespace Ask
open PySem L2
open PyProof.Rows
local macro_rules | `(tactic| walk_at "h") => `(tactic| first
  | assumption | exact upd_same
  | (refine Eq.trans (upd_ne (by first | assumption | exact Ne.symm (by assumption) | exact ne_of_none (by walk_at "h") (by assumption))) ?_; walk_at "h"))
local macro_rules | `(tactic| walk_at "rd") => `(tactic| repeat (first
  | (refine ⟨_, rfl, ?_⟩) | (refine ⟨_, _, rfl, rfl, ?_⟩)
  | (apply rd_ixL 0; walk_at "h"; exact rfl)
  | (apply rd_ixL 1; walk_at "h"; exact rfl)
  | (apply rd_ixL 2; walk_at "h"; exact rfl)
  | (refine ⟨by show (0 : Int) < _; decide, ?_⟩)
  | (refine ⟨.inr ⟨by decide, by decide⟩, ?_⟩)
  | (refine iteT ?_) | (refine iteF ?_)))
section
variable {P : Program} {w : World} {K : PySem.W.Frag} {mg : Str → Option Value} {base : Heap} {a : Ad}
theorem ok_pen (T : Txt K mg a) :
    FnOk P w K mg base CX0 1 a.f__law_pen a.d__law_pen ["script"] (spPen K) := by
  refine T.F__law_pen.ok sc__law_pen (fun vs H Q E h => ?_) (fun cdv A outer s H vs Q E hr h => ?_)
  · obtain ⟨a, ns, rfl, _⟩ := h
    rfl
  · obtain ⟨a, ns, rfl, hS, hl, k⟩ := h
    refine ⟨_, (pss_one (ps_ret (pe_lst (pa_cons (pe_callTy call_list_of (by rfl) T.b_list (by decide +kernel) (pa_cons (pe_slice sl_list (pv 0) po_none (po_some pe_int)) pa_nil)) (pa_cons pe_int (pa_cons pe_int pa_nil)))))), ?_⟩
    refine ⟨_, rfl, _, rfl, a, _, rfl, hS, fun q hq => ?_⟩
    refine ⟨q, _, rfl, .inl (SqL.of upd_same), fun l hl' => ?_⟩
    refine ⟨by show 3 ≤ sizeLine; decide, fun p hp => ?_⟩
    have nlq : l ≠ q := fun z => by
      rw [z, upd_same] at hl'
      cases hl'
    have npl : p ≠ l := fun z => by
      rw [z, upd_same] at hp
      cases hp
    have npq : p ≠ q := fun z => by
      rw [z, upd_ne nlq.symm, upd_same] at hp
      cases hp
    have hl0 : H l = none := by
      rw [upd_ne nlq] at hl'
      exact hl'
    have hp0 : H p = none := by
      rw [upd_ne npl, upd_ne npq] at hp
      exact hp
    refine k p _ hp0 ?_ ⟨l, 0, 0, ns.take 60, upd_same, ?_, by omega, by omega, by omega, ?_⟩
    · intro b o hb e
      rw [upd_ne hb, upd_ne (ne_of_none e hl0), upd_ne (ne_of_none e hq)]
      exact e
    · rw [upd_ne npl.symm, upd_same]
      rw [show (60 : Int) = ((60 : Nat) : Int) from rfl, cut_ints]
    · rw [List.length_take]
      omega
theorem ok_next (T : Txt K mg a) :
    FnOk P w K mg base CX0 1 a.f__law_next a.d__law_next ["pen"] spNext := by
  refine T.F__law_next.ok sc__law_next (fun vs H Q E h => ?_) (fun cdv A outer s H vs Q E hr h => ?_)
  · obtain ⟨p, n, l, i, v, ns, rfl, _⟩ := h
    rfl
  · obtain ⟨p, n, l, i, v, ns, rfl, hp, hl, i0, i1, n1, hns, k⟩ := h
    have nd := sc__law_next.nd
    have npl : l ≠ p := ne_of hl hp (by
      intro q
      have q2 := HO.lst.inj q
      cases ns with
      | nil => cases q2
      | cons a r => cases q2)
    refine ⟨_, (pss_cons (ps_set (i := 1) nd rfl (Or.inl rfl) (pe_ix ix_list (pv 0) pe_int (fun _ _ => rfl)))
  (pss_cons (ps_asg (pe_op op_add (pv 1) pe_int) (pg_sub (pv 0) pe_int set_list))
  (pss_cons (ps_set (i := 2) nd rfl (Or.inl rfl) (pe_op op_add (pe_op op_mul (pv 1) pe_int) pe_int))
  (Evl.pss_cut (ps_if (pt_cmpR (op_neD hr.units) (pe_ix ix_list (pv 0) pe_int (fun _ _ => rfl)) (pe_lst pa_nil) (nomark _))
    (pss_one (ps_set (i := 2) nd rfl (Or.inl rfl) (pe_ix ix_list (pe_ix ix_list (pv 0) pe_int (fun _ _ => rfl)) (pe_op op_mod (pv 1) (pe_callB call_len_seq (by rfl) T.b_len PySem.boot_len (pa_cons (pe_ix ix_list (pv 0) pe_int (fun _ _ => rfl)) pa_nil))) (fun _ _ => rfl))))
    pss_nil)
  (Evl.pss_cut (ps_if (PW.pt (pw_and (pt_cmpR op_lt (pv 1) (pe_callB call_len_seq (by rfl) T.b_len PySem.boot_len (pa_cons (pe_ix ix_list (pv 0) pe_int (fun _ _ => rfl)) pa_nil)) (nomark _)) (pw_and1 (pt_cmpR op_ge (pv 2) (pe_op op_pow pe_int pe_int) (nomark _)))))
    (pss_one (ps_ret (pv 2)))
    pss_nil)
  (Evl.pss_cut (ps_set (i := 3) nd rfl (Or.inl rfl) (pe_op op_mod (pe_op op_add (pe_op op_add (pe_op op_mod (pv 2) pe_int) (pe_op op_mul (pv 1) pe_int)) pe_int) pe_int))
  (Evl.pss_cut (ps_set (i := 4) nd rfl (Or.inl rfl) (pe_op op_mod (pe_op op_add (pe_op op_add (pe_op op_mul (pv 3) (pv 3)) (pe_op op_mul (pv 1) pe_int)) pe_int) pe_int))
  (Evl.pss_cut (ps_set (i := 5) nd rfl (Or.inl rfl) (pe_op op_mod (pe_op op_add (pe_op op_add (pe_op op_mul (pv 4) (pv 4)) (pv 3)) (pe_op op_mul (pe_op op_mul (pv 1) (pv 1)) pe_int)) pe_int))
  (pss_one (ps_ret (pe_op op_add (pe_op op_mul (pe_op op_add (pe_op op_mul (pv 5) pe_int) (pv 4)) pe_int) (pv 3)))))))))))), ?_⟩
    walk_at "rd"
    refine ⟨p, _, _, 1, rfl, rfl, hp, rfl, ?_⟩
    walk_at "rd"
    have hp' : upd H p (.lst [.ref l, .int (i + 1), .int v]) p = some (.lst [.ref l, .int (i + 1), .int v]) := upd_same
    have hl' : upd H p (.lst [.ref l, .int (i + 1), .int v]) l = some (.lst (ns.map V.int)) := by
      rw [upd_ne npl]
      exact hl
    show Evl.tCut _ _ _ _ _
    refine ⟨fun σ' H' => ∃ c : Int, σ' = [some (.ref p), some (.int i), some (.int c), none, none, none] ∧
      H' p = some (.lst [.ref l, .int (i + 1), .int v]) ∧ H' l = some (.lst (ns.map V.int)) ∧ (∀ z : Int, 0 ≤ z → Q (.int z) H'), ?_, ?_⟩
    · walk_at "rd"
      refine ⟨Nat.zero_le _, fun q hq => ?_⟩
      have nql : l ≠ q := ne_of_none hl' hq
      have nqp : p ≠ q := ne_of_none hp' hq
      have hp3 : upd (upd H p (.lst [.ref l, .int (i + 1), .int v])) q (.lst []) p = some (.lst [.ref l, .int (i + 1), .int v]) := by
        rw [upd_ne nqp]
        exact hp'
      have hl3 : upd (upd H p (.lst [.ref l, .int (i + 1), .int v])) q (.lst []) l = some (.lst (ns.map V.int)) := by
        rw [upd_ne nql]
        exact hl'
      refine ⟨_, _, .lst (SqL.of hl3) (dp_ints ns), .lst (SqL.of upd_same) .nil, shaped_ints ns, rfl, _, rfl, ?_⟩
      rw [ne_nil]
      have k3 : ∀ z : Int, 0 ≤ z → Q (.int z) (upd (upd H p (.lst [.ref l, .int (i + 1), .int v])) q (.lst [])) := fun z hz => k z hz _ (But.trans But.upd (But.new hq)) hp3
      cases ns with
      | nil => exact iteF ⟨_, rfl, hp3, hl3, k3⟩
      | cons a r =>
        refine iteT ?_
        walk_at "rd"
        refine ⟨_, _, rfl, .inl (SqL.of (by walk_at "h")), ?_⟩
        walk_at "rd"
        obtain ⟨j, ej, hj⟩ := mod_below i (n := (List.map V.int (a :: r)).length) (by rw [List.length_map]; exact Nat.succ_pos _)
        obtain ⟨c, hc⟩ := ints_at (ns := a :: r) (j := j) (by rw [List.length_map] at hj; exact hj)
        refine ⟨by rw [List.length_map]; show (0 : Int) < ((r.length + 1 : Nat) : Int); omega, ?_⟩
        refine ⟨l, _, _, .int c, rfl, rfl, SqL.of (by walk_at "h"), by rw [ej]; exact atI_nat hc, ?_⟩
        exact ⟨c, rfl, hp3, hl3, k3⟩
    · rintro σ' H' ⟨c, rfl, hp2, hl2, k2⟩
      have hi : -(2 ^ 64) < i ∧ i < 2 ^ 64 := ⟨by omega, by omega⟩
      refine ⟨fun σ' H2 => σ' = [some (.ref p), some (.int i), some (.int c), none, none, none] ∧ H2 = H', ?_, ?_⟩
      · walk_at "rd"
        refine ⟨_, _, rfl, .inl (SqL.of (by walk_at "h")), ?_⟩
        walk_at "rd"
        refine ite2 (fun hc => ?_) (fun hc => ?_)
        · walk_at "rd"
          refine ⟨⟨by decide, by decide, by decide⟩, ?_⟩
          walk_at "rd"
          refine ite2 (fun hd => ?_) (fun hd => ?_)
          · walk_at "rd"
            refine k2 c ?_
            have h := of_decide_eq_true hd
            have e : (10 : Int) ^ (18 : Int).toNat = 1000000000000000000 := by decide
            rw [e] at h
            omega
          · exact ⟨rfl, rfl⟩
        · exact iteF ⟨rfl, rfl⟩
      · rintro σ' H2' ⟨rfl, rfl⟩
        refine ⟨fun σ' H2 => ∃ low : Int, (0 ≤ low ∧ low < 2147483587) ∧ σ' = [some (.ref p), some (.int i), some (.int c), some (.int low), none, none] ∧ H2 = H2', ?_, ?_⟩
        · walk_at "rd"
          exact ⟨_, ⟨Int.emod_nonneg _ (by decide), Int.emod_lt_of_pos _ (by decide)⟩, rfl, rfl⟩
        · rintro σ' H2 ⟨low, ⟨l0, l1⟩, rfl, rfl⟩
          refine ⟨fun σ' H3 => ∃ mid : Int, (0 ≤ mid ∧ mid < 2147483563) ∧ σ' = [some (.ref p), some (.int i), some (.int c), some (.int low), some (.int mid), none] ∧ H3 = H2, ?_, ?_⟩
          · walk_at "rd"
            refine ⟨.inl ⟨by omega, by omega⟩, ?_⟩
            walk_at "rd"
            exact ⟨_, ⟨Int.emod_nonneg _ (by decide), Int.emod_lt_of_pos _ (by decide)⟩, rfl, rfl⟩
          · rintro σ' H3 ⟨mid, ⟨m0, m1⟩, rfl, rfl⟩
            refine ⟨fun σ' H4 => ∃ top : Int, (0 ≤ top ∧ top < 2147483549) ∧ σ' = [some (.ref p), some (.int i), some (.int c), some (.int low), some (.int mid), some (.int top)] ∧ H4 = H3, ?_, ?_⟩
            · walk_at "rd"
              refine ⟨.inl ⟨by omega, by omega⟩, ?_⟩
              walk_at "rd"
              refine ⟨.inl hi, ?_⟩
              walk_at "rd"
              exact ⟨_, ⟨Int.emod_nonneg _ (by decide), Int.emod_lt_of_pos _ (by decide)⟩, rfl, rfl⟩
            · rintro σ' H4 ⟨top, ⟨t0, t1⟩, rfl, rfl⟩
              walk_at "rd"
              exact k2 _ (by omega)
end
section
variable {P : Program} {w : World} {K : PySem.W.Frag} {mg : Str → Option Value} {base : Heap} {a : Ad}
/-- the pen's list of cells stays the same one -/
def SameL (p : Addr) (H H' : Hp) : Prop := ∀ l i v, H p = some (.lst [.ref l, .int i, .int v]) → ∃ i' v', H' p = some (.lst [.ref l, .int i', .int v'])
theorem SameL.trans {p : Addr} {H H1 H2 : Hp} (a : SameL p H H1) (b : SameL p H1 H2) : SameL p H H2 := fun l i v e => by
  obtain ⟨i', v', e'⟩ := a l i v e
  exact b l i' v' e'
theorem SameL.new {p q : Addr} {H : Hp} {o : HO} (e : p ≠ q) : SameL p H (upd H q o) := fun l i v z => ⟨i, v, by rw [upd_ne e]; exact z⟩
theorem SameL.of {p : Addr} {H H' : Hp} (s : Same H H') : SameL p H H' := fun l i v z => ⟨i, v, s _ _ z⟩
def spDrawL : Sp := fun vs H Q _ => ∃ (p : Addr) (n : Nat) (b : Int), vs = [.ref p, .int b] ∧ Pen H p n ∧ n ≤ 1000000 ∧
  0 < b ∧ b < 2 ^ 200 ∧ ∀ (z : Int) H', 0 ≤ z → z < b → But p H H' → Pen H' p (n + 1) → SameL p H H' → Q (.int z) H'
theorem ok_drawL (T : Txt K mg a) : FnOk P w K mg base CX0 2 a.f__law_draw a.d__law_draw ["pen", "below"] spDrawL := by
  have G_law_next : FnOk P w K mg base CX0 1 a.f__law_next a.d__law_next ["pen"] spNext := ok_next T
  refine T.F__law_draw.ok sc__law_draw (fun vs H Q E h => ?_) (fun cdv A outer s H vs Q E hr h => ?_)
  · obtain ⟨p, n, b, rfl, _⟩ := h
    rfl
  · obtain ⟨p, n, b, rfl, ⟨l, i, v, ns, hp, hl, i0, i1, v0, hns⟩, n1, b0, b1, k⟩ := h
    have nd := sc__law_draw.nd
    refine ⟨_, (Evl.pss_cut (ps_if (pt_cmpR op_lt (pe_ix ix_list (pv 0) pe_int (fun _ _ => rfl)) (pv 1) (nomark _))
    (pss_one (ps_asg (pe_call G_law_next (hr.mono (by first | decide | omega)) rfl T.g__law_next T.F__law_next.kp T.b__law_next .nil pass0 (pa_cons (pv 0) pa_nil)) (pg_sub (pv 0) pe_int set_list)))
    pss_nil)
  (pss_cons (ps_set (i := 2) nd rfl (Or.inl rfl) (pe_op op_mod (pe_ix ix_list (pv 0) pe_int (fun _ _ => rfl)) (pv 1)))
  (pss_cons (ps_asg (pe_op op_fdivW (pe_ix ix_list (pv 0) pe_int (fun _ _ => rfl)) (pv 1)) (pg_sub (pv 0) pe_int set_list))
  (pss_one (ps_ret (pv 2)))))), ?_⟩
    refine ⟨fun σ' H' => ∃ j u : Int, σ' = [some (.ref p), some (.int b), none] ∧ H' p = some (.lst [.ref l, .int j, .int u]) ∧
      0 ≤ j ∧ j ≤ i + 1 ∧ 0 ≤ u ∧ But p H H', ?_, ?_⟩
    · walk_at "rd"
      refine ite2 (fun hc => ?_) (fun hc => ?_)
      · walk_at "rd"
        refine ⟨p, n, l, i, v, ns, rfl, hp, hl, i0, i1, n1, hns, fun z hz H' hb' hp' => ?_⟩
        walk_at "rd"
        refine ⟨p, _, _, 2, rfl, rfl, hp', rfl, ?_⟩
        exact ⟨i + 1, z, rfl, upd_same, by omega, by omega, hz, But.trans hb' But.upd⟩
      · exact ⟨i, v, rfl, hp, i0, by omega, v0, But.refl p H⟩
    · rintro σ' H' ⟨j, u, rfl, hp', j0, j1, u0, hb'⟩
      walk_at "rd"
      refine ⟨b0, ?_⟩
      walk_at "rd"
      refine ⟨⟨b0, Nat.lt_of_lt_of_le (PySem.Flt.log2_lt_of (by decide : 0 < 200) (by omega)) (by decide)⟩, ?_⟩
      walk_at "rd"
      refine ⟨p, _, _, 2, rfl, rfl, hp', rfl, ?_⟩
      walk_at "rd"
      have nlp : l ≠ p := by
        refine ne_of hl hp ?_
        intro q
        have q2 := HO.lst.inj q
        cases ns with
        | nil => cases q2
        | cons a r => cases q2
      refine k _ _ (Int.emod_nonneg _ (by omega)) (Int.emod_lt_of_pos _ b0) (But.trans hb' But.upd) ⟨l, j, _, ns, upd_same, ?_, j0, by omega, ?_, hns⟩ ?_
      · rw [upd_ne nlp]
        exact hb' _ _ nlp hl
      · exact Int.ediv_nonneg u0 (by omega)
      · intro l2 i2 v2 e
        rw [hp] at e
        cases e
        exact ⟨_, _, upd_same⟩
theorem ok_draw (T : Txt K mg a) : FnOk P w K mg base CX0 2 a.f__law_draw a.d__law_draw ["pen", "below"] spDraw :=
  (ok_drawL T).imp fun vs H Q E ⟨p, n, b, e, hp, h1, h2, h3, k⟩ => ⟨p, n, b, e, hp, h1, h2, h3, fun z H' z0 z1 b1 p1 _ => k z H' z0 z1 b1 p1⟩
end
end Ask

set_option Elab.async false
set_option linter.all false
set_option maxRecDepth 100000
set_option maxHeartbeats 4000000
namespace Ask
open PySem L2
open PyProof.Rows
section
variable {P : Program} {w : World} {K : PySem.W.Frag} {mg : Str → Option Value} {base : Heap} {a : Ad}
/-- draws of _law_any, signs of its result -/
def cA : Nat → Nat
  | 0 => 1
  | l + 1 => 2 + 3 * cA l
def bA : Nat → Nat
  | 0 => 60
  | l + 1 => (2 * bA l + 2) * 3 + 9
theorem bA_pos : ∀ l, 60 ≤ bA l
  | 0 => Nat.le_refl _
  | l + 1 => by
    have z := bA_pos l
    show 60 ≤ (2 * bA l + 2) * 3 + 9
    omega
theorem cA_pos : ∀ l, 1 ≤ cA l
  | 0 => Nat.le_refl _
  | l + 1 => by
    show 1 ≤ 2 + 3 * cA l
    omega
def spAny (l : Nat) : Sp := fun vs H Q _ => ∃ (p : Addr) (n : Nat), vs = [.ref p, .int (l : Int)] ∧ Pen H p n ∧ n + cA l ≤ 1000000 ∧
  ∀ v d H', But p H H' → Pen H' p (n + cA l) → SameL p H H' → Dq (fun a => H a = none) H' l v d → Sh l (bA l) d → (∀ y, v = .str y → y.length ≤ 100) → Q v H'
theorem fn_never {K : PySem.W.Frag} {CX : CXT} {k : Nat} {f : Addr} {fd : FuncData} {ps : List Str} : FnOk P w K mg base CX k f fd ps (fun _ _ _ _ => False) :=
  ⟨fun _ _ _ _ h => h.elim, fun _ _ _ _ _ _ _ _ _ _ _ _ _ h => h.elim⟩
/-- the values of the list of small ones -/
theorem small_any {v : V} (h : v ∈ [V.int 0, .int 1, .int (-1), .bl true, .non, .str "", .str "0", .str "a", .str "aA", .int (10 ^ 39), .str "10"]) : ∃ d, FlatD v d ∧ Sh 0 60 d := by
  simp only [List.mem_cons, List.not_mem_nil, or_false] at h
  rcases h with rfl | rfl | rfl | rfl | rfl | rfl | rfl | rfl | rfl | rfl | rfl
  · exact ⟨_, rfl, (sh_int (by decide)).up (by decide) (by decide)⟩
  · exact ⟨_, rfl, (sh_int (by decide)).up (by decide) (by decide)⟩
  · exact ⟨_, rfl, (sh_int (by decide)).up (by decide) (by decide)⟩
  · exact ⟨_, rfl, (sh_bool true).up (by decide) (by decide)⟩
  · exact ⟨_, rfl, sh_none.up (by decide) (by decide)⟩
  · exact ⟨_, rfl, sh_str (by decide +kernel)⟩
  · exact ⟨_, rfl, sh_str (by decide +kernel)⟩
  · exact ⟨_, rfl, sh_str (by decide +kernel)⟩
  · exact ⟨_, rfl, sh_str (by decide +kernel)⟩
  · exact ⟨_, rfl, ⟨by decide +kernel, by decide +kernel, by decide +kernel⟩⟩
  · exact ⟨_, rfl, sh_str (by decide +kernel)⟩
theorem small_len {v : V} (h : v ∈ [V.int 0, .int 1, .int (-1), .bl true, .non, .str "", .str "0", .str "a", .str "aA", .int (10 ^ 39), .str "10"]) : ∀ y, v = .str y → y.length ≤ 100 := by
  simp only [List.mem_cons, List.not_mem_nil, or_false] at h
  rcases h with rfl | rfl | rfl | rfl | rfl | rfl | rfl | rfl | rfl | rfl | rfl
  all_goals (intro y e; first | (cases e; done) | (obtain rfl := V.str.inj e; decide +kernel))
/-- parts of a list -/
structure Parts (fr : Addr → Prop) (H : Hp) (l m : Nat) (xs : List V) (ds : List PyData) : Prop where
  dq : Paired (Dq fr H l) xs ds
  sh : ∀ d ∈ ds, Sh l (bA l) d
  len : xs.length = m
theorem paired_snoc {α β : Type} {F : α → β → Prop} {x : α} {y : β} (h : F x y) : ∀ {xs : List α} {ys : List β}, Paired F xs ys → Paired F (xs ++ [x]) (ys ++ [y])
  | _, _, .nil => .cons h .nil
  | _, _, .cons a r => .cons a (paired_snoc h r)
theorem Parts.snoc {fr : Addr → Prop} {H H' : Hp} {l m : Nat} {xs : List V} {ds : List PyData} {v : V} {d : PyData} (h : Parts fr H l m xs ds) (k : ∀ a o, fr a → H a = some o → H' a = some o)
    (hd : Dq fr H' l v d) (sh : Sh l (bA l) d) : Parts fr H' l (m + 1) (xs ++ [v]) (ds ++ [d]) :=
  ⟨paired_snoc hd (paired_imp (fun _ _ q => Dq.imp (fun _ z => z) k l q) h.dq), fun x hx => by
    rcases List.mem_append.mp hx with q | q
    · exact h.sh x q
    · rw [List.mem_singleton.mp q]
      exact sh, by rw [List.length_append, h.len]; rfl⟩
theorem Parts.to {fr fr' : Addr → Prop} {H H' : Hp} {l m : Nat} {xs : List V} {ds : List PyData} (h : Parts fr H l m xs ds) (f : ∀ a, fr a → fr' a) (k : ∀ a o, fr a → H a = some o → H' a = some o) : Parts fr' H' l m xs ds :=
  ⟨paired_imp (fun _ _ q => Dq.imp f k l q) h.dq, h.sh, h.len⟩
/-- the keys of the dict -/
def keysA : List Key := [.inr "a", .inr "b", .inr "c", .inl 0]
theorem merge_keys : ∀ xs : List V, xs.length ≤ 3 → mergeK [] (keysA.zip xs) = keysA.zip xs ∧ (keysA.zip xs).map (·.2) = xs ∧ (keysA.zip xs).length = xs.length
  | [], _ => ⟨rfl, rfl, rfl⟩
  | [_], _ => ⟨rfl, rfl, rfl⟩
  | [_, _], _ => ⟨by with_unfolding_all rfl, rfl, rfl⟩
  | [_, _, _], _ => ⟨by with_unfolding_all rfl, rfl, rfl⟩
  | _ :: _ :: _ :: _ :: _, h => absurd h (by simp)
theorem sh_key {k : Key} (h : k ∈ keysA) (n L : Nat) (hL : 60 ≤ L) : Sh n L (keyD k) := by
  unfold keysA at h
  simp only [List.mem_cons, List.not_mem_nil, or_false] at h
  rcases h with rfl | rfl | rfl | rfl
  · exact (sh_str (x := "a") (L := 60) (by decide +kernel)).up (Nat.zero_le _) hL
  · exact (sh_str (x := "b") (L := 60) (by decide +kernel)).up (Nat.zero_le _) hL
  · exact (sh_str (x := "c") (L := 60) (by decide +kernel)).up (Nat.zero_le _) hL
  · exact (sh_int (i := 0) (by decide)).up (Nat.zero_le _) (Nat.le_trans (by decide) hL)
/-- a new object beside the pen's list of cells -/
theorem Pen.put {H : Hp} {p q : Addr} {n : Nat} {o : HO} (h : Pen H p n) (e : p ≠ q) (el : ∀ l i v, H p = some (.lst [.ref l, .int i, .int v]) → l ≠ q) : Pen (upd H q o) p n := by
  obtain ⟨l, i, v, ns, h1, h2, h3⟩ := h
  exact ⟨l, i, v, ns, by rw [upd_ne e]; exact h1, by rw [upd_ne (el l i v h1)]; exact h2, h3⟩
/-- q is not the pen's list of cells -/
def NotL (H : Hp) (p q : Addr) : Prop := ∀ l i v, H p = some (.lst [.ref l, .int i, .int v]) → l ≠ q
theorem NotL.new {H : Hp} {p q : Addr} {n : Nat} (h : Pen H p n) (e : H q = none) : NotL H p q := by
  intro l i v z
  obtain ⟨l', i', v', ns, h1, h2, _⟩ := h
  rw [h1] at z
  cases z
  exact ne_of_none h2 e
theorem NotL.same {H H' : Hp} {p q : Addr} {n : Nat} (h : NotL H p q) (hp : Pen H p n) (s : SameL p H H') : NotL H' p q := by
  obtain ⟨l', i', v', ns, h1, _⟩ := hp
  obtain ⟨i2, v2, e2⟩ := s _ _ _ h1
  intro l i v z
  rw [e2] at z
  cases z
  exact h _ _ _ h1
theorem NotL.put {H : Hp} {p q r : Addr} {o : HO} (h : NotL H p q) (e : p ≠ r) : NotL (upd H r o) p q := by
  intro l i v z
  rw [upd_ne e] at z
  exact h _ _ _ z
theorem ok_any_step (T : Txt K mg a) (l : Nat) {sp : Sp} (G_law_any : FnOk P w K mg base CX0 (l + 2) a.f__law_any a.d__law_any ["pen", "levels"] sp)
    (hsp : ∀ m, l = m + 1 → sp = spAny m) : FnOk P w K mg base CX0 (l + 3) a.f__law_any a.d__law_any ["pen", "levels"] (spAny l) := by
  have G_law_draw : FnOk P w K mg base CX0 2 a.f__law_draw a.d__law_draw ["pen", "below"] spDrawL := ok_drawL T
  refine T.F__law_any.ok sc__law_any (fun vs H Q E h => ?_) (fun cdv A outer s H vs Q E hr h => ?_)
  · obtain ⟨p, n, rfl, _⟩ := h
    rfl
  · obtain ⟨p, n, rfl, hp, hn, k⟩ := h
    have nd := sc__law_any.nd
    refine ⟨_, (Evl.pss_cut (ps_set (i := 2) nd rfl (Or.inl rfl) (pe_call G_law_draw (hr.mono (by first | decide | omega)) rfl T.g__law_draw T.F__law_draw.kp T.b__law_draw .nil pass0 (pa_cons (pv 0) (pa_cons (pe_ifExp (pt_cmpR op_gt (pv 1) pe_int (nomark _)) pe_int pe_int) pa_nil))))
  (pss_cons (ps_if (pt_cmpR op_lt (pv 2) pe_int (nomark _))
    (pss_one (ps_ret (pe_ix ix_list (pe_lst (pa_cons pe_int (pa_cons pe_int (pa_cons (pe_un un_neg pe_int) (pa_cons pe_bl (pa_cons pe_non (pa_cons pe_str (pa_cons pe_str (pa_cons pe_str (pa_cons pe_str (pa_cons (pe_op op_pow pe_int pe_int) (pa_cons pe_str pa_nil)))))))))))) (pv 2) (fun _ _ => rfl))))
    pss_nil)
  (pss_cons (ps_set (i := 3) nd rfl (Or.inr rfl) (pe_lc (own := [("turn", 4)]) (g := gName 4) (tt := tYes) rfl nd (pi_range1 rfl T.b_range (pa_cons (pe_call G_law_draw (hr.mono (by first | decide | omega)) rfl T.g__law_draw T.F__law_draw.kp T.b__law_draw .nil pass0 (pa_cons (pv 0) (pa_cons pe_int pa_nil))) pa_nil)) (blkOk_by (N := ["pen", "levels", "road", "parts", "turn", "k"]) (sc := defScope s__law_any) (by decide +kernel)) (fun _ _ _ _ _ => (pg_name (i := 4) nd rfl (Or.inl rfl))) (fun _ _ _ _ _ => pts_nil) (fun _ _ _ _ _ => (pe_call G_law_any (hr.mono (by first | decide | omega)) rfl T.g__law_any T.F__law_any.kp T.b__law_any .nil pass0 (pa_cons (pv 0) (pa_cons (pe_op op_sub (pv 1) pe_int) pa_nil))))))
  (pss_cons (ps_if (pt_cmpR op_eq (pv 2) pe_int (nomark _))
    (pss_one (ps_ret (pv 3)))
    pss_nil)
  (pss_cons (ps_if (pt_cmpR op_eq (pv 2) pe_int (nomark _))
    (pss_one (ps_ret (pe_callTy (call_dictP rfl) (by rfl) T.b_dict (by decide +kernel) (pa_cons (pe_lc (own := [("k", 5)]) (g := gName 5) (tt := tYes) rfl nd (pi_range1 rfl T.b_range (pa_cons (pe_callB call_len_seq (by rfl) T.b_len PySem.boot_len (pa_cons (pv 3) pa_nil)) pa_nil)) (blkOk_by (N := ["pen", "levels", "road", "parts", "turn", "k"]) (sc := defScope s__law_any) (by decide +kernel)) (fun _ _ _ _ _ => (pg_name (i := 5) nd rfl (Or.inl rfl))) (fun _ _ _ _ _ => pts_nil) (fun _ _ _ _ _ => (pe_tup (pa_cons (pe_ix (ix_listK (K := K) rfl) (pe_lst (pa_cons pe_str (pa_cons pe_str (pa_cons pe_str (pa_cons pe_int pa_nil))))) (pv 5) (fun _ _ => rfl)) (pa_cons (pe_ix (ix_listK (K := K) rfl) (pv 3) (pv 5) (fun _ _ => rfl)) pa_nil))))) pa_nil))))
    pss_nil)
  (pss_one (ps_ret (pe_callTy call_tuple_of (by rfl) T.b_tuple (by decide +kernel) (pa_cons (pv 3) pa_nil))))))))), ?_⟩
    have cp := cA_pos l
    refine ⟨fun σ' H1 => ∃ z : Int, σ' = [some (.ref p), some (.int (l : Int)), some (.int z), none, none, none] ∧ 0 ≤ z ∧ z < 15 ∧ (l = 0 → z < 11) ∧ But p H H1 ∧ Pen H1 p (n + 1) ∧ SameL p H H1, ?_, ?_⟩
    · refine ⟨_, rfl, _, rfl, _, _, rfl, rfl, _, rfl, ?_⟩
      by_cases hl : 0 < (l : Int)
      · rw [decide_eq_true hl]
        refine iteT ⟨p, n, 15, rfl, hp, by omega, by decide, by decide, fun z H1 z0 z1 b1 hp1 s1 => ?_⟩
        exact ⟨z, rfl, z0, z1, fun e => by omega, b1, hp1, s1⟩
      · rw [decide_eq_false hl]
        refine iteF ⟨p, n, 11, rfl, hp, by omega, by decide, by decide, fun z H1 z0 z1 b1 hp1 s1 => ?_⟩
        exact ⟨z, rfl, z0, by omega, fun e => z1, b1, hp1, s1⟩
    · rintro σ' H1 ⟨z, rfl, z0, z15, zl, b1, hp1, s1⟩
      refine ⟨_, rfl, _, _, rfl, rfl, _, rfl, ?_⟩
      by_cases h11 : z < 11
      · rw [decide_eq_true h11]
        refine iteT ⟨_, rfl, _, _, rfl, rfl, ⟨by decide, by decide, by decide⟩, by show 11 ≤ sizeLine; decide, fun q hq => ?_⟩
        obtain ⟨v, hv, hm⟩ := at_drawn (xs := [V.int 0, .int 1, .int (-1), .bl true, .non, .str "", .str "0", .str "a", .str "aA", .int (10 ^ 39), .str "10"]) z0 h11 rfl
        obtain ⟨d, hf, hs⟩ := small_any hm
        refine ⟨_, rfl, q, _, _, _, rfl, rfl, SqL.of upd_same, hv, ?_⟩
        exact k v d _ (b1.trans (But.new hq)) ((hp1.new hq).mono (by omega)) (s1.trans (SameL.new (hp1.ne0 hq))) (Dq.flat hf l) (hs.up (Nat.zero_le _) (bA_pos l)) (small_len hm)
      · rw [decide_eq_false h11]
        refine iteF ?_
        cases l with
        | zero => exact absurd (zl rfl) h11
        | succ m =>
          obtain rfl := hsp m rfl
          have cm : cA (m + 1) = 2 + 3 * cA m := rfl
          refine ⟨_, rfl, p, _, 4, rfl, hp1, by omega, by decide, by decide, fun c H2 c0 c4 b2 hp2 s2 => ?_⟩
          refine ⟨c, rfl, by omega, by omega, fun D hD => ?_⟩
          have bD := b1.trans b2
          have sD := s1.trans s2
          have pD : p ≠ D := hp2.ne0 hD
          have hD0 : H D = none := bD.free hp2 hD
          refine lc_range (lo := 0) (n := c.toNat) (fun i H' => ∃ xs ds, H' D = some (.lst xs) ∧ Parts (fun a => H a = none ∧ a ≠ D) H' m i xs ds ∧ But p H H' ∧ Pen H' p (n + 2 + i * cA m) ∧ SameL p H H' ∧ NotL H' p D) ?_ ?_ ?_
          · exact ⟨[], [], upd_same, ⟨.nil, fun _ h => absurd h (by simp), rfl⟩, bD.trans (But.new hD), (hp2.new hD).mono (by omega), sD.trans (SameL.new pD), (NotL.new hp2 hD).put pD⟩
          · rintro i H3 hi ⟨xs, ds, h3, P3, b3, hp3, s3, n3⟩
            have mul : (i + 1) * cA m ≤ 3 * cA m := Nat.mul_le_mul_right _ (by omega)
            have mul2 : (i + 1) * cA m = i * cA m + cA m := Nat.succ_mul i (cA m)
            refine ⟨rfl, ?_⟩
            refine ⟨_, rfl, _, rfl, _, _, rfl, rfl, p, _, ?_, hp3, by omega, fun v d H4 b4 hp4 s4 dq sh _ => ?_⟩
            · show [V.ref p, V.int (((m + 1 : Nat) : Int) - 1)] = [V.ref p, V.int (m : Int)]
              rw [show ((m + 1 : Nat) : Int) - 1 = (m : Int) by omega]
            · have nD : ∀ a, H3 a = none → H a = none ∧ a ≠ D := fun a ha => ⟨b3.free hp3 ha, fun e => by rw [e, h3] at ha; cases ha⟩
              have h4 : H4 D = some (.lst xs) := b4 _ _ pD.symm h3
              refine ⟨xs, h4, ?_, xs ++ [v], ds ++ [d], upd_same, P3.snoc (fun a o ha e => ?_) (Dq.imp nD (fun a o ha e => ?_) m dq) sh, But.of (b3.trans b4) hD0, ?_, ?_, ?_⟩
              · rw [P3.len]
                exact Nat.lt_of_lt_of_le (show i < 4 by omega) (by decide)
              · rw [upd_ne ha.2]
                exact b4 a o (fun e2 => hp.ne0 ha.1 e2.symm) e
              · rw [upd_ne (nD a ha).2]
                exact e
              · exact (hp4.put pD (n3.same hp3 s4)).mono (by omega)
              · exact (s3.trans s4).trans (SameL.new pD)
              · exact (n3.same hp3 s4).put pD
          · rintro H3 ⟨xs, ds, h3, P3, b3, hp3, s3, n3⟩
            have ln : c.toNat ≤ 3 := by omega
            have mul : c.toNat * cA m ≤ 3 * cA m := Nat.mul_le_mul_right _ ln
            have lx : xs.length ≤ 3 := by rw [P3.len]; exact ln
            have ld : ds.length ≤ 3 := by rw [← paired_len P3.dq]; exact lx
            have big : bA (m + 1) = (2 * bA m + 2) * 3 + 9 := rfl
            have PP : Parts (fun a => H a = none) H3 m c.toNat xs ds := P3.to (fun _ z => z.1) (fun _ _ _ e => e)
            -- road == 11
            refine ⟨_, rfl, rfl, _, rfl, ?_⟩
            rw [dV_int]
            by_cases e11 : z = 11
            · rw [decide_eq_true e11]
              refine iteT ⟨_, rfl, ?_⟩
              exact k _ (.list ds) H3 b3 (hp3.mono (by omega)) s3 (.inr (.inl ⟨D, xs, ds, rfl, rfl, hD0, h3, PP.dq⟩)) ((sh_list (k := 3) P3.sh ld).up (Nat.le_refl _) (by omega)) (fun y e => by cases e)
            · rw [decide_eq_false e11]
              refine iteF ?_
              refine ⟨_, rfl, rfl, _, rfl, ?_⟩
              rw [dV_int]
              by_cases e12 : z = 12
              · rw [decide_eq_true e12]
                refine iteT ?_
                refine ⟨_, rfl, D, xs, rfl, .inl (SqL.of h3), _, rfl, by omega, by omega, fun D2 hD2 => ?_⟩
                obtain ⟨mk1, mk2, mk3⟩ := merge_keys xs lx
                have hD20 : H D2 = none := b3.free hp3 hD2
                have dD : D ≠ D2 := ne_of_none h3 hD2
                refine lc_range (lo := 0) (n := xs.length) (fun j H' => ∃ ps, H' D2 = some (.lst (ps.map V.ref)) ∧ Paired (fun q kv => H' q = some (.tup [kV kv.1, kv.2]) ∧ q ≠ D2) ps ((keysA.zip xs).take j) ∧ ps.length = j ∧ Same H3 H') ?_ ?_ ?_
                · exact ⟨[], upd_same, .nil, rfl, Same.new hD2⟩
                · rintro j H5 hj ⟨ps, h5, p5, l5, S5⟩
                  refine ⟨rfl, ?_⟩
                  refine ⟨by show 4 ≤ sizeLine; decide, fun q hq => ?_⟩
                  have hx : xs[j]? = some xs[j] := List.getElem?_eq_getElem hj
                  have hk4 : j < keysA.length := by show j < 4; omega
                  have hkj : keysA[j]? = some keysA[j] := List.getElem?_eq_getElem hk4
                  have hz : (keysA.zip xs)[j]? = some (keysA[j], xs[j]) := by
                    rw [List.getElem?_zip_eq_some]
                    exact ⟨hkj, hx⟩
                  have S6 := Same.grow S5 hq (o := .lst [V.str "a", V.str "b", V.str "c", V.int 0])
                  refine ⟨_, rfl, q, _, _, kV keysA[j], rfl, rfl, SqL.of upd_same, ?_, _, rfl, _, rfl, D, xs, _, xs[j], rfl, rfl, SqL.of (S6 _ _ h3), ?_, by show 2 ≤ sizeLine; decide, fun t ht => ?_⟩
                  · rw [Int.zero_add]
                    refine atI_nat ?_
                    show (keysA.map kV)[j]? = _
                    rw [List.getElem?_map, hkj]
                    rfl
                  · rw [Int.zero_add]
                    exact atI_nat hx
                  · have S7 := Same.grow S6 ht (o := .tup [kV keysA[j], xs[j]])
                    have q2 : q ≠ D2 := fun e => by rw [e, h5] at hq; cases hq
                    have t2 : t ≠ D2 := fun e => by
                      rw [e, upd_ne (Ne.symm q2), h5] at ht
                      cases ht
                    have old : ∀ b o, b ≠ D2 → H5 b = some o → upd (upd (upd H5 q (.lst [V.str "a", V.str "b", V.str "c", V.int 0])) t (.tup [kV keysA[j], xs[j]])) D2 (.lst (ps.map V.ref ++ [V.ref t])) b = some o := by
                      intro b o hb e
                      rw [upd_ne hb]
                      exact Same.new ht _ _ (Same.new hq _ _ e)
                    refine ⟨ps.map V.ref, ?_, ?_, ps ++ [t], ?_, ?_, ?_, ?_⟩
                    · exact Same.new ht _ _ (Same.new hq _ _ h5)
                    · rw [List.length_map, l5]
                      exact Nat.lt_of_lt_of_le (show j < 4 by omega) (by decide)
                    · rw [upd_same, List.map_append]
                      rfl
                    · rw [List.take_add_one, hz]
                      exact paired_snoc ⟨by rw [upd_ne t2, upd_same], t2⟩ (paired_imp (fun r kv h => ⟨old _ _ h.2 h.1, h.2⟩) p5)
                    · rw [List.length_append, l5]
                      rfl
                    · intro b o e
                      exact old b o (ne_of_none e hD2) (S5 _ _ e)
                · rintro H5 ⟨ps, h5, p5, l5, S5⟩
                  rw [List.take_of_length_le (Nat.le_of_eq mk3)] at p5
                  refine ⟨D2, ps, keysA.zip xs, rfl, SqL.of h5, paired_imp (fun _ _ h => SqT.of h.1) p5, fun r hr => ?_⟩
                  rw [mk1]
                  have hr3 : H3 r = none := S5.free hr
                  have S6 := Same.grow S5 hr (o := .dK (keysA.zip xs))
                  have hr0 : H r = none := b3.free hp3 hr3
                  refine k _ (.dict (((keysA.zip xs).map fun q => keyD q.1).zip ds)) _ (b3.trans (Same.but S6)) ((hp3.same S6).mono (by omega)) (s3.trans (SameL.of S6)) (.inr (.inr (.inr ⟨r, keysA.zip xs, ds, rfl, rfl, hr0, upd_same, ?_⟩))) ((sh_dict (k := 3) (n := m) (L := bA m) ?_ ?_).up (Nat.le_refl _) (by omega)) (fun y e => by cases e)
                  · rw [mk2]
                    exact (PP.to (fun _ z => z) (fun a o _ e => S6 a o e)).dq
                  · rintro ⟨d1, d2⟩ hd
                    obtain ⟨h1, h2⟩ := List.of_mem_zip hd
                    refine ⟨?_, P3.sh _ h2⟩
                    obtain ⟨⟨k1, k2⟩, hk, rfl⟩ := List.mem_map.mp h1
                    exact sh_key (List.of_mem_zip hk).1 m _ (bA_pos m)
                  · rw [List.length_zip]
                    omega
              · rw [decide_eq_false e12]
                refine iteF ?_
                refine ⟨_, rfl, D, xs, rfl, .inl ⟨SqL.of h3, fun t ht => ?_⟩⟩
                have ht0 : H t = none := b3.free hp3 ht
                have st := Same.new ht (o := .tup xs)
                refine k _ (.tuple ds) _ (b3.trans (But.new ht)) ((hp3.new ht).mono (by omega)) (s3.trans (SameL.new (hp3.ne0 ht))) (.inr (.inr (.inl ⟨t, xs, ds, rfl, rfl, ht0, upd_same, ?_⟩))) ((sh_tup (k := 3) P3.sh ld).up (Nat.le_refl _) (by omega)) (fun y e => by cases e)
                exact (PP.to (fun _ z => z) (fun a o _ e => st a o e)).dq
theorem ok_any (T : Txt K mg a) : ∀ l : Nat, FnOk P w K mg base CX0 (l + 3) a.f__law_any a.d__law_any ["pen", "levels"] (spAny l)
  | 0 => ok_any_step T 0 (sp := fun _ _ _ _ => False) fn_never fun m e => by cases e
  | l + 1 => ok_any_step T (l + 1) (ok_any T l) fun m e => by
    obtain rfl : l = m := Nat.succ.inj e
    rfl
end
end Ask

set_option Elab.async false
set_option linter.all false
set_option maxRecDepth 100000
namespace Ask
open PySem L2
theorem op_mul_str {X : Cx} {x0 : Str} {n0 : Int} (ok : PySem.MulOk x0 n0) : OpR X (binaryOp .Mult) (fun x y H Q => x = .str x0 ∧ y = .int n0 ∧ Q (.str (Txt.mul x0 n0)) H) := by
  intro pins s σ H x y v u Q I rx ry h
  obtain ⟨rfl, rfl, q⟩ := h
  obtain ⟨t, rfl⟩ := rx
  obtain ⟨t', rfl⟩ := ry
  exact SB.mul ok fun tk k => ⟨.str _, H, I.tok _, ⟨_, rfl⟩, q⟩
theorem mulOk_5000 : PySem.MulOk (Str.ofString "a") 5000 := ⟨by decide, fun _ _ => by decide +kernel, fun _ _ => by decide +kernel⟩
/-- a text of few plain signs -/
structure Plain (n : Nat) (x : Str) : Prop where
  len : x.length ≤ n
  low : ∀ c ∈ x.cps.toList, c < 128
theorem Plain.sh {n : Nat} {x : Str} (h : Plain n x) : Sh 0 (10 * n + 2) (.str x) := by
  refine sh_str ?_
  have z := PySem.StrLaws.reprText_len x (fun c hc => Nat.lt_trans (h.low c hc) (by decide))
  have l := h.len
  show (reprText x).length ≤ _
  omega
theorem rep_fold (c : Array Nat) : ∀ (k : Nat) (acc : Array Nat), ((List.replicate k c).foldl (· ++ ·) acc).size = acc.size + k * c.size ∧ ∀ z ∈ ((List.replicate k c).foldl (· ++ ·) acc).toList, z ∈ acc.toList ∨ z ∈ c.toList
  | 0, acc => ⟨by simp, fun z hz => .inl hz⟩
  | k + 1, acc => by
    obtain ⟨h1, h2⟩ := rep_fold c k (acc ++ c)
    rw [List.replicate_succ, List.foldl_cons]
    refine ⟨?_, fun z hz => ?_⟩
    · rw [h1, Array.size_append, Nat.succ_mul]
      omega
    · rcases h2 z hz with h | h
      · rw [Array.toList_append] at h
        exact List.mem_append.mp h
      · exact .inr h
theorem plain_5000 : Plain 5000 (Txt.mul (Str.ofString "a") 5000) := by
  have e : Txt.mul (Str.ofString "a") 5000 = ⟨(List.replicate 5000 (Str.ofString "a").cps).foldl (· ++ ·) #[]⟩ := by
    unfold Txt.mul
    rw [if_neg (by decide), if_neg (by decide +kernel)]
    rfl
  obtain ⟨h1, h2⟩ := rep_fold (Str.ofString "a").cps 5000 #[]
  rw [e]
  refine ⟨?_, fun c hc => ?_⟩
  · show Array.size _ ≤ 5000
    rw [h1]
    have z : (Str.ofString "a").cps.size = 1 := by decide +kernel
    rw [z]
    decide
  · rcases h2 c hc with h | h
    · simp at h
    · have z : ∀ c ∈ (Str.ofString "a").cps.toList, c < 128 := by decide +kernel
      exact z c h
theorem Plain.add {n m : Nat} {x y : Str} (a : Plain n x) (b : Plain m y) : Plain (n + m) (x ++ y) := by
  refine ⟨?_, fun c hc => ?_⟩
  · rw [strLen_append]
    have := a.len
    have := b.len
    omega
  · rw [PySem.Str.cps_append, Array.toList_append, List.mem_append] at hc
    exact hc.elim (a.low c) (b.low c)
theorem Plain.cut {n : Nat} {x : Str} (a : Plain n x) (lo hi : Option Int) : Plain n (cutS x lo hi) := by
  refine ⟨Nat.le_trans (cutS_length x lo hi) a.len, fun c hc => a.low c ?_⟩
  unfold cutS at hc
  simp only [List.toList_toArray] at hc
  exact List.mem_of_mem_drop (List.mem_of_mem_take hc)
theorem plain_one {c : Nat} (h : c < 128) : Plain 1 ⟨#[c]⟩ := ⟨Nat.le_refl _, fun z hz => by
  have y : z ∈ [c] := hz
  rw [List.mem_singleton.mp y]
  exact h⟩
theorem glue_fold : ∀ (ps : List Str) (acc : Array Nat), (∀ x ∈ ps, Plain 1 x) → (∀ c ∈ acc.toList, c < 128) →
    (ps.foldl (fun acc p => acc ++ (Str.ofString "").cps ++ p.cps) acc).size ≤ acc.size + ps.length ∧ ∀ c ∈ (ps.foldl (fun acc p => acc ++ (Str.ofString "").cps ++ p.cps) acc).toList, c < 128
  | [], acc, _, h => ⟨by simp, h⟩
  | p :: ps, acc, hp, h => by
    have e : (Str.ofString "").cps = #[] := by decide +kernel
    have l := (hp p List.mem_cons_self).len
    have lw := (hp p List.mem_cons_self).low
    rw [List.foldl_cons]
    obtain ⟨h1, h2⟩ := glue_fold ps (acc ++ (Str.ofString "").cps ++ p.cps) (fun x hx => hp x (List.mem_cons_of_mem _ hx)) (fun c hc => by
      rw [e, Array.append_empty, Array.toList_append, List.mem_append] at hc
      exact hc.elim (h c) (lw c))
    refine ⟨Nat.le_trans h1 ?_, h2⟩
    rw [e, Array.append_empty, Array.size_append, List.length_cons]
    have z : p.cps.size ≤ 1 := l
    omega
theorem plain_join (l : List Str) (h : ∀ x ∈ l, Plain 1 x) : Plain l.length (Txt.join (Str.ofString "") l) := by
  cases l with
  | nil => exact ⟨by decide +kernel, by decide +kernel⟩
  | cons p ps =>
    have hp := h p List.mem_cons_self
    obtain ⟨h1, h2⟩ := glue_fold ps p.cps (fun x hx => h x (List.mem_cons_of_mem _ hx)) hp.low
    refine ⟨Nat.le_trans h1 ?_, h2⟩
    have z : p.cps.size ≤ 1 := hp.len
    rw [List.length_cons]
    omega
end Ask

set_option Elab.async false
set_option linter.all false
set_option maxRecDepth 100000
set_option maxHeartbeats 4000000
namespace Ask
open PySem L2
open PyProof.Rows
section
variable {P : Program} {w : World} {K : PySem.W.Frag} {mg : Str → Option Value} {base : Heap} {a : Ad}
def SG : Str := " !#$&()*+,-./0123456789:;<=>?@ABCDEFGHIJKLMNOPQRSTUVWXYZ[]^_`{|}~\n\t\"'\\"
def spLName : Sp := fun vs H Q _ => ∃ (p : Addr) (n : Nat), vs = [.ref p] ∧ Pen H p n ∧ n + 60 ≤ 1000000 ∧
  ∀ v d H', But p H H' → Pen H' p (n + 60) → Dq (fun b => H b = none) H' 2 v d → Sh 2 60000 d → (∀ y, v = .str y → y.length ≤ 60000) → Q v H'
theorem ok_lname (T : Txt K mg a) : FnOk P w K mg base CX0 6 a.f__law_name a.d__law_name ["pen"] spLName := by
  have G_law_draw : FnOk P w K mg base CX0 2 a.f__law_draw a.d__law_draw ["pen", "below"] spDrawL := ok_drawL T
  have G_law_any : FnOk P w K mg base CX0 5 a.f__law_any a.d__law_any ["pen", "levels"] (spAny 2) := ok_any T 2
  refine T.F__law_name.ok sc__law_name (fun vs H Q E h => ?_) (fun cdv A outer s H vs Q E hr h => ?_)
  · obtain ⟨p, n, rfl, _⟩ := h
    rfl
  · obtain ⟨p, n, rfl, hp, hn, k⟩ := h
    have nd := sc__law_name.nd
    refine ⟨_, (pss_cons (ps_set (i := 1) nd rfl (Or.inl rfl) pe_str)
  (Evl.pss_cut (ps_set (i := 2) nd rfl (Or.inl rfl) (pe_join pe_str (pe_lc (own := [("turn", 3)]) (g := gName 3) (tt := tYes) rfl nd (pi_range1 rfl T.b_range (pa_cons (pe_call G_law_draw (hr.mono (by first | decide | omega)) rfl T.g__law_draw T.F__law_draw.kp T.b__law_draw .nil pass0 (pa_cons (pv 0) (pa_cons pe_int pa_nil))) pa_nil)) (blkOk_by (N := ["pen", "signs", "word", "turn", "spot", "odd", "some"]) (sc := defScope s__law_name) (by decide +kernel)) (fun _ _ _ _ _ => (pg_name (i := 3) nd rfl (Or.inl rfl))) (fun _ _ _ _ _ => pts_nil) (fun _ _ _ _ _ => (pe_ix ix_str pe_str (pe_call G_law_draw (hr.mono (by first | decide | omega)) rfl T.g__law_draw T.F__law_draw.kp T.b__law_draw .nil pass0 (pa_cons (pv 0) (pa_cons pe_int pa_nil))) (fun _ _ => rfl))))))
  (pss_cons (ps_set (i := 4) nd rfl (Or.inl rfl) (pe_call G_law_draw (hr.mono (by first | decide | omega)) rfl T.g__law_draw T.F__law_draw.kp T.b__law_draw .nil pass0 (pa_cons (pv 0) (pa_cons (pe_op op_add (pe_callB call_len_str (by rfl) T.b_len PySem.boot_len (pa_cons (pv 2) pa_nil)) pe_int) pa_nil))))
  (pss_cons (ps_set (i := 5) nd rfl (Or.inl rfl) (pe_op op_add_str (pe_op op_add_str (pe_slice sl_str (pv 2) po_none (po_some (pv 4))) (pe_ix ix_str (pv 1) (pe_call G_law_draw (hr.mono (by first | decide | omega)) rfl T.g__law_draw T.F__law_draw.kp T.b__law_draw .nil pass0 (pa_cons (pv 0) (pa_cons (pe_callB call_len_str (by rfl) T.b_len PySem.boot_len (pa_cons (pv 1) pa_nil)) pa_nil))) (fun _ _ => rfl))) (pe_slice sl_str (pv 2) (po_some (pv 4)) po_none)))
  (Evl.pss_cut (ps_set (i := 6) nd rfl (Or.inl rfl) (pe_lst (pa_cons (pv 2) (pa_cons (pv 2) (pa_cons (pv 5) (pa_cons pe_str (pa_cons pe_str (pa_cons pe_str (pa_cons pe_str (pa_cons (pe_op (op_mul_str mulOk_5000) pe_str pe_int) (pa_cons (pe_call G_law_any (hr.mono (by first | decide | omega)) rfl T.g__law_any T.F__law_any.kp T.b__law_any .nil pass0 (pa_cons (pv 0) (pa_cons pe_int pa_nil))) (pa_cons (pe_tup (pa_cons (pe_lst (pa_cons pe_str pa_nil)) pa_nil)) pa_nil))))))))))))
  (pss_one (ps_ret (pe_ix ix_list (pv 6) (pe_call G_law_draw (hr.mono (by first | decide | omega)) rfl T.g__law_draw T.F__law_draw.kp T.b__law_draw .nil pass0 (pa_cons (pv 0) (pa_cons pe_int pa_nil))) (fun _ _ => rfl))))))))), ?_⟩
    refine ⟨fun σ' H' => ∃ wd : Str, σ' = [some (.ref p), some (.str SG), some (.str wd), none, none, none, none] ∧ Plain 9 wd ∧ But p H H' ∧ Pen H' p (n + 10) ∧ SameL p H H', ?_, ?_⟩
    · refine ⟨⟨_, rfl⟩, _, rfl, p, n, 10, rfl, hp, by omega, by decide, by decide, fun c H1 c0 c1 b1 hp1 s1 => ?_⟩
      refine ⟨c, rfl, by omega, by omega, fun D hD => ?_⟩
      have pD : p ≠ D := hp1.ne0 hD
      have hD0 : H D = none := b1.free hp1 hD
      refine lc_range (lo := 0) (n := c.toNat) (fun i H' => ∃ ys : List Str, H' D = some (.lst (ys.map V.str)) ∧ (∀ x ∈ ys, Plain 1 x) ∧ ys.length = i ∧ But p H H' ∧ Pen H' p (n + 1 + i) ∧ SameL p H H' ∧ NotL H' p D) ?_ ?_ ?_
      · exact ⟨[], upd_same, fun _ h => absurd h (by simp), rfl, b1.trans (But.new hD), (hp1.new hD).mono (by omega), s1.trans (SameL.new pD), (NotL.new hp1 hD).put pD⟩
      · rintro i H2 hi ⟨ys, h2, pl, ly, b2, hp2, s2, n2⟩
        refine ⟨rfl, ?_⟩
        refine ⟨_, rfl, p, _, 6, rfl, hp2, by omega, by decide, by decide, fun z H3 z0 z1 b3 hp3 s3 => ?_⟩
        obtain ⟨ch, hch, lch⟩ : ∃ ch, atI (Str.ofString "abcxyz").cps.toList z = some ch ∧ ch < 128 := by
          obtain ⟨j, rfl⟩ := Int.eq_ofNat_of_zero_le z0
          have hj : j < 6 := by omega
          have all : ∀ k : Fin 6, ∃ ch, (Str.ofString "abcxyz").cps.toList[k.val]? = some ch ∧ ch < 128 := by
            intro k
            have hk : k.val < (Str.ofString "abcxyz").cps.toList.length := Nat.lt_of_lt_of_le k.isLt (by decide +kernel)
            refine ⟨_, List.getElem?_eq_getElem hk, ?_⟩
            have low : ∀ c ∈ (Str.ofString "abcxyz").cps.toList, c < 128 := by decide +kernel
            exact low _ (List.getElem_mem hk)
          obtain ⟨ch, h1, h2⟩ := all ⟨j, hj⟩
          exact ⟨ch, atI_nat h1, h2⟩
        refine ⟨_, z, ch, rfl, rfl, by decide +kernel, hch, ?_⟩
        refine ⟨ys.map V.str, b3 _ _ pD.symm h2, ?_, ys ++ [⟨#[ch]⟩], ?_, ?_, ?_, But.of (b2.trans b3) hD0, (hp3.put pD (n2.same hp2 s3)).mono (by omega), (s2.trans s3).trans (SameL.new pD), (n2.same hp2 s3).put pD⟩
        · rw [List.length_map, ly]
          exact Nat.lt_of_lt_of_le (show i < 100 by omega) (by decide)
        · rw [upd_same, List.map_append]
          rfl
        · intro x hx
          rcases List.mem_append.mp hx with q | q
          · exact pl x q
          · rw [List.mem_singleton.mp q]
            exact plain_one lch
        · rw [List.length_append, ly]
          rfl
      · rintro H2 ⟨ys, h2, pl, ly, b2, hp2, s2, n2⟩
        have pj := plain_join ys pl
        have l9 : ys.length ≤ 9 := by omega
        have sum1 : ∀ l : List Str, (∀ x ∈ l, Plain 1 x) → (l.map (·.length)).sum ≤ l.length := by
          intro l
          induction l with
          | nil => exact fun _ => Nat.le_refl _
          | cons x xs ih =>
            intro h
            have a := (h x List.mem_cons_self).len
            have b := ih fun y hy => h y (List.mem_cons_of_mem _ hy)
            rw [List.map_cons, List.sum_cons, List.length_cons]
            omega
        have bound := sum1 ys pl
        refine ⟨_, D, ys, rfl, rfl, .inl (SqL.of h2), ?_, ?_⟩
        · have z : (Str.ofString "").length = 0 := by decide +kernel
          rw [z]
          omega
        · exact ⟨_, rfl, ⟨Nat.le_trans pj.len l9, pj.low⟩, b2, hp2.mono (by omega), s2⟩
    · rintro σ' H1 ⟨wd, rfl, pw, b1, hp1, s1⟩
      have lw := pw.len
      refine ⟨_, rfl, _, rfl, wd, rfl, Nat.le_trans lw (by decide), _, _, rfl, rfl, p, _, _, rfl, hp1, by omega, by omega, ?_, fun spot H2 c0 c1 b2 hp2 s2 => ?_⟩
      · exact Int.lt_of_le_of_lt (show _ ≤ (10 : Int) by omega) (by decide)
      -- odd
      have lodd : ∀ c ∈ SG.cps.toList, c < 128 := by decide +kernel
      have lsg : SG.length ≤ 100 ∧ 0 < SG.length := by decide +kernel
      refine ⟨_, rfl, _, rfl, _, rfl, wd, rfl, Nat.le_trans lw (by decide), ?_⟩
      refine ⟨_, rfl, _, rfl, _, rfl, SG, rfl, Nat.le_trans lsg.1 (by decide), p, _, _, rfl, hp2, by omega, by omega, ?_, fun z H3 z0 z1 b3 hp3 s3 => ?_⟩
      · exact Int.lt_of_le_of_lt (show _ ≤ (100 : Int) by omega) (by decide)
      obtain ⟨ch, hch, lch⟩ : ∃ ch, atI SG.cps.toList z = some ch ∧ ch < 128 := by
        obtain ⟨j, rfl⟩ := Int.eq_ofNat_of_zero_le z0
        have e : SG.cps.toList.length = SG.length := by simp [Str.length]
        have hj : j < SG.cps.toList.length := by omega
        exact ⟨_, atI_nat (List.getElem?_eq_getElem hj), lodd _ (List.getElem_mem hj)⟩
      have pl1 := pw.cut none (some spot)
      have pl2 := pw.cut (some spot) none
      have pl3 := pl1.add (plain_one lch)
      have pod := pl3.add pl2
      refine ⟨SG, z, ch, rfl, rfl, Nat.le_trans lsg.1 (by decide), hch, _, _, rfl, rfl, ?_, ?_⟩
      · have := pl1.len
        have := (plain_one lch).len
        exact Nat.le_trans (show _ ≤ 10 by omega) (by decide)
      refine ⟨_, rfl, _, rfl, _, rfl, wd, rfl, Nat.le_trans lw (by decide), _, _, rfl, rfl, ?_, ?_⟩
      · have := pl3.len
        have := pl2.len
        exact Nat.le_trans (show _ ≤ 19 by omega) (by decide)
      generalize cutS wd none (some spot) ++ (⟨#[ch]⟩ : Str) ++ cutS wd (some spot) none = od at pod ⊢
      -- some
      refine ⟨fun σ' H' => ∃ S xs, σ' = [some (.ref p), some (.str SG), some (.str wd), none, some (.int spot), some (.str od), some (.ref S)] ∧ S ≠ p ∧ H' S = some (.lst xs) ∧ xs.length = 10 ∧
        (∀ v ∈ xs, ∃ d, Dq (fun b => H b = none) H' 2 v d ∧ Sh 2 60000 d ∧ ∀ y, v = .str y → y.length ≤ 60000) ∧ But p H H' ∧ Pen H' p (n + 29), ?_, ?_⟩
      · refine ⟨_, rfl, _, rfl, _, rfl, rfl, rfl, _, rfl, p, _, rfl, hp3, ?_, fun v d H4 b4 hp4 s4 dq sh sl => ?_⟩
        · have z : cA 2 = 17 := rfl
          omega
        have B3 := (b1.trans b2).trans b3
        have B4 := B3.trans b4
        refine ⟨by show 1 ≤ sizeLine; decide, fun l hl => ⟨by show 1 ≤ sizeLine; decide, fun t ht => ⟨by show 10 ≤ sizeLine; decide, fun S hS => ?_⟩⟩⟩
        have S5 := Same.new hl (o := .lst [.str "a"])
        have S6 := Same.grow S5 ht (o := .tup [.ref l])
        have hl0 : H l = none := B4.free hp4 hl
        have ht0 : H t = none := B4.free hp4 (S5.free ht)
        generalize hxs : [V.str wd, .str wd, .str od, .str "a", .str "abcdefgh", .str "abcdefghi", .str "", .str (Txt.mul (Str.ofString "a") 5000), v, .ref t] = xs
        have S7 := Same.grow S6 hS (o := .lst xs)
        have el := Same.new hS (o := .lst xs) _ _ (Same.new ht (o := .tup [.ref l]) _ _ (upd_same (H := H4) (a := l) (o := .lst [.str "a"])))
        have et := Same.new hS (o := .lst xs) _ _ (upd_same (H := upd H4 l (.lst [.str "a"])) (a := t) (o := .tup [.ref l]))
        refine ⟨S, xs, rfl, Ne.symm ((hp4.same S6).ne0 hS), upd_same, by rw [← hxs]; rfl, ?_, B4.trans (Same.but S7), (hp4.same S7).mono ?_⟩
        · intro y hy
          have txt : ∀ (x : Str) (m : Nat), Plain m x → m ≤ 5000 → ∃ d, Dq (fun b => H b = none) (upd (upd (upd H4 l (.lst [.str "a"])) t (.tup [.ref l])) S (.lst xs)) 2 (.str x) d ∧ Sh 2 60000 d ∧ ∀ y, V.str x = .str y → y.length ≤ 60000 := by
            intro x m hx hm
            refine ⟨.str x, Dq.flat (v := .str x) (d := .str x) rfl 2, hx.sh.up (Nat.zero_le _) (by omega), fun y e => ?_⟩
            obtain rfl := V.str.inj e
            exact Nat.le_trans hx.len (by omega)
          rw [← hxs] at hy
          simp only [List.mem_cons, List.not_mem_nil, or_false] at hy
          rcases hy with rfl | rfl | rfl | rfl | rfl | rfl | rfl | rfl | rfl | rfl
          · exact txt _ 9 pw (by decide)
          · exact txt _ 9 pw (by decide)
          · exact txt _ _ pod (by decide)
          · exact txt (Str.ofString "a") 1 ⟨by decide +kernel, by decide +kernel⟩ (by decide)
          · exact txt (Str.ofString "abcdefgh") 8 ⟨by decide +kernel, by decide +kernel⟩ (by decide)
          · exact txt (Str.ofString "abcdefghi") 9 ⟨by decide +kernel, by decide +kernel⟩ (by decide)
          · exact txt (Str.ofString "") 0 ⟨by decide +kernel, by decide +kernel⟩ (by decide)
          · exact txt _ 5000 plain_5000 (Nat.le_refl _)
          · refine ⟨d, dq.imp (fun b hb => B3.free hp3 hb) (fun b o _ e => S7 b o e) 2, sh.up (Nat.le_refl _) (by decide), fun y e => Nat.le_trans (sl y e) (by decide)⟩
          · refine ⟨.tuple [.list [.str "a"]], .inr (.inr (.inl ⟨t, [.ref l], [.list [.str "a"]], rfl, rfl, ht0, et, .cons (.inr (.inl ⟨l, [.str "a"], [.str "a"], rfl, rfl, hl0, el, .cons rfl .nil⟩)) .nil⟩)), ⟨by decide +kernel, by decide +kernel, Nat.le_trans (by decide +kernel : _ ≤ 60) (by decide)⟩, fun y e => by cases e⟩
        · have z : cA 2 = 17 := rfl
          omega
      · rintro σ' H4 ⟨S, xs, rfl, nS, hS, lx, hth, B4, hp4⟩
        refine ⟨_, rfl, _, rfl, p, _, 10, rfl, hp4, by omega, by decide, by decide, fun z' H5 y0 y1 b5 hp5 s5 => ?_⟩
        obtain ⟨v, hv, hm⟩ := at_drawn y0 y1 (by rw [lx]; rfl)
        obtain ⟨d, dq, sh, sl⟩ := hth v hm
        refine ⟨S, xs, _, v, rfl, rfl, SqL.of (b5 _ _ nS hS), hv, ?_⟩
        exact k v d H5 (B4.trans b5) (hp5.mono (by omega)) (dq.imp (fun _ z => z) (fun b o hb e => b5 b o (fun e2 => by rw [e2] at hb; exact hp.ne0 hb rfl) e) 2) sh sl
end
end Ask

set_option Elab.async false
set_option linter.all false
set_option maxRecDepth 100000
set_option maxHeartbeats 4000000
namespace Ask
open PySem L2
open PyProof.Rows
section
variable {P : Program} {w : World} {K : PySem.W.Frag} {mg : Str → Option Value} {base : Heap} {a : Ad}
/-- __init__, arguments that form an item -/
def spInit (C : Addr) : Sp := fun vs H Q _ => ∃ (x dx : Addr) (nm : Str) (lo hi pr : Int), vs = [.ref x, .str nm, .int lo, .int hi, .int pr] ∧
  H x = some (.ins C dx []) ∧ nameB nm = true ∧ lo ≤ hi ∧ 1 ≤ pr ∧ pr ≤ 999 ∧
  ∀ H', But x H H' → H' x = some (.ins C dx (itF nm lo hi (prI lo hi pr))) → Q .non H'
theorem name_len {nm : Str} (h : nameB nm = true) : nm.length ≤ 8 := by
  unfold nameB at h
  rw [Bool.and_eq_true, Bool.and_eq_true] at h
  exact of_decide_eq_true h.1.2
theorem ok_init (T : Txt K mg a) : FnOk P w K mg base CX0 3 a.f_Item___init__ a.d_Item___init__ ["self", "name", "least", "greatest", "price"] (spInit a.c_Item) := by
  have G_is_name : FnOk P w K mg base CX0 1 a.f_Item_is_name a.d_Item_is_name ["thing"] (spIsName K) := ok_is_name T
  have Gis_whole : FnOk P w K mg base CX0 1 a.f_is_whole a.d_is_whole ["thing"] (spWhole K) := ok_whole T
  refine T.F_Item___init__.ok sc_Item___init__ (fun vs H Q E h => ?_) (fun cdv A outer s H vs Q E hr h => ?_)
  · obtain ⟨x, dx, nm, lo, hi, pr, rfl, _⟩ := h
    rfl
  · obtain ⟨x, dx, nm, lo, hi, pr, rfl, hx, hn, hlh, p1, p2, k⟩ := h
    have nd := sc_Item___init__.nd
    have hl := name_len hn
    have oS : ∀ H, Obj' K H (.str nm) "str" := fun H => ⟨.base (.str nm), by decide⟩
    have oI : ∀ H (i : Int), Obj' K H (.int i) "int" := fun H i => ⟨.base (.int i), by decide⟩
    refine ⟨_, (pss_cons (ps_if (pt_not (pt_val (pe_smeth (pe_glob (v := .ref a.c_Item) rfl T.g_Item rfl) T.rd_Item T.m_Item_is_name G_is_name (hr.mono (by decide)) T.b_Item_is_name pass0 (pa_cons (pv 1) pa_nil))))
    (pss_one ps_never)
    pss_nil)
  (pss_cons (ps_if (PW.pt (pw_or (pt_not (pt_val (pe_call Gis_whole (hr.mono (by first | decide | omega)) rfl T.g_is_whole T.F_is_whole.kp T.b_is_whole .nil pass0 (pa_cons (pv 2) pa_nil)))) (pw_or1 (pt_not (pt_val (pe_call Gis_whole (hr.mono (by first | decide | omega)) rfl T.g_is_whole T.F_is_whole.kp T.b_is_whole .nil pass0 (pa_cons (pv 3) pa_nil)))))))
    (pss_one ps_never)
    pss_nil)
  (pss_cons (ps_if (pt_cmpR op_gt (pv 2) (pv 3) (nomark _))
    (pss_one ps_never)
    pss_nil)
  (pss_cons (ps_if (PW.pt (pw_or (pt_not (pt_val (pe_call Gis_whole (hr.mono (by first | decide | omega)) rfl T.g_is_whole T.F_is_whole.kp T.b_is_whole .nil pass0 (pa_cons (pv 4) pa_nil)))) (pw_or1 (pt_not (pt_chain op_le op_le pe_int (pv 4) (ClX.pe_cval (pe_glob (v := .ref a.c_Item) rfl T.g_Item rfl)))))))
    (pss_one ps_never)
    pss_nil)
  (pss_cons (ps_fld (pv 0) (pv 1) rfl)
  (pss_cons (ps_fld (pv 0) (pv 2) rfl)
  (pss_cons (ps_fld (pv 0) (pv 3) rfl)
  (pss_one (ps_fld (pv 0) (pe_ifExp (pt_cmpR op_eq (pv 2) (pv 3) (nomark _)) pe_int (pv 4)) rfl))))))))), ?_⟩
    refine ⟨rfl, _, rfl, .str nm, "str", rfl, oS H, .inr ⟨nm, rfl, Nat.le_trans hl (by decide), fun H1 s1 => ?_⟩⟩
    rw [hn]
    have hx1 := s1 _ _ hx
    refine ⟨_, rfl, iteF ?_⟩
    -- the ends of the range
    refine ⟨_, rfl, _, "int", rfl, oI H1 lo, _, rfl, iteF ?_⟩
    refine ⟨_, rfl, _, "int", rfl, oI H1 hi, _, rfl, iteF ?_⟩
    refine ⟨_, rfl, _, rfl, _, _, rfl, rfl, _, rfl, ?_⟩
    rw [decide_eq_false (show ¬ hi < lo by omega)]
    refine iteF ?_
    -- the price
    refine ⟨_, rfl, _, "int", rfl, oI H1 pr, _, rfl, iteF ?_⟩
    refine ⟨_, rfl, _, _, rfl, rfl, _, rfl, ?_⟩
    rw [decide_eq_true p1]
    obtain ⟨u, cv⟩ := T.cv_Item_MOST
    refine iteT ⟨_, _, _, u, rfl, T.rd_Item, cv, _, _, rfl, rfl, _, rfl, ?_⟩
    rw [decide_eq_true p2]
    refine iteF ?_
    -- the fields
    refine ⟨_, rfl, _, rfl, x, _, dx, _, rfl, hx1, T.cl_Item, T.n_Item__name, (by show 0 < 1000; decide), ?_⟩
    refine ⟨_, rfl, _, rfl, x, _, dx, _, rfl, upd_same, T.cl_Item, T.n_Item__least, (by show 1 < 1000; decide), ?_⟩
    refine ⟨_, rfl, _, rfl, x, _, dx, _, rfl, upd_same, T.cl_Item, T.n_Item__greatest, (by show 2 < 1000; decide), ?_⟩
    refine ⟨_, rfl, _, rfl, rfl, _, rfl, ?_⟩
    have fin : ∀ z, z = prI lo hi pr → Q .non (upd (upd (upd (upd H1 x (.ins a.c_Item dx (putF "_name" (.str nm) []))) x (.ins a.c_Item dx (putF "_least" (.int lo) (putF "_name" (.str nm) [])))) x
        (.ins a.c_Item dx (putF "_greatest" (.int hi) (putF "_least" (.int lo) (putF "_name" (.str nm) []))))) x (.ins a.c_Item dx (putF "_price" (.int z) (putF "_greatest" (.int hi) (putF "_least" (.int lo) (putF "_name" (.str nm) [])))))) := by
      rintro z rfl
      refine k _ ?_ ?_
      · intro b o hb e
        rw [upd_ne hb, upd_ne hb, upd_ne hb, upd_ne hb]
        exact s1 b o e
      · rw [upd_same, itF_put]
    by_cases e : lo = hi
    · rw [decide_eq_true (congrArg V.int e)]
      refine iteT ?_
      refine ⟨_, rfl, x, _, dx, _, rfl, upd_same, T.cl_Item, T.n_Item__price, (by show 3 < 1000; decide), ?_⟩
      exact fin 0 (by unfold prI; rw [if_pos e])
    · rw [decide_eq_false (fun q => e (V.int.inj q))]
      refine iteF ?_
      refine ⟨_, rfl, _, rfl, x, _, dx, _, rfl, upd_same, T.cl_Item, T.n_Item__price, (by show 3 < 1000; decide), ?_⟩
      exact fin pr (by unfold prI; rw [if_neg e])
end
end Ask

set_option Elab.async false
set_option linter.all false
set_option maxRecDepth 100000
set_option maxHeartbeats 8000000
namespace Ask
open PySem L2
open PyProof.Rows
abbrev PK3 : Program := PySem.Challenge.pw_askranges_k03_invalid_items
section
variable {K : PySem.W.Frag} {mg : Str → Option Value} {a : Ad}
theorem init_kw (T : Txt K mg a) : ∃ mv : List Value, KBn K a.d_Item___init__ ["self", "name", "least", "greatest", "price"] 4 ["price"] (fun us ws => us ++ ws) (fun vs zs => vs ++ zs) := by
  refine T.F_Item___init__.kbinds0 (ps := ["self", "name", "least", "greatest", "price"]) 4 ["price"] [] (fun us _ ws => us ++ ws) (by simp) (by simp) (fun h1 _ h3 => h1.append h3) ?_
  intro D doc pm an cdv ct us mv ws l1 l2 l3
  match us, mv, ws, l1, l2, l3 with
  | [_, _, _, _], [], [_], _, _, _ => rfl
end
section
/-- a lambda of the law, handed to _law_word -/
theorem pe_word {X : Cx} {a : Ad} {c t : Addr} {k : Nat} {params : Arguments} {body : Expr} {scope : Scope} {tb : XK → TE} {p lpos pos : Pos} (T : Txt X.K X.mg a) (hg : Gl X "_law_word") (TB : LamX.TabB X.base X.mg c t) (hcode : X.env.code = .ref c)
    (hr : Room (k + 2) X.A) (L : LamX.LamS X.env.scope scope) (hdef : defaultsOf params X.env = ([], []))
    (hbind : ∀ (q : Str) (cl : List (Str × Addr)) (pm cv ctv : Value), bindArgs (PySem.W.kla_fn "<lambda>" q params body scope cl pm cv ctv) ⟨[], []⟩ = pure [])
    (hbody : ∀ (A : Around) (outer : List Env) (s : Shared) (H : Hp) (E : XK) (f c' : Addr), Room k (A.deeper (LamX.lamEnv X scope s.heap.objs.size f c')) → PE (LamX.lamCx X A outer s H E scope f c') body (tb E)) :
    PE X (.Call (.Name "_law_word" p) [.Lambda params body scope lpos] [] pos) (LamX.tLam [(t, X.env.qual ++ "<lambda>")] (TTword a.c_InvalidItem) tb) := by
  obtain ⟨oc, od, kV, doc, pm, an, cdv, ct, osl, e, lk, hcd⟩ := T.F__law_word.ex
  have hb : Binds X.K (PySem.W.fnOf "_law_word" "_law_word" (defArgs s__law_word) (defBody s__law_word) (defScope s__law_word) .none kV doc pm an cdv ct) ["act"] [] := e ▸ T.b__law_word
  exact LamX.pe_lamcall hg T.g__law_word T.F__law_word.kp (by rw [← e]; exact lk) hcd hb sc__law_word rfl (Or.inl rfl) (word_gives T cdv _) TB hcode (List.mem_singleton.mpr rfl) (fun q hq _ => by rw [List.mem_singleton.mp hq]) hr L hdef hbind hbody
end
section
variable {w : World} {K : PySem.W.Frag} {mg : Str → Option Value} {base : Heap} {a : Ad}
theorem law_body (T : Txt K mg a) {c t : Addr} (TB : LamX.TabB base mg c t) {A : Around} {outer : List Env} {s : Shared} {H : Hp} {E : XK} {Q : VK}
    (hr : Room 9 (A.deeper (envOfC "law" (defScope s_law) s.heap.objs.size a.f_law (.ref c)))) (hgd : (A.deeper (envOfC "law" (defScope s_law) s.heap.objs.size a.f_law (.ref c))).guards = some []) :
    ∃ tt, PSs (cxOf CX0 PK3 w K mg base ["script", "pen", "turn", "ends", "low", "top", "cost", "nym", "good", "seen", "due", "fine"] "law" (defScope s_law) a.f_law (.ref c) A outer s H E).nox (defBody s_law) tt := by
  have G_law_pen : FnOk PK3 w K mg base CX0 1 a.f__law_pen a.d__law_pen ["script"] (spPen K) := ok_pen T
  have G_law_draw : FnOk PK3 w K mg base CX0 2 a.f__law_draw a.d__law_draw ["pen", "below"] spDraw := ok_draw T
  have G_law_name : FnOk PK3 w K mg base CX0 6 a.f__law_name a.d__law_name ["pen"] spLName := ok_lname T
  have G_law_is_name : FnOk PK3 w K mg base CX0 1 a.f__law_is_name a.d__law_is_name ["thing"] (spIsName K) := ok_lisname T
  have G_law_whole : FnOk PK3 w K mg base CX0 1 a.f__law_whole a.d__law_whole ["thing"] (spWhole K) := ok_lwhole T
  have G_is_name : FnOk PK3 w K mg base CX0 1 a.f_Item_is_name a.d_Item_is_name ["thing"] (spIsName K) := ok_is_name T
  have G_initX : FnOk PK3 w K mg base (L2.CX PK3 w) 3 a.f_Item___init__ a.d_Item___init__ ["self", "name", "least", "greatest", "price"] (spInitX a.c_Item a.c_InvalidItem) := ok_initX T
  have G_init : FnOk PK3 w K mg base CX0 3 a.f_Item___init__ a.d_Item___init__ ["self", "name", "least", "greatest", "price"] (spInit a.c_Item) := ok_init T
  have G_exactX : FnOk PK3 w K mg base (L2.CX PK3 w) 5 a.f_Item_exact a.d_Item_exact ["cls", "name", "value"] (spExactX a.c_Item a.c_InvalidItem) := ok_exactX T
  obtain ⟨mv, hkb⟩ := init_kw T
  obtain ⟨ds, hdv, hbn⟩ := init_d T
  have nd := sc_law.nd
  have hcode : (cxOf CX0 PK3 w K mg base ["script", "pen", "turn", "ends", "low", "top", "cost", "nym", "good", "seen", "due", "fine"] "law" (defScope s_law) a.f_law (.ref c) A outer s H E).nox.env.code = .ref c := rfl
  have hr7 : Room (7 + 2) (cxOf CX0 PK3 w K mg base ["script", "pen", "turn", "ends", "low", "top", "cost", "nym", "good", "seen", "due", "fine"] "law" (defScope s_law) a.f_law (.ref c) A outer s H E).nox.A := hr
  exact ⟨_, (pss_cons (ps_set (i := 1) nd rfl (Or.inl rfl) (pe_call G_law_pen (hr.mono (by first | decide | omega)) rfl T.g__law_pen T.F__law_pen.kp T.b__law_pen .nil pass0 (pa_cons (pv 0) pa_nil)))
  (pss_cons (ps_for PassesOwn.never rfl (pi_range1 rfl T.b_range (pa_cons pe_int pa_nil)) (pg_name (i := 2) nd rfl (Or.inl rfl))
    (pss_cons (ps_set (i := 3) nd rfl (Or.inl rfl) (pe_lst (pa_cons pe_int (pa_cons pe_int (pa_cons pe_int (pa_cons pe_int (pa_cons (pe_un un_neg pe_int) (pa_cons pe_int (pa_cons pe_bl (pa_cons pe_bl (pa_cons pe_non (pa_cons pe_str (pa_cons pe_int (pa_cons pe_int (pa_cons (pe_lst (pa_cons pe_int pa_nil)) (pa_cons (pe_tup (pa_cons pe_int pa_nil)) (pa_cons (pe_op op_pow pe_int pe_int) pa_nil)))))))))))))))))
  (pss_cons (ps_asg (pe_tup (pa_cons (pe_ix ix_list (pv 3) (pe_call G_law_draw (hr.mono (by first | decide | omega)) rfl T.g__law_draw T.F__law_draw.kp T.b__law_draw .nil pass0 (pa_cons (pv 1) (pa_cons pe_int pa_nil))) (fun _ _ => rfl)) (pa_cons (pe_ix ix_list (pv 3) (pe_call G_law_draw (hr.mono (by first | decide | omega)) rfl T.g__law_draw T.F__law_draw.kp T.b__law_draw .nil pass0 (pa_cons (pv 1) (pa_cons pe_int pa_nil))) (fun _ _ => rfl)) pa_nil))) (pg_tup (by rfl) (pgs_cons (pg_name (i := 4) nd rfl (Or.inr rfl)) (pgs_cons (pg_name (i := 5) nd rfl (Or.inr rfl)) pgs_nil))))
  (pss_cons (ps_set (i := 6) nd rfl (Or.inr rfl) (pe_ix ix_list (pe_lst (pa_cons pe_int (pa_cons pe_int (pa_cons pe_int (pa_cons pe_int (pa_cons (pe_un un_neg pe_int) (pa_cons pe_bl (pa_cons pe_non (pa_cons pe_str (pa_cons pe_int (pa_cons pe_int (pa_cons pe_int (pa_cons (pe_op op_pow pe_int pe_int) pa_nil))))))))))))) (pe_call G_law_draw (hr.mono (by first | decide | omega)) rfl T.g__law_draw T.F__law_draw.kp T.b__law_draw .nil pass0 (pa_cons (pv 1) (pa_cons pe_int pa_nil))) (fun _ _ => rfl)))
  (pss_cons (ps_set (i := 7) nd rfl (Or.inr rfl) (pe_call G_law_name (hr.mono (by first | decide | omega)) rfl T.g__law_name T.F__law_name.kp T.b__law_name .nil pass0 (pa_cons (pv 1) pa_nil)))
  (pss_cons (ps_set (i := 8) nd rfl (Or.inl rfl) (pe_and (pe_call G_law_is_name (hr.mono (by first | decide | omega)) rfl T.g__law_is_name T.F__law_is_name.kp T.b__law_is_name .nil pass0 (pa_cons (pv 7) pa_nil)) (pe_and (pe_call G_law_whole (hr.mono (by first | decide | omega)) rfl T.g__law_whole T.F__law_whole.kp T.b__law_whole .nil pass0 (pa_cons (pv 4) pa_nil)) (pe_and (pe_call G_law_whole (hr.mono (by first | decide | omega)) rfl T.g__law_whole T.F__law_whole.kp T.b__law_whole .nil pass0 (pa_cons (pv 5) pa_nil)) (pe_one (pe_cmpR op_le (pv 4) (pv 5) (nomark _)))))))
  (pss_cons (ps_set (i := 9) nd rfl (Or.inl rfl) (pe_callB (cr_reprD hgd hr.units) (by rfl) T.b_repr (by decide +kernel) (pa_cons (pe_tup (pa_cons (pv 7) (pa_cons (pv 4) (pa_cons (pv 5) (pa_cons (pv 6) pa_nil))))) pa_nil)))
  (pss_cons (ps_set (i := 10) nd rfl (Or.inl rfl) (pe_ifExp (PW.pt (pw_and (pt_val (pv 8)) (pw_and (pt_val (pe_call G_law_whole (hr.mono (by first | decide | omega)) rfl T.g__law_whole T.F__law_whole.kp T.b__law_whole .nil pass0 (pa_cons (pv 6) pa_nil))) (pw_and1 (pt_chain op_le op_le pe_int (pv 6) pe_int))))) pe_str pe_str))
  (pss_cons (ps_if (pt_cmpR op_ne (pe_word (tb := _) T rfl TB hcode hr7 (LamX.lamS_by (by rfl)) rfl (fun _ _ _ _ _ => rfl) (fun A2 o2 s2 H2 E2 f2 c2 hr2 => pe_makeK T.mk_Item G_initX (hr2.mono (by decide)) rfl T.g_Item hkb (passes_call (takes_of rfl rfl rfl rfl) (fun _ _ _ _ z => z)) (pa_cons (pv 7) (pa_cons (pv 4) (pa_cons (pv 5) pa_nil))) (pk_cons (pv 6) pk_nil))) (pv 10) (nomark _))
    (pss_one (ps_ret pe_bl))
    pss_nil)
  (pss_cons (ps_if (pt_cmpR op_ne (pe_word (tb := _) T rfl TB hcode hr7 (LamX.lamS_by (by rfl)) rfl (fun _ _ _ _ _ => rfl) (fun A2 o2 s2 H2 E2 f2 c2 hr2 => pe_make T.mk_Item G_initX (hr2.mono (by decide)) rfl T.g_Item hbn hdv (passes_call (takes_of rfl rfl rfl rfl) (fun _ _ _ _ z => z)) (pa_cons (pv 7) (pa_cons (pv 4) (pa_cons (pv 5) pa_nil))))) (pe_ifExp (pt_val (pv 8)) pe_str pe_str) (nomark _))
    (pss_one (ps_ret pe_bl))
    pss_nil)
  (pss_cons (ps_set (i := 11) nd rfl (Or.inl rfl) (pe_and (pe_call G_law_is_name (hr.mono (by first | decide | omega)) rfl T.g__law_is_name T.F__law_is_name.kp T.b__law_is_name .nil pass0 (pa_cons (pv 7) pa_nil)) (pe_one (pe_call G_law_whole (hr.mono (by first | decide | omega)) rfl T.g__law_whole T.F__law_whole.kp T.b__law_whole .nil pass0 (pa_cons (pv 4) pa_nil)))))
  (pss_cons (ps_if (pt_cmpR op_ne (pe_word (tb := _) T rfl TB hcode hr7 (LamX.lamS_by (by rfl)) rfl (fun _ _ _ _ _ => rfl) (fun A2 o2 s2 H2 E2 f2 c2 hr2 => ClX.pe_cmeth (pe_glob (v := .ref a.c_Item) rfl T.g_Item rfl) T.rd_Item T.m_Item_exact (G_exactX.raw T.b_Item_exact .nil) (hr2.mono (by decide)) (passes_call (takes_of rfl rfl rfl rfl) (fun _ _ _ _ z => z)) (pa_cons (pv 7) (pa_cons (pv 4) pa_nil)))) (pe_ifExp (pt_val (pv 11)) pe_str pe_str) (nomark _))
    (pss_one (ps_ret pe_bl))
    pss_nil)
  (pss_cons (ps_if (PW.pt (pw_or (pt_cmpR op_ne (pe_callB (cr_reprD hgd hr.units) (by rfl) T.b_repr (by decide +kernel) (pa_cons (pe_smeth (pe_glob (v := .ref a.c_Item) rfl T.g_Item rfl) T.rd_Item T.m_Item_is_name G_is_name (hr.mono (by decide)) T.b_Item_is_name pass0 (pa_cons (pv 7) pa_nil)) pa_nil)) (pe_callB (cr_reprD hgd hr.units) (by rfl) T.b_repr (by decide +kernel) (pa_cons (pe_call G_law_is_name (hr.mono (by first | decide | omega)) rfl T.g__law_is_name T.F__law_is_name.kp T.b__law_is_name .nil pass0 (pa_cons (pv 7) pa_nil)) pa_nil)) (nomark _)) (pw_or1 (pt_cmpR op_ne (pe_callB (cr_reprD hgd hr.units) (by rfl) T.b_repr (by decide +kernel) (pa_cons (pe_tup (pa_cons (pv 7) (pa_cons (pv 4) (pa_cons (pv 5) (pa_cons (pv 6) pa_nil))))) pa_nil)) (pv 9) (nomark _)))))
    (pss_one (ps_ret pe_bl))
    pss_nil)
  (pss_one (ps_if (pt_cmpR op_ne (pe_callB (cr_reprD hgd hr.units) (by rfl) T.b_repr (by decide +kernel) (pa_cons (pe_smethI (pe_make T.mk_Item G_init (hr.mono (by decide)) rfl T.g_Item hbn hdv pass0 (pa_cons pe_str (pa_cons pe_int (pa_cons pe_int pa_nil)))) T.i_Item_is_name G_is_name (hr.mono (by decide)) T.b_Item_is_name pass0 (pa_cons (pv 7) pa_nil)) pa_nil)) (pe_callB (cr_reprD hgd hr.units) (by rfl) T.b_repr (by decide +kernel) (pa_cons (pe_call G_law_is_name (hr.mono (by first | decide | omega)) rfl T.g__law_is_name T.F__law_is_name.kp T.b__law_is_name .nil pass0 (pa_cons (pv 7) pa_nil)) pa_nil)) (nomark _))
    (pss_one (ps_ret pe_bl))
    pss_nil)))))))))))))))
  (pss_one (ps_ret pe_bl))))⟩
end
end Ask

set_option Elab.async false
set_option linter.all false
set_option maxRecDepth 100000
set_option maxHeartbeats 2000000
/-! the end of a law whose own table of code objects is tracked: what is asked of the written part alone -/
namespace Ask
open PySem PySem.Spec L2
open PyProof.Rows
theorem walk_lawT2 {l : PySem.W.OpenLaw} {k : Nat} {q : Program} {loose : List Str}
    {XP : (Str → Option Value) → Heap → Prop} {YP : World → Heap → Prop} {d : DefRec}
    {K : Params → PySem.W.Frag} (hn : l.most = some 63) (hdf : d.params.defaults = []) (hr : Room k callerA)
    (hq : importsNone q = true) (hd : d ∈ recsOf q) (hK1 : ∀ w : World, (K w.params).lookup sysModules = none)
    (hY : ∀ (w : World) (h : Heap), YP w h → (K w.params).In h)
    (F : ∀ (w : World) (mg : Str → Option Value) (fa : Addr) (h : Heap), (K w.params).In h →
      h.Ns mainGlobals mg → mg d.name = some (.ref fa) →
      ∃ (fd : FuncData) (c t : Addr) (oF oC : Obj) (vs : Array Value), (K w.params).lookup fa = some oF ∧ oF.data = .func fd ∧ fd.code = .ref c ∧
        (K w.params).lookup c = some oC ∧ oC.data = .fields vs ∧ vs[11]? = some (.ref t) ∧ (K w.params).lookup t = none ∧
        (∀ (s : Shared) (u : Value), BindsTo s fd ⟨[u], []⟩ [("script", u)]) ∧
        ∀ base : Heap, (K w.params).In base → base.Ns mainGlobals mg → LamX.TabB base mg c t →
          GOk l.prog w (K w.params) mg base CX0 k fa fd ["script"] (spLawT (K w.params) t)) :
    PySem.W.WalkO q loose XP YP l.row.toRowW d [] (fun f vs => PySem.call f vs) := by
  refine Att.attach_call hn hdf ?_
  intro w s₀ s₁ mg mb fa o pm cd doc a vs ns G Y ho hdd hcd hmg hobj hints hlen hg
  have KX := hY w _ Y
  obtain ⟨fd, c, t, oF, oC, vsC, e1, e2, e3, e4, e5, e6, nt, hb, hF⟩ := F w mg fa _ KX G.T.g hmg
  obtain ⟨mm, hsm, _⟩ := (G.T.seer hq).mods
  obtain ⟨a', o', fd', c', P, m1, m2, m3, m4, hC, hT⟩ := G.T.tab d hd
  have ea : a' = fa := by
    have z := m1.symm.trans hmg
    cases z
    rfl
  subst ea
  have eo : o' = oF := Option.some.inj (m2.symm.trans (KX _ _ e1))
  subst eo
  have ef : fd' = fd := by
    rw [m3] at e2
    cases e2
    rfl
  subst ef
  have ec : c' = c := by
    rw [m4] at e3
    cases e3
    rfl
  subst ec
  obtain ⟨oc, vs2, f1, f2, f3, f4⟩ := id hT.1
  have eoc : oc = oC := Option.some.inj (f1.symm.trans (KX _ _ e4))
  subst eoc
  have ev : vs2 = vsC := by
    rw [f3] at e5
    cases e5
    rfl
  subst ev
  have et : P = t := by
    rw [f4] at e6
    cases e6
    rfl
  subst et
  exact law_goT KX (hK1 w) hsm G.T.g G.T.b G.T.builtins G.T.nolimit hg hT.2 nt (PySem.W.CodeHd.of hC hT) G.T.bmain hobj hints (Nat.le_trans hlen (by decide)) hr hF hb
    fun H hO hT hS => ⟨a, ns, rfl, hS, hlen, hO, hT, fun _ => rfl⟩
end Ask

set_option Elab.async false
set_option linter.all false
set_option maxRecDepth 100000
set_option maxHeartbeats 8000000
set_option pp.deepTerms false
set_option pp.deepTerms.threshold 14
namespace Ask
open PySem L2
open PyProof.Rows
abbrev Apart (b : Addr) : Prop := (b == sysModules) = false
theorem Dq.extN {fr : Addr → Prop} {H H' : Hp} (x : LamX.ExtN H H') : ∀ (n : Nat) {v : V} {d : PyData}, Dq fr H n v d → Dq fr H' n v d
  | 0, _, _, h => h
  | n + 1, _, _, h => by
    rcases h with h | ⟨a, xs, ds, e1, e2, f, e, p⟩ | ⟨a, xs, ds, e1, e2, f, e, p⟩ | ⟨a, kvs, ds, e1, e2, f, e, p⟩
    · exact .inl h
    · exact .inr (.inl ⟨a, xs, ds, e1, e2, f, x _ _ e (fun _ z => by cases z), paired_imp (fun _ _ => Dq.extN x n) p⟩)
    · exact .inr (.inr (.inl ⟨a, xs, ds, e1, e2, f, x _ _ e (fun _ z => by cases z), paired_imp (fun _ _ => Dq.extN x n) p⟩))
    · exact .inr (.inr (.inr ⟨a, kvs, ds, e1, e2, f, x _ _ e (fun _ z => by cases z), paired_imp (fun _ _ => Dq.extN x n) p⟩))
theorem Pen.extN {H H' : Hp} {p : Addr} {n : Nat} (h : Pen H p n) (x : LamX.ExtN H H') : Pen H' p n := by
  obtain ⟨l, i, v, ns, h1, h2, h3⟩ := h
  exact ⟨l, i, v, ns, x _ _ h1 (fun _ z => by cases z), x _ _ h2 (fun _ z => by cases z), h3⟩
theorem Sys.extN {H H' : Hp} (h : Sys H) (x : LamX.ExtN H H') : Sys H' := by
  obtain ⟨o, u, h⟩ := h
  exact ⟨o, u, x _ _ h (fun _ z => by cases z)⟩
theorem TabS.but {H H' : Hp} {t p : Addr} {q : Str} {n : Nat} (h : LamX.TabS H t q) (b : But p H H') (hp : Pen H p n) : LamX.TabS H' t q := by
  obtain ⟨ps, h1, h2, h3⟩ := h
  refine ⟨ps, b _ _ (hp.ne h1 fun _ _ _ z => by cases z) h1, h2, fun pos cv hc => ?_⟩
  obtain ⟨c, e1, e2⟩ := h3 pos cv hc
  exact ⟨c, e1, b _ _ (hp.ne e2 fun _ _ _ z => by unfold LamX.CodeO at z; cases z) e2⟩
/-- an object that is handed on: data, of such a size -/
structure Arg (H : Hp) (v : V) (d : PyData) : Prop where
  dq : Dq Apart H 2 v d
  sh : Sh 2 60000 d
  len : ∀ y, v = .str y → y.length ≤ 60000
/-- what stands in a turn: the four arguments, the pen, sys.modules, the table -/
structure T3 (p t : Addr) (q : Str) (n : Nat) (v1 v2 v3 v4 : V) (d1 d2 d3 d4 : PyData) (H : Hp) : Prop where
  a1 : Arg H v1 d1
  a2 : Arg H v2 d2
  a3 : Arg H v3 d3
  a4 : Arg H v4 d4
  pen : Pen H p n
  sys : Sys H
  tab : LamX.TabS H t q
theorem Arg.extN {H H' : Hp} {v : V} {d : PyData} (h : Arg H v d) (x : LamX.ExtN H H') : Arg H' v d := ⟨h.dq.extN x, h.sh, h.len⟩
theorem T3.ext {p t : Addr} {q : Str} {n : Nat} {v1 v2 v3 v4 : V} {d1 d2 d3 d4 : PyData} {H H' : Hp} (h : T3 p t q n v1 v2 v3 v4 d1 d2 d3 d4 H) (x : LamX.ExtN H H') (b : LamX.TabS H' t q) : T3 p t q n v1 v2 v3 v4 d1 d2 d3 d4 H' :=
  ⟨h.a1.extN x, h.a2.extN x, h.a3.extN x, h.a4.extN x, h.pen.extN x, h.sys.extN x, b⟩
theorem T3.same {p t : Addr} {q : Str} {n : Nat} {v1 v2 v3 v4 : V} {d1 d2 d3 d4 : PyData} {H H' : Hp} (h : T3 p t q n v1 v2 v3 v4 d1 d2 d3 d4 H) (s : Same H H') : T3 p t q n v1 v2 v3 v4 d1 d2 d3 d4 H' :=
  h.ext (fun b o e _ => s b o e) (h.tab.ext s)
theorem AnyV.same {H H' : Hp} {v : V} {t : String} (h : AnyV H v t) (s : Same H H') : AnyV H' v t := by
  cases h with
  | non => exact .non
  | bl b => exact .bl b
  | int i => exact .int i
  | str x => exact .str x
  | lst e => exact .lst (s _ _ e)
  | tup e => exact .tup (s _ _ e)
  | dct e => exact .dct (s _ _ e)
def nameV : V → Bool
  | .str x => nameB x
  | _ => false
def wholeV : V → Bool
  | .int _ => true
  | _ => false
theorem nameV_true {v : V} (h : nameV v = true) : ∃ x, v = .str x ∧ nameB x = true := by
  cases v <;> first | exact ⟨_, rfl, h⟩ | cases h
theorem wholeV_true {v : V} (h : wholeV v = true) : ∃ i, v = .int i := by
  cases v <;> first | exact ⟨_, rfl⟩ | cases h
theorem isn {K : PySem.W.Frag} {H : Hp} {v : V} {d : PyData} {Q : VK} {E : XK} (h : Arg H v d) (q : ∀ H', Same H H' → Q (.bl (nameV v)) H') : spIsName K [v] H Q E := by
  obtain ⟨t, av⟩ := h.dq.any
  refine ⟨v, t, rfl, av.ty, ?_⟩
  rcases str_cases av with ⟨y, rfl, rfl⟩ | ⟨hn, hv⟩
  · exact .inr ⟨y, rfl, Nat.le_trans (h.len y rfl) (by decide), fun H' s => q H' s⟩
  · refine .inl ⟨hn, ?_⟩
    have e : nameV v = false := by
      cases v <;> first | rfl | exact absurd rfl (hv _)
    have z := q H (Same.refl H)
    rw [e] at z
    exact z
theorem whl {K : PySem.W.Frag} {H : Hp} {v : V} {d : PyData} {Q : VK} {E : XK} (h : Arg H v d) (q : Q (.bl (wholeV v)) H) : spWhole K [v] H Q E := by
  obtain ⟨t, av⟩ := h.dq.any
  refine ⟨v, t, rfl, av.ty, ?_⟩
  have e : (t == "int") = wholeV v := by
    cases av <;> rfl
  rw [e]
  exact q
theorem w_init {p t C CI : Addr} {q : Str} {n : Nat} {v1 v2 v3 v4 v4' : V} {d1 d2 d3 d4 d4' : PyData} {H1 : Hp} {ok : Bool} {Q Q' : VK} (t1 : T3 p t q n v1 v2 v3 v4' d1 d2 d3 d4' H1) (a4 : Arg H1 v4 d4)
    (hF : (ok = true ∧ ∃ x i j pr, Fits v1 v2 v3 v4 x i j pr) ∨ (ok = false ∧ ∀ x i j pr, ¬ Fits v1 v2 v3 v4 x i j pr))
    (fin : ∀ H', T3 p t q n v1 v2 v3 v4' d1 d2 d3 d4' H' → Q (.str (if ok = true then "" else "item")) H') (hq : ∀ v H', Q (.str "") H' → Q' v H') :
    ∀ x dx, H1 x = none → H1 dx = none → dx ≠ x → spInitX C CI [.ref x, v1, v2, v3, v4] (upd (upd H1 dx (.own x)) x (.ins C dx [])) (fun v H2 => v = .non ∧ Q' (.ref x) H2)
      (fun cls d H' => cls = .ref CI ∧ d = none ∧ ∀ b, H' b = none → Q (.str "item") (upd H' b (ExK cls d b))) := by
  intro x dx hx hdx ne
  obtain ⟨k1, y1⟩ := t1.a1.dq.any
  obtain ⟨k2, y2⟩ := t1.a2.dq.any
  obtain ⟨k3, y3⟩ := t1.a3.dq.any
  obtain ⟨k4, y4⟩ := a4.dq.any
  have S0 := same_made (C := C) hx hdx ne
  refine ⟨x, dx, v1, v2, v3, v4, k1, k2, k3, k4, rfl, upd_same, fun H' S => ⟨y1.same (S0.trans S), y2.same (S0.trans S), y3.same (S0.trans S), y4.same (S0.trans S)⟩, fun y e => Nat.le_trans (t1.a1.len y e) (by decide), fun nm lo hi pr f H' hb' _ => ⟨rfl, ?_⟩, fun bad H' S => ⟨rfl, rfl, fun b hb => ?_⟩⟩
  · refine hq _ _ ?_
    rcases hF with ⟨rfl, _⟩ | ⟨_, bad⟩
    · have z := fin H' (t1.same (made hx hdx hb'))
      rw [if_pos rfl] at z
      exact z
    · exact absurd f (bad _ _ _ _)
  · rcases hF with ⟨_, x, i, j, pr, f⟩ | ⟨rfl, _⟩
    · exact absurd f (bad _ _ _ _)
    · have z := fin _ (t1.same (Same.grow (S0.trans S) hb (o := ExK (.ref CI) none b)))
      rw [if_neg (by decide)] at z
      exact z
theorem w_exact {p t C CI : Addr} {q : Str} {n : Nat} {v1 v2 v3 v4 : V} {d1 d2 d3 d4 : PyData} {H1 : Hp} {ok : Bool} {Q Q' : VK} (t1 : T3 p t q n v1 v2 v3 v4 d1 d2 d3 d4 H1)
    (hF : (ok = true ∧ ∃ x i, v1 = .str x ∧ v2 = .int i ∧ nameB x = true) ∨ (ok = false ∧ ∀ x i, v1 = .str x → v2 = .int i → nameB x = true → False))
    (fin : ∀ H', T3 p t q n v1 v2 v3 v4 d1 d2 d3 d4 H' → Q (.str (if ok = true then "" else "item")) H') (hq : ∀ v H', Q (.str "") H' → Q' v H') :
    spExactX C CI [.ref C, v1, v2] H1 Q' (fun cls d H' => cls = .ref CI ∧ d = none ∧ ∀ b, H' b = none → Q (.str "item") (upd H' b (ExK cls d b))) := by
  obtain ⟨k1, y1⟩ := t1.a1.dq.any
  obtain ⟨k2, y2⟩ := t1.a2.dq.any
  refine ⟨v1, v2, k1, k2, rfl, fun H' S => ⟨y1.same S, y2.same S⟩, fun y e => Nat.le_trans (t1.a1.len y e) (by decide), fun nm i e1 e2 hn x H' hx S _ => ?_, fun bad H' S => ⟨rfl, rfl, fun b hb => ?_⟩⟩
  · refine hq _ _ ?_
    rcases hF with ⟨rfl, _⟩ | ⟨_, bad⟩
    · have z := fin H' (t1.same S)
      rw [if_pos rfl] at z
      exact z
    · exact (bad _ _ e1 e2 hn).elim
  · rcases hF with ⟨_, x, i, e1, e2, hn⟩ | ⟨rfl, _⟩
    · exact (bad _ _ e1 e2 hn).elim
    · have z := fin _ (t1.same (Same.grow S hb (o := ExK (.ref CI) none b)))
      rw [if_neg (by decide)] at z
      exact z
theorem tc_isn {K : PySem.W.Frag} {H : Hp} {v : V} {d : PyData} {Q : VK} {E : XK} {σ : L2.St} {i : Nat} (e : σ[i]? = some (some v)) (h : Arg H v d) (q : ∀ H', Same H H' → Q (.bl (nameV v)) H') :
    tCall (spIsName K) [] E (tCons (tVar i) tNil) σ H Q := by
  refine ⟨v, e, ?_⟩
  show spIsName K ([v] ++ []) H Q E
  exact isn h q
theorem tc_whl {K : PySem.W.Frag} {H : Hp} {v : V} {d : PyData} {Q : VK} {E : XK} {σ : L2.St} {i : Nat} (e : σ[i]? = some (some v)) (h : Arg H v d) (q : Q (.bl (wholeV v)) H) :
    tCall (spWhole K) [] E (tCons (tVar i) tNil) σ H Q := by
  refine ⟨v, e, ?_⟩
  show spWhole K ([v] ++ []) H Q E
  exact whl h q
theorem word_make4 {p t C CI : Addr} {q : Str} {n : Nat} {v1 v2 v3 v4 : V} {d1 d2 d3 d4 : PyData} {H : Hp} {ok : Bool} {Q : VK} {σ : L2.St} (t9 : T3 p t q n v1 v2 v3 v4 d1 d2 d3 d4 H)
    (e7 : σ[7]? = some (some v1)) (e4 : σ[4]? = some (some v2)) (e5 : σ[5]? = some (some v3)) (e6 : σ[6]? = some (some v4))
    (hF : (ok = true ∧ ∃ x i j pr, Fits v1 v2 v3 v4 x i j pr) ∨ (ok = false ∧ ∀ x i j pr, ¬ Fits v1 v2 v3 v4 x i j pr))
    (fin : ∀ H', T3 p t q n v1 v2 v3 v4 d1 d2 d3 d4 H' → Q (.str (if ok = true then "" else "item")) H') :
    LamX.tLam [(t, q)] (TTword CI) (fun E2 => tMakeK C 3 1 (spInitX C CI) (fun vs zs => vs ++ zs) E2 (tCons (tVar 7) (tCons (tVar 4) (tCons (tVar 5) tNil))) (tCons (tVar 6) tNil)) σ H Q := by
  refine ⟨fun x hx => by rw [List.mem_singleton.mp hx]; exact t9.tab, fun H1 x1 tb1 Q' hq => ?_⟩
  have t1 := t9.ext x1 (tb1 _ (List.mem_singleton.mpr rfl))
  refine ⟨v1, e7, v2, e4, v3, e5, v4, e6, rfl, rfl, ?_⟩
  exact w_init t1 t1.a4 hF fin hq
theorem word_make3 {p t C CI : Addr} {q : Str} {n : Nat} {v1 v2 v3 v4 : V} {d1 d2 d3 d4 : PyData} {H : Hp} {ok : Bool} {Q : VK} {σ : L2.St} (t9 : T3 p t q n v1 v2 v3 v4 d1 d2 d3 d4 H)
    (e7 : σ[7]? = some (some v1)) (e4 : σ[4]? = some (some v2)) (e5 : σ[5]? = some (some v3))
    (hF : (ok = true ∧ ∃ x i j pr, Fits v1 v2 v3 (.int 1) x i j pr) ∨ (ok = false ∧ ∀ x i j pr, ¬ Fits v1 v2 v3 (.int 1) x i j pr))
    (fin : ∀ H', T3 p t q n v1 v2 v3 v4 d1 d2 d3 d4 H' → Q (.str (if ok = true then "" else "item")) H') :
    LamX.tLam [(t, q)] (TTword CI) (fun E2 => tMake C (spInitX C CI) [V.int 1] E2 (tCons (tVar 7) (tCons (tVar 4) (tCons (tVar 5) tNil)))) σ H Q := by
  refine ⟨fun x hx => by rw [List.mem_singleton.mp hx]; exact t9.tab, fun H1 x1 tb1 Q' hq => ?_⟩
  have t1 := t9.ext x1 (tb1 _ (List.mem_singleton.mpr rfl))
  refine ⟨v1, e7, v2, e4, v3, e5, ?_⟩
  exact w_init (d4 := .int 1) t1 ⟨Dq.flat (v := .int 1) (d := .int 1) rfl 2, (sh_int (by decide)).up (by decide) (by decide), fun y e => by cases e⟩ hF fin hq
theorem word_exact {p t C CI : Addr} {q : Str} {n : Nat} {v1 v2 v3 v4 : V} {d1 d2 d3 d4 : PyData} {H : Hp} {ok : Bool} {Q : VK} {σ : L2.St} (t9 : T3 p t q n v1 v2 v3 v4 d1 d2 d3 d4 H)
    (e7 : σ[7]? = some (some v1)) (e4 : σ[4]? = some (some v2))
    (hF : (ok = true ∧ ∃ x i, v1 = .str x ∧ v2 = .int i ∧ nameB x = true) ∨ (ok = false ∧ ∀ x i, v1 = .str x → v2 = .int i → nameB x = true → False))
    (fin : ∀ H', T3 p t q n v1 v2 v3 v4 d1 d2 d3 d4 H' → Q (.str (if ok = true then "" else "item")) H') :
    LamX.tLam [(t, q)] (TTword CI) (fun E2 => ClX.tCMeth C (fun vs H Q E => spExactX C CI (vs ++ []) H Q E) E2 (tC (V.ref C)) (tCons (tVar 7) (tCons (tVar 4) tNil))) σ H Q := by
  refine ⟨fun x hx => by rw [List.mem_singleton.mp hx]; exact t9.tab, fun H1 x1 tb1 Q' hq => ?_⟩
  have t1 := t9.ext x1 (tb1 _ (List.mem_singleton.mpr rfl))
  refine ⟨rfl, v1, e7, v2, e4, ?_⟩
  exact w_exact t1 hF fin hq
theorem T3.tup {p t : Addr} {q : Str} {n : Nat} {v1 v2 v3 v4 : V} {d1 d2 d3 d4 : PyData} {H : Hp} (h : T3 p t q n v1 v2 v3 v4 d1 d2 d3 d4 H) {W : Addr} (hW : H W = none) :
    Dq Apart (upd H W (.tup [v1, v2, v3, v4])) 3 (.ref W) (.tuple [d1, d2, d3, d4]) ∧ Sh 60 sizeLine (.tuple [d1, d2, d3, d4]) := by
  have t := h.same (Same.new hW (o := .tup [v1, v2, v3, v4]))
  refine ⟨.inr (.inr (.inl ⟨W, _, _, rfl, rfl, h.sys.ne hW, upd_same, .cons t.a1.dq (.cons t.a2.dq (.cons t.a3.dq (.cons t.a4.dq .nil)))⟩)), (sh_tup (ds := [d1, d2, d3, d4]) (n := 2) (k := 4) (L := 60000) (fun d hd => ?_) (Nat.le_refl 4)).up (by decide) (by decide)⟩
  simp only [List.mem_cons, List.not_mem_nil, or_false] at hd
  rcases hd with rfl | rfl | rfl | rfl
  · exact h.a1.sh
  · exact h.a2.sh
  · exact h.a3.sh
  · exact h.a4.sh
theorem tc_repr4 {K : PySem.W.Frag} {p t : Addr} {q : Str} {n : Nat} {v1 v2 v3 v4 : V} {d1 d2 d3 d4 : PyData} {H : Hp} {Q : VK} {σ : L2.St} (t9 : T3 p t q n v1 v2 v3 v4 d1 d2 d3 d4 H)
    (e7 : σ[7]? = some (some v1)) (e4 : σ[4]? = some (some v2)) (e5 : σ[5]? = some (some v3)) (e6 : σ[6]? = some (some v4))
    (fin : ∀ H', T3 p t q n v1 v2 v3 v4 d1 d2 d3 d4 H' → Q (.str (PyData.tuple [d1, d2, d3, d4]).shown) H') :
    tCB (rReprD K) (tCons (tTup (tCons (tVar 7) (tCons (tVar 4) (tCons (tVar 5) (tCons (tVar 6) tNil))))) tNil) σ H Q := by
  refine ⟨v1, e7, v2, e4, v3, e5, v4, e6, by show 4 ≤ sizeLine; decide, fun W hW => ?_⟩
  obtain ⟨h1, h2⟩ := t9.tup hW
  exact ⟨Apart, 3, _, _, rfl, fun _ z => z, h1, h2, fin _ (t9.same (Same.new hW))⟩
theorem rp_bool {K : PySem.W.Frag} {H : Hp} {b : Bool} {Q : VK} (q : Q (.str (PyData.bool b).shown) H) : rReprD K [.bl b] H Q :=
  ⟨Apart, 0, _, .bool b, rfl, fun _ z => z, rfl, (sh_bool b).up (by decide) (by decide), q⟩
theorem tc_rp1 {K : PySem.W.Frag} {H : Hp} {v : V} {d : PyData} {Q : VK} {E : XK} {σ : L2.St} {i : Nat} (e : σ[i]? = some (some v)) (h : Arg H v d) (q : ∀ H', Same H H' → Q (.str (PyData.bool (nameV v)).shown) H') :
    tCB (rReprD K) (tCons (tCall (spIsName K) [] E (tCons (tVar i) tNil)) tNil) σ H Q :=
  tc_isn e h fun H' s => rp_bool (K := K) (q H' s)
theorem tc_rp2 {K : PySem.W.Frag} {H : Hp} {v : V} {d : PyData} {Q : VK} {E : XK} {σ : L2.St} {i : Nat} {C : Addr} (e : σ[i]? = some (some v)) (h : Arg H v d) (q : ∀ H', Same H H' → Q (.str (PyData.bool (nameV v)).shown) H') :
    tCB (rReprD K) (tCons (tSMeth C (spIsName K) E (tC (V.ref C)) (tCons (tVar i) tNil)) tNil) σ H Q := by
  refine ⟨rfl, v, e, ?_⟩
  show spIsName K [v] H (fun x H2 => rReprD K [x] H2 Q) E
  exact isn h fun H' s => rp_bool (K := K) (q H' s)
theorem tc_rp3 {K : PySem.W.Frag} {H : Hp} {v : V} {d : PyData} {Q : VK} {E : XK} {σ : L2.St} {i : Nat} {C : Addr} (e : σ[i]? = some (some v)) (h : ∀ H', Same H H' → Arg H' v d) (q : ∀ H', Same H H' → Q (.str (PyData.bool (nameV v)).shown) H') :
    tCB (rReprD K) (tCons (tSMethI C "is_name" (spIsName K) E (tMake C (spInit C) [V.int 1] E0 (tCons (tC (V.str "q")) (tCons (tC (V.int 0)) (tCons (tC (V.int 1)) tNil)))) (tCons (tVar i) tNil)) tNil) σ H Q := by
  intro x dx hx hdx ne
  refine ⟨x, dx, "q", 0, 1, 1, rfl, upd_same, by decide +kernel, by decide, by decide, by decide, fun H' hb' hx' => ⟨rfl, x, dx, _, rfl, hx', by decide +kernel, v, e, ?_⟩⟩
  have S := made hx hdx hb'
  show spIsName K [v] H' (fun x H2 => rReprD K [x] H2 Q) E
  exact isn (h H' S) fun H2 s2 => rp_bool (K := K) (q H2 (S.trans s2))
section
variable {w : World} {K : PySem.W.Frag} {mg : Str → Option Value} {base : Heap} {a : Ad}
theorem ok_law (T : Txt K mg a) {c t : Addr} {oc kV doc pm ct : Value} {od an : Option Addr} {osl : Array (Option Value)} (TB : LamX.TabB base mg c t)
    (lk : K.lookup a.f_law = some ⟨oc, od, .func (PySem.W.fnOf "law" "law" (defArgs s_law) (defBody s_law) (defScope s_law) .none kV doc pm an (.ref c) ct), osl⟩) (hcd : PySem.W.codeIn K (.ref c) "law" = true) :
    GOk PK3 w K mg base CX0 10 a.f_law (PySem.W.fnOf "law" "law" (defArgs s_law) (defBody s_law) (defScope s_law) .none kV doc pm an (.ref c) ct) ["script"] (spLawT K t) := by
  have G_law_pen : FnOk PK3 w K mg base CX0 1 a.f__law_pen a.d__law_pen ["script"] (spPen K) := ok_pen T
  have G_law_draw : FnOk PK3 w K mg base CX0 2 a.f__law_draw a.d__law_draw ["pen", "below"] spDraw := ok_draw T
  have G_law_name : FnOk PK3 w K mg base CX0 6 a.f__law_name a.d__law_name ["pen"] spLName := ok_lname T
  have G_law_is_name : FnOk PK3 w K mg base CX0 1 a.f__law_is_name a.d__law_is_name ["thing"] (spIsName K) := ok_lisname T
  have G_law_whole : FnOk PK3 w K mg base CX0 1 a.f__law_whole a.d__law_whole ["thing"] (spWhole K) := ok_lwhole T
  have G_is_name : FnOk PK3 w K mg base CX0 1 a.f_Item_is_name a.d_Item_is_name ["thing"] (spIsName K) := ok_is_name T
  have G_initX : FnOk PK3 w K mg base (L2.CX PK3 w) 3 a.f_Item___init__ a.d_Item___init__ ["self", "name", "least", "greatest", "price"] (spInitX a.c_Item a.c_InvalidItem) := ok_initX T
  have G_init : FnOk PK3 w K mg base CX0 3 a.f_Item___init__ a.d_Item___init__ ["self", "name", "least", "greatest", "price"] (spInit a.c_Item) := ok_init T
  have G_exactX : FnOk PK3 w K mg base (L2.CX PK3 w) 5 a.f_Item_exact a.d_Item_exact ["cls", "name", "value"] (spExactX a.c_Item a.c_InvalidItem) := ok_exactX T
  obtain ⟨mv, hkb⟩ := init_kw T
  obtain ⟨ds, hdv, hbn⟩ := init_d T
  refine gok_of lk hcd sc_law (fun vs H Q E h => ?_) (fun A outer s H vs Q E hr hgd h => ?_)
  · obtain ⟨sc, ns, rfl, _⟩ := h
    rfl
  · obtain ⟨sc, ns, rfl, hS, hns, sys, hT, k⟩ := h
    have nd := sc_law.nd
    have hcode : (cxOf CX0 PK3 w K mg base ["script", "pen", "turn", "ends", "low", "top", "cost", "nym", "good", "seen", "due", "fine"] "law" (defScope s_law) a.f_law (.ref c) A outer s H E).nox.env.code = .ref c := rfl
    have hr7 : Room (7 + 2) (cxOf CX0 PK3 w K mg base ["script", "pen", "turn", "ends", "low", "top", "cost", "nym", "good", "seen", "due", "fine"] "law" (defScope s_law) a.f_law (.ref c) A outer s H E).nox.A := hr
    refine ⟨_, PSs.nox (pss_cons (ps_set (i := 1) nd rfl (Or.inl rfl) (pe_call G_law_pen (hr.mono (by first | decide | omega)) rfl T.g__law_pen T.F__law_pen.kp T.b__law_pen .nil pass0 (pa_cons (pv 0) pa_nil)))
  (pss_cons (ps_for PassesOwn.never rfl (pi_range1 rfl T.b_range (pa_cons pe_int pa_nil)) (pg_name (i := 2) nd rfl (Or.inl rfl))
    (pss_cons (ps_set (i := 3) nd rfl (Or.inl rfl) (pe_lst (pa_cons pe_int (pa_cons pe_int (pa_cons pe_int (pa_cons pe_int (pa_cons (pe_un un_neg pe_int) (pa_cons pe_int (pa_cons pe_bl (pa_cons pe_bl (pa_cons pe_non (pa_cons pe_str (pa_cons pe_int (pa_cons pe_int (pa_cons (pe_lst (pa_cons pe_int pa_nil)) (pa_cons (pe_tup (pa_cons pe_int pa_nil)) (pa_cons (pe_op op_pow pe_int pe_int) pa_nil)))))))))))))))))
  (pss_cons (ps_asg (pe_tup (pa_cons (pe_ix ix_list (pv 3) (pe_call G_law_draw (hr.mono (by first | decide | omega)) rfl T.g__law_draw T.F__law_draw.kp T.b__law_draw .nil pass0 (pa_cons (pv 1) (pa_cons pe_int pa_nil))) (fun _ _ => rfl)) (pa_cons (pe_ix ix_list (pv 3) (pe_call G_law_draw (hr.mono (by first | decide | omega)) rfl T.g__law_draw T.F__law_draw.kp T.b__law_draw .nil pass0 (pa_cons (pv 1) (pa_cons pe_int pa_nil))) (fun _ _ => rfl)) pa_nil))) (pg_tup (by rfl) (pgs_cons (pg_name (i := 4) nd rfl (Or.inr rfl)) (pgs_cons (pg_name (i := 5) nd rfl (Or.inr rfl)) pgs_nil))))
  (pss_cons (ps_set (i := 6) nd rfl (Or.inr rfl) (pe_ix ix_list (pe_lst (pa_cons pe_int (pa_cons pe_int (pa_cons pe_int (pa_cons pe_int (pa_cons (pe_un un_neg pe_int) (pa_cons pe_bl (pa_cons pe_non (pa_cons pe_str (pa_cons pe_int (pa_cons pe_int (pa_cons pe_int (pa_cons (pe_op op_pow pe_int pe_int) pa_nil))))))))))))) (pe_call G_law_draw (hr.mono (by first | decide | omega)) rfl T.g__law_draw T.F__law_draw.kp T.b__law_draw .nil pass0 (pa_cons (pv 1) (pa_cons pe_int pa_nil))) (fun _ _ => rfl)))
  (Evl.pss_cut (ps_set (i := 7) nd rfl (Or.inr rfl) (pe_call G_law_name (hr.mono (by first | decide | omega)) rfl T.g__law_name T.F__law_name.kp T.b__law_name .nil pass0 (pa_cons (pv 1) pa_nil)))
  (Evl.pss_cut (ps_set (i := 8) nd rfl (Or.inl rfl) (pe_and (pe_call G_law_is_name (hr.mono (by first | decide | omega)) rfl T.g__law_is_name T.F__law_is_name.kp T.b__law_is_name .nil pass0 (pa_cons (pv 7) pa_nil)) (pe_and (pe_call G_law_whole (hr.mono (by first | decide | omega)) rfl T.g__law_whole T.F__law_whole.kp T.b__law_whole .nil pass0 (pa_cons (pv 4) pa_nil)) (pe_and (pe_call G_law_whole (hr.mono (by first | decide | omega)) rfl T.g__law_whole T.F__law_whole.kp T.b__law_whole .nil pass0 (pa_cons (pv 5) pa_nil)) (pe_one (pe_cmpR op_le (pv 4) (pv 5) (nomark _)))))))
  (pss_cons (ps_set (i := 9) nd rfl (Or.inl rfl) (pe_callB (cr_reprD hgd hr.units) (by rfl) T.b_repr (by decide +kernel) (pa_cons (pe_tup (pa_cons (pv 7) (pa_cons (pv 4) (pa_cons (pv 5) (pa_cons (pv 6) pa_nil))))) pa_nil)))
  (Evl.pss_cut (ps_set (i := 10) nd rfl (Or.inl rfl) (pe_ifExp (PW.pt (pw_and (pt_val (pv 8)) (pw_and (pt_val (pe_call G_law_whole (hr.mono (by first | decide | omega)) rfl T.g__law_whole T.F__law_whole.kp T.b__law_whole .nil pass0 (pa_cons (pv 6) pa_nil))) (pw_and1 (pt_chain op_le op_le pe_int (pv 6) pe_int))))) pe_str pe_str))
  (Evl.pss_cut (ps_if (pt_cmpR op_ne (pe_word (tb := _) T rfl TB hcode hr7 (LamX.lamS_by (by rfl)) rfl (fun _ _ _ _ _ => rfl) (fun A2 o2 s2 H2 E2 f2 c2 hr2 => pe_makeK T.mk_Item G_initX (hr2.mono (by decide)) rfl T.g_Item hkb (passes_call (takes_of rfl rfl rfl rfl) (fun _ _ _ _ z => z)) (pa_cons (pv 7) (pa_cons (pv 4) (pa_cons (pv 5) pa_nil))) (pk_cons (pv 6) pk_nil))) (pv 10) (nomark _))
    (pss_one (ps_ret pe_bl))
    pss_nil)
  (Evl.pss_cut (ps_if (pt_cmpR op_ne (pe_word (tb := _) T rfl TB hcode hr7 (LamX.lamS_by (by rfl)) rfl (fun _ _ _ _ _ => rfl) (fun A2 o2 s2 H2 E2 f2 c2 hr2 => pe_make T.mk_Item G_initX (hr2.mono (by decide)) rfl T.g_Item hbn hdv (passes_call (takes_of rfl rfl rfl rfl) (fun _ _ _ _ z => z)) (pa_cons (pv 7) (pa_cons (pv 4) (pa_cons (pv 5) pa_nil))))) (pe_ifExp (pt_val (pv 8)) pe_str pe_str) (nomark _))
    (pss_one (ps_ret pe_bl))
    pss_nil)
  (Evl.pss_cut (ps_set (i := 11) nd rfl (Or.inl rfl) (pe_and (pe_call G_law_is_name (hr.mono (by first | decide | omega)) rfl T.g__law_is_name T.F__law_is_name.kp T.b__law_is_name .nil pass0 (pa_cons (pv 7) pa_nil)) (pe_one (pe_call G_law_whole (hr.mono (by first | decide | omega)) rfl T.g__law_whole T.F__law_whole.kp T.b__law_whole .nil pass0 (pa_cons (pv 4) pa_nil)))))
  (Evl.pss_cut (ps_if (pt_cmpR op_ne (pe_word (tb := _) T rfl TB hcode hr7 (LamX.lamS_by (by rfl)) rfl (fun _ _ _ _ _ => rfl) (fun A2 o2 s2 H2 E2 f2 c2 hr2 => ClX.pe_cmeth (pe_glob (v := .ref a.c_Item) rfl T.g_Item rfl) T.rd_Item T.m_Item_exact (G_exactX.raw T.b_Item_exact .nil) (hr2.mono (by decide)) (passes_call (takes_of rfl rfl rfl rfl) (fun _ _ _ _ z => z)) (pa_cons (pv 7) (pa_cons (pv 4) pa_nil)))) (pe_ifExp (pt_val (pv 11)) pe_str pe_str) (nomark _))
    (pss_one (ps_ret pe_bl))
    pss_nil)
  (Evl.pss_cut (ps_if (PW.pt (pw_or (pt_cmpR op_ne (pe_callB (cr_reprD hgd hr.units) (by rfl) T.b_repr (by decide +kernel) (pa_cons (pe_smeth (pe_glob (v := .ref a.c_Item) rfl T.g_Item rfl) T.rd_Item T.m_Item_is_name G_is_name (hr.mono (by decide)) T.b_Item_is_name pass0 (pa_cons (pv 7) pa_nil)) pa_nil)) (pe_callB (cr_reprD hgd hr.units) (by rfl) T.b_repr (by decide +kernel) (pa_cons (pe_call G_law_is_name (hr.mono (by first | decide | omega)) rfl T.g__law_is_name T.F__law_is_name.kp T.b__law_is_name .nil pass0 (pa_cons (pv 7) pa_nil)) pa_nil)) (nomark _)) (pw_or1 (pt_cmpR op_ne (pe_callB (cr_reprD hgd hr.units) (by rfl) T.b_repr (by decide +kernel) (pa_cons (pe_tup (pa_cons (pv 7) (pa_cons (pv 4) (pa_cons (pv 5) (pa_cons (pv 6) pa_nil))))) pa_nil)) (pv 9) (nomark _)))))
    (pss_one (ps_ret pe_bl))
    pss_nil)
  (pss_one (ps_if (pt_cmpR op_ne (pe_callB (cr_reprD hgd hr.units) (by rfl) T.b_repr (by decide +kernel) (pa_cons (pe_smethI (pe_make T.mk_Item G_init (hr.mono (by decide)) rfl T.g_Item hbn hdv pass0 (pa_cons pe_str (pa_cons pe_int (pa_cons pe_int pa_nil)))) T.i_Item_is_name G_is_name (hr.mono (by decide)) T.b_Item_is_name pass0 (pa_cons (pv 7) pa_nil)) pa_nil)) (pe_callB (cr_reprD hgd hr.units) (by rfl) T.b_repr (by decide +kernel) (pa_cons (pe_call G_law_is_name (hr.mono (by first | decide | omega)) rfl T.g__law_is_name T.F__law_is_name.kp T.b__law_is_name .nil pass0 (pa_cons (pv 7) pa_nil)) pa_nil)) (nomark _))
    (pss_one (ps_ret pe_bl))
    pss_nil)))))))))))))))
  (pss_one (ps_ret pe_bl)))), ?_⟩
    refine ⟨_, rfl, sc, ns, rfl, hS, hns, fun p H1 hp0 b1 hp1 => ?_⟩
    have sys1 : Sys H1 := by
      obtain ⟨o, u, e⟩ := sys
      exact ⟨o, u, b1 _ _ (ne_of_none e hp0) e⟩
    have hT1 : H1 t = some (.tbl #[]) := b1 _ _ (ne_of_none hT hp0) hT
    refine ⟨16, rfl, by decide, by decide, for_range (lo := 0) (n := 16) (fun i σ H' => ∃ v2 v3 v4 v5 v6 v7 v8 v9 v10 v11 : Option V,
      σ = [some (.ref sc), some (.ref p), v2, v3, v4, v5, v6, v7, v8, v9, v10, v11] ∧ Pen H' p (i * 90) ∧ Sys H' ∧ LamX.TabS H' t (Str.ofString "law" ++ ".<locals>." ++ "<lambda>")) ⟨none, none, none, none, none, none, none, none, none, none, rfl, hp1, sys1, LamX.TabS.nil hT1⟩ ?_ ?_⟩
    · rintro i σ H2 hi ⟨v2, v3, v4, v5, v6, v7, v8, v9, v10, v11, rfl, hp2, sys2, tb2⟩
      refine ⟨_, rfl, ?_⟩
      refine ⟨by show 1 ≤ sizeLine; decide, fun L hL => ?_⟩
      refine ⟨by show 1 ≤ sizeLine; decide, fun U hU => ?_⟩
      refine ⟨_, _, rfl, rfl, ⟨by decide, by decide, by decide⟩, ?_⟩
      refine ⟨by show 15 ≤ sizeLine; decide, fun S hS' => ?_⟩
      generalize hxs : [V.int 0, V.int 1, V.int 2, V.int 5, (fun i => V.int (-i)) 3, V.int 7, V.bl true, V.bl false, V.non, V.str "1", V.int 2, V.int 3, V.ref L, V.ref U, (fun (i j : Int) => V.int (i ^ j.toNat)) 10 11] = xs
      have aL : Apart L := sys2.ne hL
      have S3 := Same.new hL (o := .lst [.int 1])
      have aU : Apart U := (sys2.same S3).ne hU
      have S4 := Same.grow S3 hU (o := .tup [.int 2])
      have S5 := Same.grow S4 hS' (o := .lst xs)
      have eL : upd (upd (upd H2 L (.lst [.int 1])) U (.tup [.int 2])) S (.lst xs) L = some (.lst [.int 1]) := Same.new hS' _ _ (Same.new hU _ _ upd_same)
      have eU : upd (upd (upd H2 L (.lst [.int 1])) U (.tup [.int 2])) S (.lst xs) U = some (.tup [.int 2]) := Same.new hS' _ _ upd_same
      have eS : upd (upd (upd H2 L (.lst [.int 1])) U (.tup [.int 2])) S (.lst xs) S = some (.lst xs) := upd_same
      have nSp : S ≠ p := Ne.symm ((hp2.same S4).ne0 hS')
      have hp5 := hp2.same S5
      have sys5 := sys2.same S5
      have tb5 := tb2.ext S5
      generalize upd (upd (upd H2 L (.lst [.int 1])) U (.tup [.int 2])) S (.lst xs) = H5 at eL eU eS hp5 sys5 tb5 ⊢
      clear S3 S4 S5 hS' hU hL hp2 sys2 tb2
      have lx : xs.length = 15 := by rw [← hxs]; rfl
      -- what each of these is
      have item : ∀ v ∈ xs, ∀ H', H' L = some (.lst [.int 1]) → H' U = some (.tup [.int 2]) → ∃ d, Arg H' v d := by
        intro v hv H' h1 h2
        rw [← hxs] at hv
        simp only [List.mem_cons, List.not_mem_nil, or_false] at hv
        have i0 : ∀ i : Int, i.natAbs < 10 ^ 12 → ∃ d, Arg H' (.int i) d := fun i hi => ⟨.int i, Dq.flat (v := .int i) (d := .int i) rfl 2, (sh_int hi).up (by decide) (by decide), fun y e => by cases e⟩
        have b0 : ∀ b : Bool, ∃ d, Arg H' (.bl b) d := fun b => ⟨.bool b, Dq.flat (v := .bl b) (d := .bool b) rfl 2, (sh_bool b).up (by decide) (by decide), fun y e => by cases e⟩
        rcases hv with rfl | rfl | rfl | rfl | rfl | rfl | rfl | rfl | rfl | rfl | rfl | rfl | rfl | rfl | rfl
        · exact i0 _ (by decide)
        · exact i0 _ (by decide)
        · exact i0 _ (by decide)
        · exact i0 _ (by decide)
        · exact i0 _ (by decide)
        · exact i0 _ (by decide)
        · exact b0 _
        · exact b0 _
        · exact ⟨.none, Dq.flat (v := .non) (d := .none) rfl 2, sh_none.up (by decide) (by decide), fun y e => by cases e⟩
        · exact ⟨.str "1", Dq.flat (v := .str "1") (d := .str "1") rfl 2, (sh_str (L := 60) (by decide +kernel)).up (by decide) (by decide), fun y e => by cases e; exact Nat.le_trans (by decide +kernel : _ ≤ 60) (by decide)⟩
        · exact i0 _ (by decide)
        · exact i0 _ (by decide)
        · exact ⟨.list [.int 1], .inr (.inl ⟨L, [.int 1], [.int 1], rfl, rfl, aL, h1, .cons (Dq.flat (v := .int 1) (d := .int 1) rfl 1) .nil⟩), ⟨by decide +kernel, by decide +kernel, Nat.le_trans (by decide +kernel : _ ≤ 60) (by decide)⟩, fun y e => by cases e⟩
        · exact ⟨.tuple [.int 2], .inr (.inr (.inl ⟨U, [.int 2], [.int 2], rfl, rfl, aU, h2, .cons (Dq.flat (v := .int 2) (d := .int 2) rfl 1) .nil⟩)), ⟨by decide +kernel, by decide +kernel, Nat.le_trans (by decide +kernel : _ ≤ 60) (by decide)⟩, fun y e => by cases e⟩
        · exact i0 _ (by decide)
      refine ⟨_, rfl, ?_⟩
      refine ⟨_, rfl, p, _, 15, rfl, hp5, by omega, by decide, by decide, fun z1 H6 z0 z1' b6 hp6 => ?_⟩
      obtain ⟨lo, hlo, mlo⟩ := at_drawn z0 z1' (by rw [lx]; rfl)
      refine ⟨S, xs, _, _, rfl, rfl, SqL.of (b6 _ _ nSp eS), hlo, ?_⟩
      refine ⟨_, rfl, ?_⟩
      refine ⟨_, rfl, p, _, 15, rfl, hp6, by omega, by decide, by decide, fun z2 H7 z2' z2'' b7 hp7 => ?_⟩
      obtain ⟨tp, htp, mtp⟩ := at_drawn z2' z2'' (by rw [lx]; rfl)
      have b57 := b6.trans b7
      refine ⟨S, xs, _, _, rfl, rfl, SqL.of (b57 _ _ nSp eS), htp, ?_⟩
      refine ⟨by show 2 ≤ sizeLine; decide, fun W hW => ?_⟩
      refine ⟨W, _, rfl, SqT.of upd_same, rfl, ?_⟩
      have b58 := b57.trans (But.new hW (p := p) (o := .tup [lo, tp]))
      have hp8 := hp7.new hW (o := .tup [lo, tp])
      generalize upd H7 W (.tup [lo, tp]) = H8 at b58 hp8 ⊢
      refine ⟨lo, [tp], rfl, tp, [], rfl, rfl, ?_⟩
      -- cost
      refine ⟨_, rfl, ?_⟩
      refine ⟨_, _, rfl, rfl, ⟨by decide, by decide, by decide⟩, ?_⟩
      refine ⟨by show 12 ≤ sizeLine; decide, fun C hC => ?_⟩
      generalize hcs : [V.int 1, V.int 999, V.int 0, V.int 1000, (fun i => V.int (-i)) 1, V.bl true, V.non, V.str "1", V.int 5, V.int 5, V.int 7, (fun (i j : Int) => V.int (i ^ j.toNat)) 10 39] = cs
      refine ⟨_, rfl, p, _, 12, rfl, hp8.new hC, by omega, by decide, by decide, fun z3 H9 z3' z3'' b9 hp9 => ?_⟩
      obtain ⟨co, hco, mco, hs, b59⟩ := Pen.pick (K := K) (H0 := H5) hp8 hC b9 z3' z3'' (by rw [← hcs]; rfl) b58
      refine ⟨C, cs, _, co, rfl, rfl, hs, hco, ?_⟩
      have cost : ∀ H', ∃ d, Arg H' co d := by
        intro H'
        rw [← hcs] at mco
        simp only [List.mem_cons, List.not_mem_nil, or_false] at mco
        have i0 : ∀ i : Int, i.natAbs < 10 ^ 12 → ∃ d, Arg H' (.int i) d := fun i hi => ⟨.int i, Dq.flat (v := .int i) (d := .int i) rfl 2, (sh_int hi).up (by decide) (by decide), fun y e => by cases e⟩
        rcases mco with rfl | rfl | rfl | rfl | rfl | rfl | rfl | rfl | rfl | rfl | rfl | rfl
        · exact i0 _ (by decide)
        · exact i0 _ (by decide)
        · exact i0 _ (by decide)
        · exact i0 _ (by decide)
        · exact i0 _ (by decide)
        · exact ⟨.bool true, Dq.flat (v := .bl true) (d := .bool true) rfl 2, (sh_bool true).up (by decide) (by decide), fun y e => by cases e⟩
        · exact ⟨.none, Dq.flat (v := .non) (d := .none) rfl 2, sh_none.up (by decide) (by decide), fun y e => by cases e⟩
        · exact ⟨.str "1", Dq.flat (v := .str "1") (d := .str "1") rfl 2, (sh_str (L := 60) (by decide +kernel)).up (by decide) (by decide), fun y e => by cases e; exact Nat.le_trans (by decide +kernel : _ ≤ 60) (by decide)⟩
        · exact i0 _ (by decide)
        · exact i0 _ (by decide)
        · exact i0 _ (by decide)
        · exact ⟨.int (10 ^ 39), Dq.flat (v := .int (10 ^ 39)) (d := .int (10 ^ 39)) rfl 2, ⟨by decide +kernel, by decide +kernel, Nat.le_trans (by decide +kernel : _ ≤ 60) (by decide)⟩, fun y e => by cases e⟩
      -- nym
      refine ⟨fun σ' H' => ∃ (nm : V) (d1 d2 d3 d4 : PyData), σ' = [some (.ref sc), some (.ref p), some (.int (0 + (i : Int))), some (.ref S), some lo, some tp, some co, some nm, v8, v9, v10, v11] ∧
        T3 p t (Str.ofString "law" ++ ".<locals>." ++ "<lambda>") (i * 90 + 90) nm lo tp co d1 d2 d3 d4 H', ?_, ?_⟩
      · refine ⟨_, rfl, p, _, rfl, hp9, by omega, fun v d H10 b10 hp10 dq sh sl => ?_⟩
        have b510 := b59.trans b10
        have nLp : L ≠ p := hp5.ne eL (fun _ _ _ z => by cases z)
        have nUp : U ≠ p := hp5.ne eU (fun _ _ _ z => by cases z)
        obtain ⟨d2, a2⟩ := item lo mlo H10 (b510 _ _ nLp eL) (b510 _ _ nUp eU)
        obtain ⟨d3, a3⟩ := item tp mtp H10 (b510 _ _ nLp eL) (b510 _ _ nUp eU)
        obtain ⟨d4, a4⟩ := cost H10
        have sys9 := sys5.but b59 hp5
        refine ⟨v, d, d2, d3, d4, rfl, ⟨dq.imp (fun b hb => sys9.ne hb) (fun _ _ _ e => e) 2, sh, sl⟩, a2, a3, a4, hp10.mono (by omega), sys9.but b10 hp9, TabS.but (TabS.but tb5 b59 hp5) b10 hp9⟩
      · rintro σ' H9 ⟨nm, d1, d2, d3, d4, rfl, t9⟩
        generalize hQL : (Str.ofString "law" ++ ".<locals>." ++ "<lambda>" : Str) = QL at t9 ⊢
        -- good
        refine ⟨fun σ' H' => ∃ g : Bool, σ' = [some (.ref sc), some (.ref p), some (.int (0 + (i : Int))), some (.ref S), some lo, some tp, some co, some nm, some (.bl g), v9, v10, v11] ∧
          T3 p t QL (i * 90 + 90) nm lo tp co d1 d2 d3 d4 H' ∧ ((g = true ∧ ∃ x i j, nm = .str x ∧ nameB x = true ∧ lo = .int i ∧ tp = .int j ∧ i ≤ j) ∨ (g = false ∧ ∀ x i j, nm = .str x → nameB x = true → lo = .int i → tp = .int j → ¬ i ≤ j)), ?_, ?_⟩
        · refine tc_isn rfl t9.a1 fun H' S10 => ⟨_, rfl, ?_⟩
          have t10 := t9.same S10
          by_cases h1 : nameV nm = true
          case neg =>
            rw [Bool.eq_false_iff.mpr h1]
            exact iteF ⟨false, rfl, t10, .inr ⟨rfl, fun x i j e1 e2 => absurd (by rw [e1]; exact e2) h1⟩⟩
          rw [h1]
          refine iteT (tc_whl rfl t10.a2 ⟨_, rfl, ?_⟩)
          by_cases h2 : wholeV lo = true
          case neg =>
            rw [Bool.eq_false_iff.mpr h2]
            exact iteF ⟨false, rfl, t10, .inr ⟨rfl, fun x i j _ _ e3 => absurd (by rw [e3]; rfl) h2⟩⟩
          rw [h2]
          refine iteT (tc_whl rfl t10.a3 ⟨_, rfl, ?_⟩)
          by_cases h3 : wholeV tp = true
          case neg =>
            rw [Bool.eq_false_iff.mpr h3]
            exact iteF ⟨false, rfl, t10, .inr ⟨rfl, fun x i j _ _ _ e4 => absurd (by rw [e4]; rfl) h3⟩⟩
          rw [h3]
          obtain ⟨x, rfl, hx⟩ := nameV_true h1
          obtain ⟨i1, rfl⟩ := wholeV_true h2
          obtain ⟨i2, rfl⟩ := wholeV_true h3
          refine iteT ⟨_, rfl, _, rfl, _, _, rfl, rfl, ?_⟩
          refine ⟨decide (i1 ≤ i2), rfl, t10, ?_⟩
          by_cases h4 : i1 ≤ i2
          · exact .inl ⟨decide_eq_true h4, _, _, _, rfl, hx, rfl, rfl, h4⟩
          · refine .inr ⟨decide_eq_false h4, fun x i j _ _ e3 e4 => ?_⟩
            cases e3
            cases e4
            exact h4
        · rintro σ' H10 ⟨g, rfl, t10, hg⟩
          -- due
          refine tc_repr4 t10 rfl rfl rfl rfl fun H11 t11 => ?_
          refine ⟨fun σ' H' => ∃ ok : Bool, σ' = [some (.ref sc), some (.ref p), some (.int (0 + (i : Int))), some (.ref S), some lo, some tp, some co, some nm, some (.bl g), some (.str (PyData.tuple [d1, d2, d3, d4]).shown), some (.str (if ok = true then "" else "item")), v11] ∧
            T3 p t QL (i * 90 + 90) nm lo tp co d1 d2 d3 d4 H' ∧ ((ok = true ∧ ∃ x i j pr, Fits nm lo tp co x i j pr) ∨ (ok = false ∧ ∀ x i j pr, ¬ Fits nm lo tp co x i j pr)), ?_, ?_⟩
          · refine ⟨_, rfl, g, rfl, ?_⟩
            rcases hg with ⟨rfl, x, i1, i2, rfl, hx, rfl, rfl, hle⟩ | ⟨rfl, bad⟩
            case inr => exact iteF ⟨false, rfl, t11, .inr ⟨rfl, fun x i j pr f => bad x i j f.e1 f.nm f.e2 f.e3 f.le⟩⟩
            refine iteT (tc_whl rfl t11.a4 ⟨_, rfl, ?_⟩)
            by_cases h1 : wholeV co = true
            case neg =>
              rw [Bool.eq_false_iff.mpr h1]
              exact iteF ⟨false, rfl, t11, .inr ⟨rfl, fun x i j pr f => absurd (by rw [f.e4]; rfl) h1⟩⟩
            rw [h1]
            obtain ⟨pr, rfl⟩ := wholeV_true h1
            refine iteT ⟨_, rfl, _, _, rfl, rfl, _, rfl, ?_⟩
            by_cases p1 : 1 ≤ pr
            case neg =>
              rw [decide_eq_false p1]
              exact iteF ⟨_, rfl, iteF ⟨false, rfl, t11, .inr ⟨rfl, fun x i j pr' f => p1 (by have := V.int.inj f.e4; have := f.p1; omega)⟩⟩⟩
            rw [decide_eq_true p1]
            refine iteT ⟨_, _, rfl, rfl, _, rfl, ?_⟩
            by_cases p2 : pr ≤ 999
            case neg =>
              rw [decide_eq_false p2]
              exact iteF ⟨false, rfl, t11, .inr ⟨rfl, fun x i j pr' f => p2 (by have := V.int.inj f.e4; have := f.p2; omega)⟩⟩
            rw [decide_eq_true p2]
            exact iteT ⟨true, rfl, t11, .inl ⟨rfl, x, i1, i2, pr, rfl, rfl, rfl, rfl, hx, hle, p1, p2⟩⟩
          · rintro σ' H12 ⟨ok, rfl, t12, hF⟩
            -- the first word
            refine ⟨fun σ' H' => σ' = [some (.ref sc), some (.ref p), some (.int (0 + (i : Int))), some (.ref S), some lo, some tp, some co, some nm, some (.bl g), some (.str (PyData.tuple [d1, d2, d3, d4]).shown), some (.str (if ok = true then "" else "item")), v11] ∧
              T3 p t QL (i * 90 + 90) nm lo tp co d1 d2 d3 d4 H', ?_, ?_⟩
            · subst hQL
              refine word_make4 t12 rfl rfl rfl rfl hF fun H13 t13 => ?_
              refine ⟨_, rfl, rfl, _, rfl, ?_⟩
              rw [decide_eq_true rfl]
              exact iteF ⟨rfl, t13⟩
            · rintro σ' H13 ⟨rfl, t13⟩
              -- the second word
              refine ⟨fun σ' H' => σ' = [some (.ref sc), some (.ref p), some (.int (0 + (i : Int))), some (.ref S), some lo, some tp, some co, some nm, some (.bl g), some (.str (PyData.tuple [d1, d2, d3, d4]).shown), some (.str (if ok = true then "" else "item")), v11] ∧
                T3 p t QL (i * 90 + 90) nm lo tp co d1 d2 d3 d4 H', ?_, ?_⟩
              · subst hQL
                refine word_make3 (ok := g) t13 rfl rfl rfl ?_ fun H14 t14 => ?_
                · rcases hg with ⟨rfl, x, i1, i2, e1, hx, e2, e3, hle⟩ | ⟨rfl, bad⟩
                  · exact .inl ⟨rfl, x, i1, i2, 1, e1, e2, e3, rfl, hx, hle, by decide, by decide⟩
                  · exact .inr ⟨rfl, fun x i j pr f => bad x i j f.e1 f.nm f.e2 f.e3 f.le⟩
                · refine ⟨_, rfl, g, rfl, ?_⟩
                  cases g with
                  | true =>
                    refine iteT ⟨rfl, _, rfl, ?_⟩
                    rw [decide_eq_true (by rw [if_pos rfl])]
                    exact iteF ⟨rfl, t14⟩
                  | false =>
                    refine iteF ⟨rfl, _, rfl, ?_⟩
                    rw [decide_eq_true (by rw [if_neg (by decide)])]
                    exact iteF ⟨rfl, t14⟩
              · rintro σ' H14 ⟨rfl, t14⟩
                -- fine
                refine ⟨fun σ' H' => ∃ f : Bool, σ' = [some (.ref sc), some (.ref p), some (.int (0 + (i : Int))), some (.ref S), some lo, some tp, some co, some nm, some (.bl g), some (.str (PyData.tuple [d1, d2, d3, d4]).shown), some (.str (if ok = true then "" else "item")), some (.bl f)] ∧
                  T3 p t QL (i * 90 + 90) nm lo tp co d1 d2 d3 d4 H' ∧ ((f = true ∧ ∃ x i, nm = .str x ∧ lo = .int i ∧ nameB x = true) ∨ (f = false ∧ ∀ x i, nm = .str x → lo = .int i → nameB x = true → False)), ?_, ?_⟩
                · refine tc_isn rfl t14.a1 fun H' S15 => ⟨_, rfl, ?_⟩
                  have t15 := t14.same S15
                  by_cases h1 : nameV nm = true
                  case neg =>
                    rw [Bool.eq_false_iff.mpr h1]
                    exact iteF ⟨false, rfl, t15, .inr ⟨rfl, fun x i e1 _ e2 => h1 (by rw [e1]; exact e2)⟩⟩
                  rw [h1]
                  refine iteT (tc_whl rfl t15.a2 ⟨wholeV lo, rfl, t15, ?_⟩)
                  by_cases h2 : wholeV lo = true
                  · obtain ⟨x, e1, hx⟩ := nameV_true h1
                    obtain ⟨i1, e2⟩ := wholeV_true h2
                    exact .inl ⟨h2, x, i1, e1, e2, hx⟩
                  · exact .inr ⟨Bool.eq_false_iff.mpr h2, fun x i _ e3 _ => h2 (by rw [e3]; rfl)⟩
                · rintro σ' H15 ⟨f, rfl, t15, hf⟩
                  -- the third word
                  refine ⟨fun σ' H' => σ' = [some (.ref sc), some (.ref p), some (.int (0 + (i : Int))), some (.ref S), some lo, some tp, some co, some nm, some (.bl g), some (.str (PyData.tuple [d1, d2, d3, d4]).shown), some (.str (if ok = true then "" else "item")), some (.bl f)] ∧
                    T3 p t QL (i * 90 + 90) nm lo tp co d1 d2 d3 d4 H', ?_, ?_⟩
                  · subst hQL
                    refine word_exact (ok := f) t15 rfl rfl hf fun H16 t16 => ?_
                    refine ⟨_, rfl, f, rfl, ?_⟩
                    cases f with
                    | true =>
                      refine iteT ⟨rfl, _, rfl, ?_⟩
                      rw [decide_eq_true (by rw [if_pos rfl])]
                      exact iteF ⟨rfl, t16⟩
                    | false =>
                      refine iteF ⟨rfl, _, rfl, ?_⟩
                      rw [decide_eq_true (by rw [if_neg (by decide)])]
                      exact iteF ⟨rfl, t16⟩
                  · rintro σ' H16 ⟨rfl, t16⟩
                    -- is_name
                    refine ⟨fun σ' H' => σ' = [some (.ref sc), some (.ref p), some (.int (0 + (i : Int))), some (.ref S), some lo, some tp, some co, some nm, some (.bl g), some (.str (PyData.tuple [d1, d2, d3, d4]).shown), some (.str (if ok = true then "" else "item")), some (.bl f)] ∧
                      T3 p t QL (i * 90 + 90) nm lo tp co d1 d2 d3 d4 H', ?_, ?_⟩
                    · refine tc_rp2 rfl t16.a1 fun H17 S17 => ?_
                      have t17 := t16.same S17
                      refine tc_rp1 rfl t17.a1 fun H18 S18 => ?_
                      have t18 := t17.same S18
                      refine ⟨rfl, _, rfl, ?_⟩
                      rw [decide_eq_true rfl]
                      refine iteF (tc_repr4 t18 rfl rfl rfl rfl fun H19 t19 => ?_)
                      refine ⟨_, rfl, rfl, _, rfl, ?_⟩
                      rw [decide_eq_true rfl]
                      exact iteF ⟨rfl, t19⟩
                    · rintro σ' H17 ⟨rfl, t17⟩
                      refine tc_rp3 rfl (fun H' S18 => (t17.same S18).a1) fun H18 S18 => ?_
                      have t18 := t17.same S18
                      refine tc_rp1 rfl t18.a1 fun H19 S19 => ?_
                      have t19 := t18.same S19
                      refine ⟨rfl, _, rfl, ?_⟩
                      rw [decide_eq_true rfl]
                      refine iteF ?_
                      subst hQL
                      exact ⟨_, _, _, _, _, _, _, _, _, _, rfl, t19.pen.mono (by omega), t19.sys, t19.tab⟩
    · rintro σ H2 ⟨v2, v3, v4, v5, v6, v7, v8, v9, v10, v11, rfl, hp2, sys2, tb2⟩
      exact k H2
end
section
/-- where the law stands in the written part -/
def LawAt (K : PySem.W.Frag) (mg : Str → Option Value) (f : Addr) : Prop := ∃ (oc kV doc pm ct : Value) (od an : Option Addr) (osl : Array (Option Value)) (c t : Addr) (oC : Obj) (vs : Array Value),
  mg "law" = some (.ref f) ∧ K.lookup f = some ⟨oc, od, .func (PySem.W.fnOf "law" "law" (defArgs s_law) (defBody s_law) (defScope s_law) .none kV doc pm an (.ref c) ct), osl⟩ ∧
  PySem.W.codeIn K (.ref c) "law" = true ∧ K.lookup c = some oC ∧ oC.data = .fields vs ∧ vs[11]? = some (.ref t) ∧ K.lookup t = none
theorem law_at {K : PySem.W.Frag} {h : Heap} {mg : Str → Option Value} (X : K.In h) (G : h.Ns mainGlobals mg) {f c t : Addr} {oc kV doc pm ct oc2 : Value} {od an od2 : Option Addr} {osl sl2 : Array (Option Value)} {vs : Array Value}
    (a : PySem.W.nsIn K mainGlobals "law" = some (some (.ref f))) (l : K.lookup f = some ⟨oc, od, .func (PySem.W.fnOf "law" "law" (defArgs s_law) (defBody s_law) (defScope s_law) .none kV doc pm an (.ref c) ct), osl⟩)
    (cd : PySem.W.codeIn K (.ref c) "law" = true) (lc : K.lookup c = some ⟨oc2, od2, .fields vs, sl2⟩) (v : vs[11]? = some (.ref t)) (nt : K.lookup t = none) : ∃ f, LawAt K mg f :=
  ⟨f, oc, kV, doc, pm, ct, od, an, osl, c, t, _, vs, PySem.W.mg_of X G a, l, cd, lc, rfl, v, nt⟩
theorem law_all {K : Params → PySem.W.Frag} {w : World} {mg : Str → Option Value} {fa f : Addr} {a : Ad} (T : Txt (K w.params) mg a) (L : LawAt (K w.params) mg f) (hmg : mg "law" = some (.ref fa)) :
    ∃ (fd : FuncData) (c t : Addr) (oF oC : Obj) (vs : Array Value), (K w.params).lookup fa = some oF ∧ oF.data = .func fd ∧ fd.code = .ref c ∧
        (K w.params).lookup c = some oC ∧ oC.data = .fields vs ∧ vs[11]? = some (.ref t) ∧ (K w.params).lookup t = none ∧
        (∀ (s : Shared) (u : Value), BindsTo s fd ⟨[u], []⟩ [("script", u)]) ∧
        ∀ base : Heap, (K w.params).In base → base.Ns mainGlobals mg → LamX.TabB base mg c t →
          GOk PK3 w (K w.params) mg base CX0 10 fa fd ["script"] (spLawT (K w.params) t) := by
  obtain ⟨oc, kV, doc, pm, ct, od, an, osl, c, t, oC, vs, m, l, cd, lc, ed, v, nt⟩ := L
  cases hmg.symm.trans m
  have e : a.f_law = fa := by
    have z := T.g_law.symm.trans hmg
    cases z
    rfl
  refine ⟨_, c, t, _, oC, vs, l, rfl, rfl, lc, ed, v, nt, fun s u => .of_eq rfl, fun base _ _ TB => ?_⟩
  have z := ok_law (w := w) (base := base) T TB (by rw [e]; exact l) cd
  rw [e] at z
  exact z
end
end Ask

open PySem PySem.W PyProof.Rows
set_option Elab.async false
set_option linter.all false
set_option maxRecDepth 100000
set_option maxHeartbeats 0
theorem PySem.Challenge.cw_askranges_k03_invalid_items_holds : PySem.Challenge.rw_askranges_k03_invalid_items.Holds := by
  w_on; o_law; k_head; (case hw => w_witness2)
  k_fill
  refine Ask.walk_lawT2 (l := PySem.Challenge.rw_askranges_k03_invalid_items) (k := 10) rfl rfl ⟨rfl, by decide, by decide⟩ rfl ?hd ?hk1 (fun w h Y => PySem.W.km_in_of Y) ?F
  case hk1 => exact fun _ => rfl
  case hd => exact List.mem_of_find?_eq_some (p := fun r => r.name == (Str.ofString "law")) (by rfl)
  case F =>
    intro w mg fa h KX G hmg
    obtain ⟨a, T⟩ : ∃ a, Ask.Txt _ mg a := by
      refine' Ask.txt_get KX G ?a11 ?l12 ?c13 ?k14 ?a25 ?l26 ?c27 ?k28 ?a30 ?pg31 ?hd32 ?po33 ?sa34 ?rd35 ?ga36 ?fa38 ?gt39 ?cv40 ?a51 ?i52 ?mk53 ?kc54 ?l55 ?c56 ?k57 ?q59 ?a72 ?rc73 ?l74 ?c75 ?k76 ?fi77 ?pg78 ?ic79 ?a80 ?ty81 ?gt82 ?tk83 ?a96 ?rc97 ?l98 ?c99 ?k100 ?pg101 ?ic102 ?a103 ?ty104 ?gt105 ?tk106 ?a119 ?gt120 ?tk121 ?rc122 ?l123 ?c124 ?k125 ?a138 ?gt139 ?tk140 ?rc141 ?l142 ?c143 ?k144 ?a157 ?gt158 ?tk159 ?rc160 ?l161 ?c162 ?k163 ?a176 ?gt177 ?tk178 ?rc179 ?l180 ?c181 ?k182 ?a195 ?gt196 ?tk197 ?rc198 ?l199 ?c200 ?k201 ?a214 ?gt215 ?tk216 ?rc217 ?l218 ?c219 ?k220 ?a231 ?i232 ?l233 ?c234 ?k235 ?lc252 ?no253 ?ee254 ?en255 ?na256 ?na257 ?na258 ?na259 ?ha260 ?hn261 ?ht262 ?hm263 ?kt264 ?kd265 ?a276 ?l277 ?c278 ?k279 ?a290 ?l291 ?c292 ?k293 ?a304 ?l305 ?c306 ?k307 ?a318 ?l319 ?c320 ?k321 ?a332 ?l333 ?c334 ?k335 ?a346 ?l347 ?c348 ?k349 ?a360 ?l361 ?c362 ?k363 ?a374 ?l375 ?c376 ?k377 ?a388 ?l389 ?c390 ?k391 ?a393 ?bx394 ?ic395 ?ty396 ?ss397 ?hg398 ?hk399 ?hd400 ?ha401 ?hn402 ?ht403 ?hm404 ?kp405 ?ei406 ?a408 ?bx409 ?ic410 ?ty411 ?ss412 ?hg413 ?hk414 ?hd415 ?ha416 ?hn417 ?ht418 ?hm419 ?kp420 ?sb421 ?ei422 ?a424 ?z425 ?z426 ?z427 ?z428 ?z429 ?z430 ?z431 ?z432 ?z433 ?z434 ?z435
      (case a11 => k_is)
      (case l12 => k_is)
      (case c13 => k_is)
      (case k14 => k_is)
      (case a25 => k_is)
      (case l26 => k_is)
      (case c27 => k_is)
      (case k28 => k_is)
      (case a30 => k_is)
      (case pg31 => k_is)
      (case hd32 => k_is)
      (case po33 => k_is)
      (case sa34 => k_is)
      (case rd35 => k_is)
      (case ga36 => k_is)
      (case fa38 => k_is)
      (case gt39 => k_is)
      (case cv40 => k_is)
      (case a51 => k_is)
      (case i52 => k_is)
      (case mk53 => k_is)
      (case kc54 => k_is)
      (case l55 => k_is)
      (case c56 => k_is)
      (case k57 => k_is)
      (case q59 => k_is)
      (case a72 => k_is)
      (case rc73 => k_is)
      (case l74 => k_is)
      (case c75 => k_is)
      (case k76 => k_is)
      (case fi77 => k_is)
      (case pg78 => k_is)
      (case ic79 => k_is)
      (case a80 => k_is)
      (case ty81 => k_is)
      (case gt82 => k_is)
      (case tk83 => k_is)
      (case a96 => k_is)
      (case rc97 => k_is)
      (case l98 => k_is)
      (case c99 => k_is)
      (case k100 => k_is)
      (case pg101 => k_is)
      (case ic102 => k_is)
      (case a103 => k_is)
      (case ty104 => k_is)
      (case gt105 => k_is)
      (case tk106 => k_is)
      (case a119 => k_is)
      (case gt120 => k_is)
      (case tk121 => k_is)
      (case rc122 => k_is)
      (case l123 => k_is)
      (case c124 => k_is)
      (case k125 => k_is)
      (case a138 => k_is)
      (case gt139 => k_is)
      (case tk140 => k_is)
      (case rc141 => k_is)
      (case l142 => k_is)
      (case c143 => k_is)
      (case k144 => k_is)
      (case a157 => k_is)
      (case gt158 => k_is)
      (case tk159 => k_is)
      (case rc160 => k_is)
      (case l161 => k_is)
      (case c162 => k_is)
      (case k163 => k_is)
      (case a176 => k_is)
      (case gt177 => k_is)
      (case tk178 => k_is)
      (case rc179 => k_is)
      (case l180 => k_is)
      (case c181 => k_is)
      (case k182 => k_is)
      (case a195 => k_is)
      (case gt196 => k_is)
      (case tk197 => k_is)
      (case rc198 => k_is)
      (case l199 => k_is)
      (case c200 => k_is)
      (case k201 => k_is)
      (case a214 => k_is)
      (case gt215 => k_is)
      (case tk216 => k_is)
      (case rc217 => k_is)
      (case l218 => k_is)
      (case c219 => k_is)
      (case k220 => k_is)
      (case a231 => k_is)
      (case i232 => k_is)
      (case l233 => k_is)
      (case c234 => k_is)
      (case k235 => k_is)
      (case lc252 => k_is)
      (case no253 => exact Ask.nsOk_of (by k_is) (by rfl))
      (case ee254 => k_is)
      (case en255 => k_is)
      (case na256 => k_is)
      (case na257 => k_is)
      (case na258 => k_is)
      (case na259 => k_is)
      (case ha260 => k_is)
      (case hn261 => k_is)
      (case ht262 => k_is)
      (case hm263 => k_is)
      (case kt264 => (intro t ht; simp only [Ask.kinds, List.mem_cons, List.not_mem_nil, or_false] at ht; rcases ht with rfl | rfl | rfl | rfl | rfl | rfl | rfl <;> exact Ask.kit_not (by k_is) (by k_is) (by k_is)))
      (case kd265 => (intro t ht; simp only [Ask.kinds, List.mem_cons, List.not_mem_nil, or_false] at ht; rcases ht with rfl | rfl | rfl | rfl | rfl | rfl | rfl <;> k_is))
      (case a276 => k_is)
      (case l277 => k_is)
      (case c278 => k_is)
      (case k279 => k_is)
      (case a290 => k_is)
      (case l291 => k_is)
      (case c292 => k_is)
      (case k293 => k_is)
      (case a304 => k_is)
      (case l305 => k_is)
      (case c306 => k_is)
      (case k307 => k_is)
      (case a318 => k_is)
      (case l319 => k_is)
      (case c320 => k_is)
      (case k321 => k_is)
      (case a332 => k_is)
      (case l333 => k_is)
      (case c334 => k_is)
      (case k335 => k_is)
      (case a346 => k_is)
      (case l347 => k_is)
      (case c348 => k_is)
      (case k349 => k_is)
      (case a360 => k_is)
      (case l361 => k_is)
      (case c362 => k_is)
      (case k363 => k_is)
      (case a374 => k_is)
      (case l375 => k_is)
      (case c376 => k_is)
      (case k377 => k_is)
      (case a388 => k_is)
      (case l389 => k_is)
      (case c390 => k_is)
      (case k391 => k_is)
      (case a393 => k_is)
      (case bx394 => k_is)
      (case ic395 => k_is)
      (case ty396 => k_is)
      (case ss397 => k_is)
      (case hg398 => k_is)
      (case hk399 => k_is)
      (case hd400 => k_is)
      (case ha401 => k_is)
      (case hn402 => k_is)
      (case ht403 => k_is)
      (case hm404 => k_is)
      (case kp405 => k_is)
      (case ei406 => (first | k_exc | k_is))
      (case a408 => k_is)
      (case bx409 => k_is)
      (case ic410 => k_is)
      (case ty411 => k_is)
      (case ss412 => k_is)
      (case hg413 => k_is)
      (case hk414 => k_is)
      (case hd415 => k_is)
      (case ha416 => k_is)
      (case hn417 => k_is)
      (case ht418 => k_is)
      (case hm419 => k_is)
      (case kp420 => k_is)
      (case sb421 => k_is)
      (case ei422 => (first | k_exc | k_is))
      (case a424 => k_is)
      (case z425 => k_is)
      (case z426 => k_is)
      (case z427 => k_is)
      (case z428 => k_is)
      (case z429 => k_is)
      (case z430 => k_is)
      (case z431 => k_is)
      (case z432 => k_is)
      (case z433 => k_is)
      (case z434 => k_is)
      (case z435 => k_is)
    obtain ⟨f, L⟩ : ∃ f, Ask.LawAt _ mg f := by
      refine' Ask.law_at KX G ?a1 ?l1 ?c1 ?lc1 ?v1 ?nt1
      (case a1 => k_is)
      (case l1 => k_is)
      (case c1 => k_is)
      (case lc1 => k_is)
      (case v1 => rfl)
      (case nt1 => first | k_is | rfl)
    exact Ask.law_all T L hmg

