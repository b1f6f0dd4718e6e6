import PyProof.Rows.All
import Wide.All
import OpenK.AllK
import Wide.FinOn
import HandS.ForMost
import HandS.Wide
import PyProof.ReprRoads
import HandS.Property
import HandS.ClsMeth
import HandS.MakeKwOnly
import HandS.IsInst
import HandS.Evl
import HandS.Style
import HandS.Walk
import PyProof.InstNe
import HandS.Defaults
import PyProof.ReprLen
import PySem.Challenge.RW_askranges_k05_pairs_of_items
set_option Elab.async false
set_option linter.all false
set_option maxRecDepth 100000
set_option maxHeartbeats 2000000
/-! repr of data -/
namespace Ask
open PySem L2
open PyProof.Rows

/-- repr(x), x any data without a dict in it -/
def rRepr (K : PySem.W.Frag) : List V → Hp → VK → Prop := fun xs H Q =>
  ∃ (v : V) (d : PyData), xs = [v] ∧ Dp K H v d ∧ d.showable = true ∧ d.hasDict = false ∧ d.depth ≤ 60 ∧ d.shown.length ≤ sizeLine ∧ Q (.str d.shown) H
theorem cr_repr {X : Cx} (hg : X.A.guards = some []) (hu : X.A.units + 64 < cLine) :
    CallR X (.builtin "repr") (rRepr X.K) := by
  intro pins s σ H xs us Q I r h
  obtain ⟨v, d, rfl, hd, h1, h2, h3, h4, q⟩ := h
  obtain ⟨u, rfl, rx⟩ := vals1 r
  obtain ⟨as, rd⟩ := Dp.reads I d v u hd rx
  cases hd with
  | non =>
    cases rx
    exact P.repr_of_none ⟨.str _, H, I.tok _, ⟨_, rfl⟩, q⟩
  | bl b =>
    cases rx
    exact P.repr_of_bool ⟨.str _, H, I.tok _, ⟨_, rfl⟩, by cases b <;> exact q⟩
  | int i =>
    obtain ⟨t, rfl⟩ := rx
    have hz : i.natAbs.log2 < 1920 := by
      simpa [PyData.showable] using h1
    exact P.repr_of_int hz ⟨.str _, H, I.tok _, ⟨_, rfl⟩, q⟩
  | str x =>
    obtain ⟨t, rfl⟩ := rx
    exact P.repr_of_str ⟨.str _, H, I.tok _, ⟨_, rfl⟩, q⟩ h4
  | lst a b =>
    cases rx
    refine repr_of_reads' rd h1 (fun z => by rw [h2] at z; cases z) hg (by omega) (fun _ _ e => e) (fun h' u tk hk => ?_) h4
    exact ⟨.str _, H, I.kept hk, ⟨_, rfl⟩, q⟩
  | tup a b =>
    cases rx
    refine repr_of_reads' rd h1 (fun z => by rw [h2] at z; cases z) hg (by omega) (fun _ _ e => e) (fun h' u tk hk => ?_) h4
    exact ⟨.str _, H, I.kept hk, ⟨_, rfl⟩, q⟩
end Ask

set_option Elab.async false
set_option linter.all false
set_option maxRecDepth 100000
set_option maxHeartbeats 2000000
/-! the law's own def: run where no repr is under way -/
namespace Ask
open PySem L2
open PyProof.Rows

/-- a promise kept at calls around which no repr is under way -/
structure GOk (P : Program) (w : World) (K : PySem.W.Frag) (mg : Str → Option Value)
    (base : Heap) (CX : CXT) (k : Nat) (f : Addr) (fd : FuncData) (ps : List Str) (sp : Sp) : Prop where
  len : ∀ vs H Q E, sp vs H Q E → vs.length = ps.length
  run : ∀ (A : Around) (outer : List Env) (s : Shared) (H : Hp) (args : Args)
    (us : List Value) (vs : List V) (Q : VK) (E : XK), Room k A → A.guards = some [] →
    Env0 P w K mg base A outer s H → BindsTo s fd args (ps.zip us) → Vals vs us → sp vs H Q E →
    codeAny (model P w) A (.call (.ref f) args) (CR CX outer P w H s Q E) s

/-- such a def by its body -/
theorem gok_of {CX : CXT} {P : Program} {w : World} {K : PySem.W.Frag} {mg : Str → Option Value}
    {base : Heap} {k : Nat} {f : Addr} {name qual : Str} {params : Arguments} {body : List Stmt}
    {scope : Scope} {dV kV doc pm cdv ct oc : Value} {an od : Option Addr} {osl : Array (Option Value)}
    {N ps : List Str} {sp : Sp}
    (lk : K.lookup f = some ⟨oc, od, .func (PySem.W.fnOf name qual params body scope dV kV doc pm an cdv ct), osl⟩)
    (hcd : PySem.W.codeIn K cdv qual = true) (S : FnScope N ps scope)
    (len : ∀ vs H Q E, sp vs H Q E → vs.length = ps.length)
    (hbody : ∀ (A : Around) (outer : List Env) (s : Shared) (H : Hp) (vs : List V) (Q : VK) (E : XK),
      Room k (A.deeper (envOfC qual scope s.heap.objs.size f cdv)) →
      (A.deeper (envOfC qual scope s.heap.objs.size f cdv)).guards = some [] → sp vs H Q E →
      ∃ t, PSs (cxOf CX P w K mg base N qual scope f cdv A outer s H E) body t ∧
        t { nx := fun _ H' => Q .non H', rt := Q } (start N vs) H) :
    GOk P w K mg base CX (k + 1) f
      (PySem.W.fnOf name qual params body scope dV kV doc pm an cdv ct) ps sp where
  len := len
  run := by
    intro A outer s H args us vs Q E hr hgd e0 hb r hsp
    have hl := len _ _ _ _ hsp
    have KX : K.In s.heap := e0.mod.kin.keeps fun b o e => (e0.bs b o e).1
    have lim := e0.mod.nolimit.keeps fun b o e => (e0.bs b o e).1
    refine codeAny_call_function hr.depth (KX _ _ lk) rfl S.co S.gen rfl
      (PySem.W.codeRec_of KX hcd) (hb _ _ _ _ ?_)
    refine wpAny_newFunctionEnv_cells S.kind (fun ⟨n, v⟩ hy => ?_) fun env he s1 x => ?_
    · rcases S.par n (List.of_mem_zip hy).1 with q | q
      · exact Or.inl q
      · exact Or.inr ⟨q, PySem.W.cellsFrom_some _ _ _ (Or.inl q)⟩
    subst he
    refine ⟨lim.keeps x.toInCall.keep, codeAny_func ?_⟩
    obtain ⟨t, ht, hq⟩ := hbody A outer s H vs Q E (hr.deeper _) hgd hsp
    have I := inv_start (CX := CX) (mg := mg) (base := base) (w := w) (E := E) S hr.hd e0 hl r x
    refine wpAny_mono (ht.run [] s1 (start N vs) H _ I hq) (fun fl s' hs => ?_) fun e s' hs => hs
    cases fl with
    | ret u =>
      obtain ⟨v, σ', H', J, rv, q⟩ := hs
      exact ⟨v, H', J.os, J.bare, J.base, J.hok, rv, q⟩
    | next =>
      obtain ⟨σ', H', J, q⟩ := hs
      exact ⟨V.non, H', J.os, J.bare, J.base, J.hok, rfl, q⟩
    | brk => exact hs.elim fun _ z => z.elim fun _ y => y.2.elim
    | cont => exact hs.elim fun _ z => z.elim fun _ y => y.2.elim

/-- the same by the text's own words -/
theorem gok_fun {P : Program} {w : World} {K : PySem.W.Frag} {mg : Str → Option Value} {base : Heap}
    {CX : CXT} {x qual : Str} {st : Stmt} {f : Addr} {fd : FuncData} {N ps : List Str} {k : Nat} {sp : Sp}
    (F : Fun K x qual st f fd) (S : FnScope N ps (defScope st))
    (len : ∀ vs H Q E, sp vs H Q E → vs.length = ps.length)
    (hbody : ∀ (cdv : Value) (A : Around) (outer : List Env) (s : Shared) (H : Hp) (vs : List V) (Q : VK) (E : XK),
      Room k (A.deeper (envOfC qual (defScope st) s.heap.objs.size f cdv)) →
      (A.deeper (envOfC qual (defScope st) s.heap.objs.size f cdv)).guards = some [] → sp vs H Q E →
      ∃ t, PSs (cxOf CX P w K mg base N qual (defScope st) f cdv A outer s H E).nox (defBody st) t ∧
        t { nx := fun _ H' => Q .non H', rt := Q } (start N vs) H) :
    GOk P w K mg base CX (k + 1) f fd ps sp := by
  obtain ⟨oc, od, kV, doc, pm, an, cdv, ct, osl, rfl, lk, hcd⟩ := F.ex
  refine gok_of lk hcd S len fun A outer s H vs Q E hr hg hsp => ?_
  obtain ⟨t, h, q⟩ := hbody cdv A outer s H vs Q E hr hg hsp
  exact ⟨t, PSs.nox h, q⟩

/-- what of a heap the law's call sees: the script alone -/
def seen (K : PySem.W.Frag) (a : Addr) (vs : List Value) (ns : List Int) : Hp := fun b =>
  match K.lookup a with
  | some _ => none
  | none => if b = a then some (.frz { cls := .type "list", data := .seq vs.toArray } (.lst (ns.map V.int))) else none

theorem law_go {P : Program} {w : World} {K : PySem.W.Frag} {mg mb : Str → Option Value} {k : Nat}
    {fa a : Addr} {fd : FuncData} {x : Str} {sp : Sp} {s₁ : Shared} {vs : List Value} {ns : List Int}
    (KX : K.In s₁.heap) (hns : s₁.heap.Ns mainGlobals mg) (hb : s₁.heap.Ns builtinsNs mb)
    (hbb : ∀ x : Str, x ≠ "__name__" → mb x = bootBuiltins x) (hlim : s₁.heap.NoLimit) (hg : s₁.gens = #[])
    (ha : s₁.heap.get? a = some { cls := .type "list", data := .seq vs.toArray }) (hi : IntsAre vs ns)
    (hl : ns.length ≤ sizeLine) (hr : Room k callerA)
    (F : ∀ base : Heap, K.In base → base.Ns mainGlobals mg → GOk P w K mg base CX0 k fa fd [x] sp)
    (hbind : ∀ (s : Shared) (u : Value), BindsTo s fd ⟨[u], []⟩ [(x, u)])
    (hsp : ∀ H : Hp, Only H → SqL K H a (ns.map V.int) → sp [.ref a] H (fun v _ => v = .bl true) fun _ _ _ => False) :
    codeAny (model P w) callerA (.call (.ref fa) ⟨[.ref a], []⟩)
      (fun r s' => r = .ok (.ret (.bool true)) ∧ OldK s₁.heap s'.heap ∧ s'.os = s₁.os ∧ AllBare s'.gens) s₁ := by
  have rv := vals_ints hi
  have lenV := hi.length
  have hA : ∀ b u, seen K a vs ns b = some u → b = a ∧ K.lookup a = none ∧
      u = .frz { cls := .type "list", data := .seq vs.toArray } (.lst (ns.map V.int)) := by
    intro b u e
    unfold seen at e
    cases q : K.lookup a with
    | some o =>
      rw [q] at e
      cases e
    | none =>
      rw [q] at e
      by_cases hb : b = a
      · have e2 := (if_pos hb).symm.trans e
        exact ⟨hb, rfl, (Option.some.inj e2).symm⟩
      · have e2 := (if_neg hb).symm.trans e
        cases e2
  have hO : Only (seen K a vs ns) := fun b => by
    cases q : seen K a vs ns b with
    | none => exact Or.inl rfl
    | some u =>
      obtain ⟨_, _, e⟩ := hA b u q
      exact Or.inr ⟨_, _, by rw [e]⟩
  have hS : SqL K (seen K a vs ns) a (ns.map V.int) := by
    cases q : K.lookup a with
    | some o =>
      have e := KX a o q
      rw [ha] at e
      cases e
      exact Or.inr ⟨_, vs.toArray, _, q, rfl, rfl, rfl, by rw [List.size_toArray, lenV]; exact hl, by simpa using rv⟩
    | none =>
      refine Or.inl (Or.inr ⟨{ cls := .type "list", data := .seq vs.toArray }, ?_⟩)
      unfold seen
      rw [q]
      exact if_pos rfl
  have hok : HOk P w (seen K a vs ns) s₁.heap := fun b u e => by
    obtain ⟨rfl, _, rfl⟩ := hA b u e
    exact ⟨ha, by rw [List.length_map]; exact hl, vs, _, rv, ha⟩
  have inH : ∀ {b : Addr} {o : Obj}, s₁.heap.get? b = some o → seen K a vs ns b = none →
      (hidT s₁.heap (seen K a vs ns)).get? b = some o := fun e n => hidT_get e n
  have noD : ∀ {b : Addr} {o : Obj} {es : Array DictEntry} {ep : Nat}, s₁.heap.get? b = some o →
      o.data = .dict es ep → seen K a vs ns b = none := by
    intro b o es ep e d
    cases q : seen K a vs ns b with
    | none => rfl
    | some u =>
      obtain ⟨rfl, _, _⟩ := hA b u q
      rw [ha] at e
      cases e
      cases (show Data.seq vs.toArray _ = Data.dict es ep from d)
  have nsH : ∀ {b : Addr} {m : Str → Option Value}, s₁.heap.Ns b m → (hidT s₁.heap (seen K a vs ns)).Ns b m := by
    intro b m ⟨o, es, ep, e, d, r⟩
    exact ⟨o, es, ep, inH e (noD e d), d, r⟩
  have kH : K.In (hidT s₁.heap (seen K a vs ns)) := by
    intro b o e
    refine inH (KX b o e) ?_
    cases q : seen K a vs ns b with
    | none => rfl
    | some u =>
      obtain ⟨rfl, z, _⟩ := hA b u q
      rw [z] at e
      cases e
  have limH : (hidT s₁.heap (seen K a vs ns)).NoLimit := by
    obtain ⟨mc, h1, h2⟩ := hlim
    exact ⟨mc, nsH h1, h2⟩
  have e0 : Env0 P w K mg (hidT s₁.heap (seen K a vs ns)) callerA [] s₁ (seen K a vs ns) := {
    frames := rfl
    mod := ⟨kH, nsH hns, ⟨mb, nsH hb, hbb⟩, limH⟩
    bs := fun b o e => of_hidT e
    bsz := Nat.le_of_eq (hidT_size _ _)
    funs := trivial
    frf := fun b hb => absurd (show b ∈ ([] : List Addr) from hb) (by simp)
    hok := hok
    bare := .of_eq hg }
  have run := (F _ kH (nsH hns)).run callerA [] s₁ (seen K a vs ns) ⟨[.ref a], []⟩ [.ref a] [.ref a]
    _ _ hr rfl e0 (hbind s₁ (.ref a)) (.cons rfl .nil) (hsp _ hO hS)
  refine codeAny_mono run fun r s' h => ?_
  cases r with
  | error e => exact False.elim h
  | ok fl =>
    cases fl with
    | next => exact False.elim h
    | brk => exact False.elim h
    | cont => exact False.elim h
    | ret u =>
      obtain ⟨v, H', os, bare, un, hok', r', q⟩ := h
      obtain rfl : v = V.bl true := q
      obtain rfl : u = Value.bool true := r'
      refine ⟨rfl, OldK.of_keep fun b o e => ?_, os, bare⟩
      cases q : seen K a vs ns b with
      | none => exact un.keep b o e q (fun z => nomatch z) (fun z => nomatch z)
      | some u =>
        obtain ⟨_, _, rfl⟩ := hA b u q
        obtain ⟨e1, _⟩ := hok b _ q
        obtain ⟨e2, _⟩ := hok' b _ (un.frzs b _ _ q)
        rw [e] at e1
        cases e1
        exact e2

/-- the goal that the head leaves, from the law's promise -/
theorem walk_go {l : PySem.W.OpenLaw} {n k : Nat} {q : Program} {loose : List Str}
    {XP : (Str → Option Value) → Heap → Prop} {YP : World → Heap → Prop} {d : DefRec}
    {K : Params → PySem.W.Frag} {sp : World → Sp} {x : Str} (hn : l.most = some n) (hn2 : n ≤ sizeLine)
    (hdf : d.params.defaults = []) (hr : Room k callerA)
    (hY : ∀ (w : World) (h : Heap), YP w h → (K w.params).In h)
    (F : ∀ (w : World) (mg : Str → Option Value) (fa : Addr) (h : Heap), (K w.params).In h →
      h.Ns mainGlobals mg → mg d.name = some (.ref fa) →
      ∃ fd : FuncData, (∀ (s : Shared) (u : Value), BindsTo s fd ⟨[u], []⟩ [(x, u)]) ∧
        ∀ base : Heap, (K w.params).In base → base.Ns mainGlobals mg →
          GOk l.prog w (K w.params) mg base CX0 k fa fd [x] (sp w))
    (hsp : ∀ (w : World) (H : Hp) (a : Addr) (ns : List Int), ns.length ≤ n → Only H →
      SqL (K w.params) H a (ns.map V.int) → sp w [.ref a] H (fun v _ => v = .bl true) fun _ _ _ => False) :
    PySem.W.WalkO q loose XP YP l.row.toRowW d [] (fun f vs => PySem.call f vs) := by
  refine Att.attach_call hn hdf ?_
  intro w s₀ s₁ mg mb fa o pm cd doc a vs ns G Y ho hd hcd hmg hobj hints hlen hg
  have KX := hY w _ Y
  obtain ⟨fd, hb, hF⟩ := F w mg fa _ KX G.T.g hmg
  exact law_go KX G.T.g G.T.b G.T.builtins G.T.nolimit hg hobj hints (Nat.le_trans hlen hn2) hr hF hb
    fun H hO hS => hsp w H a ns hlen hO hS
/-- what a law promises: True, whatever the script -/
def spLaw (K : PySem.W.Frag) : Sp := fun vs H Q _ => ∃ (s : Addr) (ns : List Int), vs = [.ref s] ∧
  SqL K H s (ns.map V.int) ∧ ns.length ≤ 63 ∧ ∀ H', Q (.bl true) H'
/-- the goal that the head leaves, from such a def -/
theorem walk_law {l : PySem.W.OpenLaw} {k : Nat} {q : Program} {loose : List Str}
    {XP : (Str → Option Value) → Heap → Prop} {YP : World → Heap → Prop} {d : DefRec}
    {K : Params → PySem.W.Frag} (hn : l.most = some 63) (hdf : d.params.defaults = []) (hr : Room k callerA)
    (hY : ∀ (w : World) (h : Heap), YP w h → (K w.params).In h)
    (F : ∀ (w : World) (mg : Str → Option Value) (fa : Addr) (h : Heap), (K w.params).In h →
      h.Ns mainGlobals mg → mg d.name = some (.ref fa) →
      ∃ fd : FuncData, (∀ (s : Shared) (u : Value), BindsTo s fd ⟨[u], []⟩ [("script", u)]) ∧
        ∀ base : Heap, (K w.params).In base → base.Ns mainGlobals mg →
          GOk l.prog w (K w.params) mg base CX0 k fa fd ["script"] (spLaw (K w.params))) :
    PySem.W.WalkO q loose XP YP l.row.toRowW d [] (fun f vs => PySem.call f vs) :=
  walk_go (n := 63) (k := k) (x := "script") (sp := fun w => spLaw (K w.params)) hn (by decide) hdf hr hY F
    fun w H a ns hl _ hS => ⟨a, ns, rfl, hS, hl, fun _ => rfl⟩
/-- how the law's one argument binds -/
theorem bind_script {K : PySem.W.Frag} {x qual : Str} {st : Stmt} {f : Addr} {fd : FuncData} (F : Fun K x qual st f fd)
    (h : ∀ (kV doc pm : Value) (an : Option Addr) (cdv ct u : Value),
      bindArgs (PySem.W.fnOf x qual (defArgs st) (defBody st) (defScope st) .none kV doc pm an cdv ct) ⟨[u], []⟩ = pure [((Str.ofString "script"), u)])
    (s : Shared) (u : Value) : BindsTo s fd ⟨[u], []⟩ [(Str.ofString "script", u)] := by
  obtain ⟨oc, od, kV, doc, pm, an, cdv, ct, osl, rfl, _, _⟩ := F.ex
  exact .of_eq (h kV doc pm an cdv ct u)
end Ask

set_option Elab.async false
set_option linter.all false
set_option maxRecDepth 100000
set_option maxHeartbeats 2000000
/-! static methods of a class; own == with both answers, != by it -/
namespace Ask
open PySem L2
open PyProof.Rows

/-! ### C.m(e, ..), m a staticmethod -/
structure SMet (K : PySem.W.Frag) (C : Addr) (mc : Value) (m : Str) (p g : Addr) : Prop where
  at_ : PySem.W.findCls K (.ref C) mc m = some (.get (.builtin "staticmethod.__get__") (.ref p) .none (.ref C))
  rc : ∃ rest, PySem.W.recIn K p "staticmethod" = some (.ref g :: rest)
  kp : PySem.W.keepIn K (.ref g) = true
def tSMeth (C : Addr) (sp : Sp) (E : XK) (ta : TE) (t : TA) : TE := fun σ H Q =>
  ta σ H fun x H1 => x = .ref C ∧ t σ H1 fun vs H2 => sp vs H2 Q E
section
variable {X : Cx} {CX : CXT} {k : Nat} {C p g : Addr} {mc : Value} {sp : Sp} {E : XK} {o e : Expr}
  {es : List Expr} {m : Str} {pos apos : Pos} {ta : TE} {t : TA} {pl : Sem Bool} {fd : FuncData} {ps : List Str}
theorem pe_smeth (he : PE X o ta) (r : ClX.CRead X.K C mc) (c : SMet X.K C mc m p g)
    (F : FnOk X.prog X.w X.K X.mg X.base CX k g fd ps sp) (hr : Room k X.A) (hb : Binds X.K fd ps [])
    (hx : Passes CX X E) (ha : PA X (e :: es) t)
    (hst : starEach (e :: es) X.env = (false, eval e X.env) :: starEach es X.env := by rfl)
    (hpl : (backTo pos (starEach es X.env)).any (·.1) = false := by rfl)
    (ht : eval (.Call (.Attribute o m apos) (e :: es) [] pos) X.env = (do
      let ov ← eval o X.env; standAt apos.atName
      let (f, first) ← holding [ov] (getMethod ov m pl)
      callWith pos f first (backTo pos (starEach (e :: es) X.env)) (backToKw pos (keywordEach [] X.env))) := by rfl) :
    PE X (.Call (.Attribute o m apos) (e :: es) [] pos) (tSMeth C sp E ta t) := by
  refine ⟨fun pins s σ H Q I h => ?_⟩
  refine PySem.W.methodCall_KW (pl := pl) (thn (he.run pins s σ H _ I h) ?_) ht
  rintro u s1 ⟨x, H1, I1, rx, ex, q⟩
  subst ex
  obtain rfl : u = Value.ref C := rx
  obtain ⟨rest, hp⟩ := c.rc
  refine PySem.W.method_cls I1.kIn r.ga (PySem.W.cls_bind I1.kIn r.rd c.at_ ?_)
  have I2 := I1.tok (s1.toks + 1)
  refine wpAny_call (PySem.W.sm_get (s := { s1 with toks := s1.toks + 1 }) I2.kIn hp (PySem.W.handed_on rfl ?_))
  refine PySem.W.callWith_K (h₀ := X.base) I2.ok.mod.kin c.kp (thn (ha.run pos pins _ σ H1 _ I2 q) ?_) hst hpl
  rintro us s2 ⟨vs, H2, I3, rv, q2⟩
  refine ⟨I3.kIn, ?_⟩
  exact run_fn (us := us) F hr hb .nil hx I3 rv (by rw [List.append_nil]; exact q2)
end

/-! ### own == and != -/
/-- the class at C (of object alone) has its own __eq__, the def at f, and no own __ne__ -/
structure EqCls (K : PySem.W.Frag) (C f : Addr) : Prop where
  cls : ∃ (nm q : Str) (N : Addr) (bs : List Value) (hdct : Bool) (sn : List Str) (sub : List Value) (ab : Bool)
    (col : Option Bool) (dd : Option Addr) (k0 k1 k2 k3 k5 : Option Value) (newId : String),
    K.lookup C = some (excClassObj nm q C N bs [.type "object"] hdct sn sub ab col dd k0 k1 k2 k3 k5 newId) ∧
    PySem.W.nsOkIn K N = true ∧ PySem.W.nsIn K N "__eq__" = some (some (.ref f)) ∧ PySem.W.nsIn K N "__ne__" = some none
  at_ : PySem.W.findIn K (.ref C) "__eq__" = some (some (.ref f))
  fn : PySem.W.isFn K (.ref f) = true

/-- kinds of the right side: what == asks of its type -/
def Kind (K : PySem.W.Frag) (C : Addr) (x : V) (H : Hp) : Prop :=
  (x = .non ∧ PySem.W.notFirst K C (.type "NoneType") = true) ∨ (∃ b, x = .bl b ∧ PySem.W.notFirst K C (.type "bool") = true) ∨
  (∃ i, x = .int i ∧ PySem.W.notFirst K C (.type "int") = true) ∨ (∃ t, x = .str t ∧ PySem.W.notFirst K C (.type "str") = true) ∨
  (∃ a xs, x = .ref a ∧ H a = some (.lst xs) ∧ PySem.W.notFirst K C (.type "list") = true) ∨
  (∃ a xs, x = .ref a ∧ H a = some (.tup xs) ∧ PySem.W.notFirst K C (.type "tuple") = true) ∨
  (∃ a xs, x = .ref a ∧ H a = some (.dK xs) ∧ PySem.W.notFirst K C (.type "dict") = true) ∨
  (∃ a D dx fs, x = .ref a ∧ H a = some (.ins D dx fs) ∧ PySem.W.notFirst K C (.ref D) = true)
section
variable {X : Cx} {pins : List (Addr × Obj)} {σ : L2.St} {H : Hp} {s : Shared} {C : Addr}
theorem looks_kind {x : V} {u : Value} (I : Inv X pins σ H s) (rx : RelV x u) (k : Kind X.K C x H) :
    ∃ tb, (∀ M, PySem.W.Looks M s.heap (typeOf u) tb) ∧ PySem.W.notFirst X.K C tb = true := by
  have of_obj : ∀ {a : Addr} {o : Obj}, s.heap.get? a = some o → ∀ M, PySem.W.Looks M s.heap (typeOf (.ref a)) o.cls := by
    intro a o e M
    exact (PySem.W.Looks.ld e).andThen .now
  rcases k with ⟨rfl, n⟩ | ⟨b, rfl, n⟩ | ⟨i, rfl, n⟩ | ⟨t, rfl, n⟩ | ⟨a, xs, rfl, e, n⟩ | ⟨a, xs, rfl, e, n⟩ | ⟨a, xs, rfl, e, n⟩ | ⟨a, D, dx, fs, rfl, e, n⟩
  · cases rx
    exact ⟨_, fun M => PySem.W.Looks.of_pure rfl, n⟩
  · cases rx
    exact ⟨_, fun M => PySem.W.Looks.of_pure rfl, n⟩
  · obtain ⟨t, rfl⟩ := rx
    exact ⟨_, fun M => PySem.W.Looks.of_pure rfl, n⟩
  · obtain ⟨t', rfl⟩ := rx
    exact ⟨_, fun M => PySem.W.Looks.of_pure rfl, n⟩
  · cases rx
    obtain ⟨_, its, m, _, e1⟩ := I.hok a _ e
    exact ⟨_, of_obj e1, n⟩
  · cases rx
    obtain ⟨_, its, _, ob, e1, c, _⟩ := I.hok a _ e
    have z := of_obj e1
    rw [c] at z
    exact ⟨_, z, n⟩
  · cases rx
    obtain ⟨_, _, vs, _, ob, es, ep, e1, c, _⟩ := I.hok a _ e
    have z := of_obj e1
    rw [c.1] at z
    exact ⟨_, z, n⟩
  · cases rx
    obtain ⟨mA, J, _⟩ := ins_get I.hok e
    obtain ⟨od, J, _⟩ := J.look
    exact ⟨_, fun M => J.type, n⟩

/-- x == y, x an instance of the class at C -/
def rEqO (C : Addr) (sp : Sp) (K : PySem.W.Frag) : R2 := fun x y H Q => ∃ a dx fs, x = .ref a ∧ H a = some (.ins C dx fs) ∧ Kind K C y H ∧
  sp [x, y] H (fun v H' => ∃ b, v = .bl b ∧ Q (.bl b) H') E0
def rNeO (C : Addr) (sp : Sp) : R2 := fun x y H Q => ∃ a b dx dy fs gs, x = .ref a ∧ y = .ref b ∧ H a = some (.ins C dx fs) ∧
  H b = some (.ins C dy gs) ∧ sp [x, y] H (fun v H' => ∃ b, v = .bl b ∧ Q (.bl (!b)) H') E0
variable {k : Nat} {f : Addr} {fd : FuncData} {ps : List Str} {sp : Sp}
/-- the call of the own __eq__ -/
theorem run_eq (F : FnOk X.prog X.w X.K X.mg X.base CX0 k f fd ps sp) {A : Around} (hr : Room k A) (hf : A.frames = X.A.frames)
    (hb : Binds X.K fd ps []) (I : Inv X pins σ H s) {x y : V} {u v : Value} (rx : RelV x u) (ry : RelV y v) {Q : VK} {E : Value → Shared → Prop}
    (h : sp [x, y] H Q E0) : wpAny (model X.prog X.w) A (call (.ref f) [u, v]) (EP X pins σ Q) E s := by
  have e0 : Env0 X.prog X.w X.K X.mg X.base A X.stack s H := by
    have e := I.env0
    exact ⟨hf.trans e.frames, e.mod, e.bs, e.bsz, e.funs, e.frf, e.hok, e.bare⟩
  have hl := F.len _ _ _ _ h
  have hbd := hb s [u, v] I.kIn hl
  refine wpAny_call (codeAny_mono (F.run A X.stack s H ⟨[u, v], []⟩ [u, v] [x, y] _ E0 hr e0 hbd (.cons rx (.cons ry .nil)) h) ?_)
  intro r s' hq
  cases r with
  | error e => exact hq.elim
  | ok fl =>
    cases fl with
    | ret w => exact I.after hq
    | next => exact False.elim hq
    | brk => exact False.elim hq
    | cont => exact False.elim hq
theorem op_eqO (F : FnOk X.prog X.w X.K X.mg X.base CX0 k f fd ps sp) (hr : Room k X.A) (c : EqCls X.K C f) (hb : Binds X.K fd ps []) :
    OpR X (compareOp .Eq) (rEqO C sp X.K) := by
  intro pins s σ H x y v u Q I rx ry hq
  obtain ⟨a, dx, fs, rfl, ha, hk, h⟩ := hq
  cases rx
  obtain ⟨tb, ht, hn⟩ := looks_kind I ry hk
  obtain ⟨mA, J, _⟩ := ins_get I.hok ha
  obtain ⟨od, J, _⟩ := J.look
  obtain ⟨m, hF⟩ := I.fr
  show wpAny (model X.prog X.w) X.A (richCompare .Eq (.ref a) u) (EP X pins σ Q) X.xe s
  refine PySem.W.cmp_K (op := .Eq) hr.units0 hF I.ok.mod.kin J (ht _) hn c.at_ c.fn ?_
  refine thn (run_eq F hr rfl hb I (x := .ref a) rfl ry h) ?_
  rintro w s' ⟨z, H', I', rz, b, ez, q⟩
  subst ez
  cases rz
  exact ⟨.bl b, H', I', rfl, q⟩
theorem op_neO (F : FnOk X.prog X.w X.K X.mg X.base CX0 k f fd ps sp) (hr : Room (k + 1) X.A) (c : EqCls X.K C f) (hb : Binds X.K fd ps []) :
    OpR X (compareOp .NotEq) (rNeO C sp) := by
  intro pins s σ H x y v u Q I rx ry hq
  obtain ⟨a, b, dx, dy, fs, gs, rfl, rfl, ha, hb', h⟩ := hq
  cases rx
  cases ry
  obtain ⟨nm, q, N, bs, hdct, sn, sub, ab, col, dd, k0, k1, k2, k3, k5, newId, hC, hN, he, hne⟩ := c.cls
  have KX := I.kIn
  obtain ⟨_, _, _, oa, _⟩ := I.hok a _ ha
  obtain ⟨_, _, _, ob, _⟩ := I.hok b _ hb'
  have hns : s.heap.Ns N (s.heap.nsMap N) := .of_isNs (PySem.W.isNs_of_in KX hN)
  have me : s.heap.nsMap N "__eq__" = some (.ref f) := by
    obtain ⟨o, es, ep, ho, hd, _, hf⟩ := hns
    have z := he
    unfold PySem.W.nsIn at z
    split at z
    · rename_i c' d' es' n' sl' q'
      have w := KX _ _ q'
      rw [ho] at w
      cases w
      cases hd
      split at z
      · rename_i e' he'
        rw [← hf]
        unfold nsFind findBy
        rw [← Array.find?_toList, he']
        exact (Option.some.inj z)
      · split at z <;> cases z
    · cases z
  have mn : s.heap.nsMap N "__ne__" = none := PySem.W.nsMap_none_of_in KX hN hne
  have hfo : ∃ of, s.heap.get? f = some of ∧ of.cls = .type "function" := by
    have z : (X.K.lookup f).map (·.cls) = some (Value.type "function") := beq_iff_eq.mp c.fn
    cases q : X.K.lookup f with
    | none =>
      rw [q] at z
      cases z
    | some o =>
      rw [q] at z
      exact ⟨o, KX _ _ q, Option.some.inj z⟩
  obtain ⟨of, hof, hoc⟩ := hfo
  have OE : s.heap.OwnEqNoNe a C f "object" [.type "object"] :=
    ⟨_, of, nm, q, N, bs, hdct, sn, sub, ab, col, dd, k0, k1, k2, k3, k5, newId, _, _, oa, rfl, KX _ _ hC, hns, me, hof, hoc, PySem.F.cmp_object.mro, PySem.F.cmp_object.eq.lookup, mn⟩
  obtain ⟨hh, g, d, t, os⟩ := s
  refine compareOp_ne_ownEq PySem.F.cmp_object OE ob rfl (by have := hr.un; omega) ?_
  refine wpAny_mono (run_eq F hr.in1 rfl hb I (x := .ref a) (y := .ref b) rfl rfl h) ?_ (fun _ _ e => e)
  rintro w s' ⟨z, H', I', rz, c', ez, q'⟩
  subst ez
  cases rz
  exact ⟨c', rfl, .bl _, H', I', rfl, q'⟩
end
end Ask

set_option Elab.async false
set_option linter.all false
set_option maxRecDepth 100000
set_option maxHeartbeats 2000000
/-! what the written part holds of a def, a method, a class -/
namespace Ask
open PySem L2
open PyProof.Rows
def kinds : List String := ["NoneType", "bool", "int", "str", "list", "tuple", "dict"]
/-- what isinstance asks of the class of an instance, and of other kinds beside it -/
structure InsTy (K : PySem.W.Frag) (C : Addr) : Prop where
  ha : PySem.W.findIn K (.ref C) "__class__" = some (some (.builtin "object.__class__"))
  hn : PySem.W.specialIn K (.builtin "object.__class__") "__get__" = some (some (.builtin "getset_descriptor.__get__"))
  ht : PySem.W.takesIn K (.builtin "object.__class__") = some true
  hm : PySem.W.mroIn K C (.type "object") = some true
  kt : ∀ t ∈ kinds, PySem.W.kitOne K (.type t) (.ref C) = some false
theorem InsTy.of {K : PySem.W.Frag} {C a dx : Addr} {fs : List (Str × V)} {H : Hp} (i : InsTy K C) (c : Cls K C) (e : H a = some (.ins C dx fs)) :
    TyX K H (.ref a) (.ref C) := .base (.ins e c i.ha i.hn i.ht i.hm)
theorem pe_gi {X : Cx} {x : Str} {pos : Pos} {v : V} (hg : Gl X x) (h : ∃ u, X.mg x = some u ∧ RelV v u)
    (hd : (x == ("__debug__" : Str)) = false := by decide) : PE X (.Name x pos) (tC v) := by
  obtain ⟨u, hm, r⟩ := h
  exact pe_glob hg hm r hd
theorem nsOk_of {K : PySem.W.Frag} {N : Addr} {oc : Value} {od : Option Addr} {es : Array DictEntry} {n : Nat} {sl : Array (Option Value)}
    (l : K.lookup N = some ⟨oc, od, .dict es n, sl⟩) (r : (es.toList.all fun e => match e.key with | .str _ _ => true | _ => false) = true) : PySem.W.nsOkIn K N = true := by
  unfold PySem.W.nsOkIn
  rw [l]
  rw [Array.all_toList] at r
  exact r
theorem kit_not {K : PySem.W.Frag} {C : Addr} {t : String} (i : PySem.W.isClsIn K C = true) (ty : PySem.W.typeIn K (.ref C) = some (.type "type"))
    (s : PySem.W.subIn K (.type t) (.ref C) = some false) : PySem.W.kitOne K (.type t) (.ref C) = some false := by
  have i' : (PySem.W.clsIn K C).isSome = true := i
  unfold PySem.W.kitOne
  rw [if_neg (by simp)]
  show (if ((PySem.W.clsIn K C).isSome && PySem.W.typeIn K (.ref C) == some (.type "type")) = true then _ else _) = _
  rw [i', ty]
  exact s
theorem kit_self {K : PySem.W.Frag} {C : Addr} : PySem.W.kitOne K (.ref C) (.ref C) = some true := by
  unfold PySem.W.kitOne
  rw [if_pos (by simp)]
section
variable {K : PySem.W.Frag} {h : Heap} {mg : Str → Option Value} {x qual : Str} {st : Stmt} {f p C : Addr}
  {oc kV doc pm cdv ct mc : Value} {od an : Option Addr} {osl : Array (Option Value)} {rest : List Value}
/-- the def st, with no positional defaults, as the object of K -/
def DefAt (K : PySem.W.Frag) (x qual : Str) (st : Stmt) (f : Addr) (oc : Value) (od : Option Addr) (kV doc pm : Value)
    (an : Option Addr) (cdv ct : Value) (osl : Array (Option Value)) : Prop :=
  K.lookup f = some ⟨oc, od, .func (PySem.W.fnOf x qual (defArgs st) (defBody st) (defScope st) .none kV doc pm an cdv ct), osl⟩
theorem fun_get (X : K.In h) (G : h.Ns mainGlobals mg) (a : PySem.W.nsIn K mainGlobals x = some (some (.ref f)))
    (l : K.lookup f = some ⟨oc, od, .func (PySem.W.fnOf x qual (defArgs st) (defBody st) (defScope st) .none kV doc pm an cdv ct), osl⟩)
    (c : PySem.W.codeIn K cdv qual = true) (k : PySem.W.keepIn K (.ref f) = true) :
    ∃ f fd, Fun K x qual st f fd ∧ mg x = some (.ref f) := ⟨f, _, fun_mk l c k, PySem.W.mg_of X G a⟩
theorem meth_get (X : K.In h) (a : PySem.W.findIn K (.ref C) x = some (some (.ref f))) (i : PySem.W.isFn K (.ref f) = true)
    (l : K.lookup f = some ⟨oc, od, .func (PySem.W.fnOf x qual (defArgs st) (defBody st) (defScope st) .none kV doc pm an cdv ct), osl⟩)
    (c : PySem.W.codeIn K cdv qual = true) (k : PySem.W.keepIn K (.ref f) = true) :
    ∃ f fd, Fun K x qual st f fd ∧ Meth K C x f := ⟨f, _, fun_mk l c k, ⟨a, i, k⟩⟩
theorem prop_get (X : K.In h) (a : PySem.W.findIn K (.ref C) x = some (some (.ref p)))
    (g : PySem.W.specialIn K (.ref p) "__get__" = some (some (.builtin "property.__get__"))) (t : PySem.W.takesIn K (.ref p) = some true)
    (r : PySem.W.recIn K p "property" = some (.ref f :: rest))
    (l : K.lookup f = some ⟨oc, od, .func (PySem.W.fnOf x qual (defArgs st) (defBody st) (defScope st) .none kV doc pm an cdv ct), osl⟩)
    (c : PySem.W.codeIn K cdv qual = true) (k : PySem.W.keepIn K (.ref f) = true) :
    ∃ f fd p, Fun K x qual st f fd ∧ PropOf K C x p f := ⟨f, _, p, fun_mk l c k, ⟨a, g, t, rest, r⟩⟩
theorem stat_get (X : K.In h) (a : PySem.W.findCls K (.ref C) mc x = some (.get (.builtin "staticmethod.__get__") (.ref p) .none (.ref C)))
    (r : PySem.W.recIn K p "staticmethod" = some (.ref f :: rest))
    (l : K.lookup f = some ⟨oc, od, .func (PySem.W.fnOf x qual (defArgs st) (defBody st) (defScope st) .none kV doc pm an cdv ct), osl⟩)
    (c : PySem.W.codeIn K cdv qual = true) (k : PySem.W.keepIn K (.ref f) = true) :
    ∃ f fd p, Fun K x qual st f fd ∧ SMet K C mc x p f := ⟨f, _, p, fun_mk l c k, ⟨a, ⟨rest, r⟩, k⟩⟩
/-- __init__ with one keyword-only parameter of a default that is an int -/
theorem init_get {D : Addr} {y : Str} {i : Int} {t : Tok} (X : K.In h) (mk : PySem.W.makesIn K C = true) (kc : PySem.W.keepIn K (.ref C) = true)
    (a : PySem.W.findIn K (.ref C) "__init__" = some (some (.ref f))) (i1 : PySem.W.isFn K (.ref f) = true)
    (l : K.lookup f = some ⟨oc, od, .func (PySem.W.fnOf "__init__" qual (defArgs st) (defBody st) (defScope st) .none (.ref D) doc pm an cdv ct), osl⟩)
    (c : PySem.W.codeIn K cdv qual = true) (k : PySem.W.keepIn K (.ref f) = true)
    (q : PySem.W.nsIn K D y = some (some (.int i t))) :
    ∃ f fd, FunD K "__init__" qual (defArgs st) (defBody st) (defScope st) [] [(y, V.int i)] f fd ∧ Mk K C f := by
  refine ⟨f, _, ⟨⟨oc, od, .none, .ref D, doc, pm, an, cdv, ct, osl, rfl, l, c, .inl ⟨rfl, rfl⟩, .inr ⟨D, rfl, ?_⟩⟩, k⟩, ⟨mk, a, i1, kc⟩⟩
  intro z hz
  obtain rfl := List.mem_singleton.mp hz
  exact ⟨_, q, t, rfl⟩
theorem init_get0 (X : K.In h) (mk : PySem.W.makesIn K C = true) (kc : PySem.W.keepIn K (.ref C) = true)
    (a : PySem.W.findIn K (.ref C) "__init__" = some (some (.ref f))) (i1 : PySem.W.isFn K (.ref f) = true)
    (l : K.lookup f = some ⟨oc, od, .func (PySem.W.fnOf "__init__" qual (defArgs st) (defBody st) (defScope st) .none kV doc pm an cdv ct), osl⟩)
    (c : PySem.W.codeIn K cdv qual = true) (k : PySem.W.keepIn K (.ref f) = true) :
    ∃ f fd, Fun K "__init__" qual st f fd ∧ Mk K C f := ⟨f, _, fun_mk l c k, ⟨mk, a, i1, kc⟩⟩
theorem cls_get (X : K.In h) (G : h.Ns mainGlobals mg) (a : PySem.W.nsIn K mainGlobals x = some (some (.ref C)))
    (pg : PySem.W.plainGet K C Str.empty = true) (hd : PySem.W.hasDictIn K C = true) (po : PySem.W.plainOver K C = true)
    (sa : PySem.W.findIn K (.ref C) "__setattr__" = some (some (.builtin "object.__setattr__")))
    (rd : PySem.W.readsIn K C (.type "type") = true) (ga : PySem.W.specialIn K (.ref C) "__getattribute__" = some (some (.builtin "type.__getattribute__"))) :
    ∃ C, mg x = some (.ref C) ∧ Cls K C ∧ ClX.CRead K C (.type "type") ∧ PySem.W.nsIn K mainGlobals x = some (some (.ref C)) :=
  ⟨C, PySem.W.mg_of X G a, ⟨pg, hd, po, sa⟩, ⟨rd, ga⟩, a⟩
theorem eq_get {nm q : Str} {N : Addr} {bs : List Value} {hdct : Bool} {sn : List Str} {sub : List Value} {ab : Bool}
    {col : Option Bool} {dd : Option Addr} {k0 k1 k2 k3 k5 : Option Value} {newId : String}
    (l : K.lookup C = some (excClassObj nm q C N bs [.type "object"] hdct sn sub ab col dd k0 k1 k2 k3 k5 newId))
    (n : PySem.W.nsOkIn K N = true) (e : PySem.W.nsIn K N "__eq__" = some (some (.ref f))) (ne : PySem.W.nsIn K N "__ne__" = some none)
    (a : PySem.W.findIn K (.ref C) "__eq__" = some (some (.ref f))) (i : PySem.W.isFn K (.ref f) = true) : EqCls K C f :=
  ⟨⟨nm, q, N, bs, hdct, sn, sub, ab, col, dd, k0, k1, k2, k3, k5, newId, l, n, e, ne⟩, a, i⟩
theorem glob_get {v : V} {u : Value} (X : K.In h) (G : h.Ns mainGlobals mg) (a : PySem.W.nsIn K mainGlobals x = some (some u)) (r : RelV v u) :
    ∃ u, mg x = some u ∧ RelV v u := ⟨u, PySem.W.mg_of X G a, r⟩
/-- the globals that are not bound: built-in names -/
theorem blt_get (X : K.In h) (G : h.Ns mainGlobals mg) (a : PySem.W.nsIn K mainGlobals x = some none) : mg x = none := PySem.W.mg_none_of X G a
end
end Ask

set_option Elab.async false
set_option linter.all false
set_option maxRecDepth 100000
set_option maxHeartbeats 2000000
/-! the pen of a law: its promises; ints as data -/
namespace Ask
open PySem L2
open PyProof.Rows
/-! ### the pen: a list of a list of ints, a place and what is left of the last cell -/
/-- at p stands a pen over the list at l, that has been at i places -/
def Pen (H : Hp) (p : Addr) (n : Nat) : Prop :=
  ∃ (l : Addr) (i v : Int) (ns : List Int), H p = some (.lst [.ref l, .int i, .int v]) ∧
    H l = some (.lst (ns.map V.int)) ∧ 0 ≤ i ∧ i ≤ (n : Int) ∧ 0 ≤ v ∧ ns.length ≤ 100000

/-- all but what stands at p is as it was -/
def But (p : Addr) (H H' : Hp) : Prop := ∀ b o, b ≠ p → H b = some o → H' b = some o
theorem But.refl (p : Addr) (H : Hp) : But p H H := fun _ _ _ e => e
theorem But.trans {p : Addr} {H H1 H2 : Hp} (a : But p H H1) (b : But p H1 H2) : But p H H2 :=
  fun c o h e => b c o h (a c o h e)
theorem But.upd {p : Addr} {H : Hp} {o : HO} : But p H (upd H p o) := fun b u h e => by
  rw [upd_ne h]
  exact e
theorem But.new {p q : Addr} {H : Hp} {o : HO} (h : H q = none) : But p H (L2.upd H q o) := fun b u _ e => by
  rw [upd_ne (ne_of_none e h)]
  exact e
theorem But.seq {K : PySem.W.Frag} {p a : Addr} {H H' : Hp} {xs : List V} (e : But p H H') (hp : a ≠ p)
    (h : SqL K H a xs) : SqL K H' a xs := by
  rcases h with (h | ⟨o, h⟩) | h
  · exact .inl (.inl (e _ _ hp h))
  · exact .inl (.inr ⟨o, e _ _ hp h⟩)
  · exact .inr h

/-- _law_pen(script) -/
def spPen (K : PySem.W.Frag) : Sp := fun vs H Q _ => ∃ (a : Addr) (ns : List Int), vs = [.ref a] ∧
  SqL K H a (ns.map V.int) ∧ ns.length ≤ 63 ∧ ∀ p H', H p = none → But p H H' → Pen H' p 0 → Q (.ref p) H'
/-- _law_next(pen) -/
def spNext : Sp := fun vs H Q _ => ∃ (p : Addr) (n : Nat) (l : Addr) (i v : Int) (ns : List Int), vs = [.ref p] ∧
  H p = some (.lst [.ref l, .int i, .int v]) ∧ H l = some (.lst (ns.map V.int)) ∧ 0 ≤ i ∧ i ≤ (n : Int) ∧ n ≤ 1000000 ∧ ns.length ≤ 100000 ∧
  ∀ z : Int, 0 ≤ z → ∀ H', But p H H' → H' p = some (.lst [.ref l, .int (i + 1), .int v]) → Q (.int z) H'
/-- _law_draw(pen, below) -/
def spDraw : Sp := fun vs H Q _ => ∃ (p : Addr) (n : Nat) (b : Int), vs = [.ref p, .int b] ∧ Pen H p n ∧ n ≤ 1000000 ∧
  0 < b ∧ b < 2 ^ 200 ∧ ∀ (z : Int) H', 0 ≤ z → z < b → But p H H' → Pen H' p (n + 1) → Q (.int z) H'

theorem cut_ints (ns : List Int) (k : Nat) : cutV (ns.map V.int) none (some (k : Int)) = (ns.take k).map V.int := by
  unfold cutV
  rw [HT.sIx_none, HT.sIx_nat, List.drop_zero, List.length_map, Nat.sub_zero, ← List.map_take]
  congr 1
  by_cases h : k ≤ ns.length
  · rw [Nat.min_eq_left h]
  · rw [Nat.min_eq_right (by omega), List.take_of_length_le (Nat.le_refl _), List.take_of_length_le (by omega)]
theorem But.of {p q : Addr} {H H' : Hp} {o : HO} (h : But p H H') (n : H q = none) : But p H (L2.upd H' q o) := fun b u hb e => by
  rw [upd_ne (ne_of_none e n)]
  exact h b u hb e
theorem But.same {p : Addr} {H H' : Hp} (h : But p H H') (n : H p = none) : Same H H' := fun b u e => h b u (ne_of_none e n) e
theorem Same.new {q : Addr} {H : Hp} {o : HO} (h : H q = none) : Same H (L2.upd H q o) := fun b u e => by
  rw [upd_ne (ne_of_none e h)]
  exact e
theorem Same.of {q : Addr} {H H' : Hp} {o : HO} (h : Same H H') (n : H q = none) : Same H (L2.upd H' q o) := fun b u e => by
  rw [upd_ne (ne_of_none e n)]
  exact h b u e
theorem Same.grow {q : Addr} {H H' : Hp} {o : HO} (h : Same H H') (n : H' q = none) : Same H (L2.upd H' q o) := Same.of h (h.free n)
theorem Same.but {p : Addr} {H H' : Hp} (h : Same H H') : But p H H' := fun b u _ e => h b u e
theorem dp_ints {K : PySem.W.Frag} {H : Hp} : ∀ ns : List Int, DpAll K H (ns.map V.int) (ns.map PyData.int)
  | [] => .nil
  | n :: ns => .cons (.int n) (dp_ints ns)
theorem lay_ints : ∀ ns : List Int, PyData.canLayAll0 (ns.map PyData.int) = true
  | [] => rfl
  | n :: ns => by
    rw [List.map_cons]
    unfold PyData.canLayAll0
    rw [lay_ints ns]
    rfl
theorem dep_ints : ∀ ns : List Int, PyData.depthAll (ns.map PyData.int) ≤ 1
  | [] => by decide
  | n :: ns => by
    have := dep_ints ns
    rw [List.map_cons]
    unfold PyData.depthAll
    unfold PyData.depth
    omega
theorem shaped_ints (ns : List Int) : SeqAt.shaped (.list (ns.map PyData.int)) = true := by
  unfold SeqAt.shaped
  unfold PyData.canLay0
  rw [lay_ints]
  have := dep_ints ns
  unfold PyData.depth
  rw [decide_eq_true (by omega)]
  rfl
theorem ne_nil (ns : List Int) : (!PyData.eqv (.list (ns.map PyData.int)) (.list [])) = !ns.isEmpty := by
  cases ns with
  | nil => rfl
  | cons n ns => rfl
theorem ints_at {ns : List Int} {j : Nat} (h : j < ns.length) : ∃ c, (ns.map V.int)[j]? = some (.int c) :=
  ⟨ns[j], by rw [List.getElem?_map, List.getElem?_eq_getElem h]; rfl⟩
theorem mod_below (i : Int) {n : Nat} (hn : 0 < n) : ∃ j : Nat, i % (n : Int) = (j : Int) ∧ j < n := by
  have h1 := Int.emod_nonneg i (show (n : Int) ≠ 0 by omega)
  have h2 := Int.emod_lt_of_pos i (show (0 : Int) < (n : Int) by omega)
  exact ⟨(i % (n : Int)).toNat, by omega, by omega⟩

theorem rd_ixL {K : PySem.W.Frag} {H : Hp} {p : Addr} {xs : List V} {v : V} {R : V → Prop} (j : Nat) (h : H p = some (.lst xs)) (hx : xs[j]? = some v) (k : R v) :
    ∃ p' xs' i v', V.ref p = V.ref p' ∧ V.int (j : Int) = V.int i ∧ SqL K H p' xs' ∧ atI xs' i = some v' ∧ R v' :=
  ⟨p, xs, _, v, rfl, rfl, SqL.of h, atI_nat hx, k⟩
end Ask

set_option Elab.async false
set_option linter.all false
set_option maxRecDepth 100000
set_option maxHeartbeats 2000000
/-! data whose text is short -/
namespace Ask
open PySem L2
open PyProof.Rows
/-- data that can be shown, with a text of at most n signs -/
structure Shows (n : Nat) (d : PyData) : Prop where
  can : d.showable = true
  nod : d.hasDict = false
  dep : d.depth ≤ 20
  len : d.shown.length ≤ n
theorem showAll : ∀ ds : List PyData, (∀ d ∈ ds, d.showable = true) → PyData.showableAll ds = true
  | [], _ => rfl
  | d :: ds, h => by
    unfold PyData.showableAll
    rw [h d List.mem_cons_self, showAll ds fun x hx => h x (List.mem_cons_of_mem _ hx)]
    rfl
theorem nodAll : ∀ ds : List PyData, (∀ d ∈ ds, d.hasDict = false) → PyData.hasDictAll ds = false
  | [], _ => rfl
  | d :: ds, h => by
    unfold PyData.hasDictAll
    rw [h d List.mem_cons_self, nodAll ds fun x hx => h x (List.mem_cons_of_mem _ hx)]
    rfl
theorem depAll {k : Nat} : ∀ ds : List PyData, (∀ d ∈ ds, d.depth ≤ k) → PyData.depthAll ds ≤ k
  | [], _ => by
    unfold PyData.depthAll
    exact Nat.zero_le _
  | d :: ds, h => by
    have h1 := h d List.mem_cons_self
    have h2 := depAll ds fun x hx => h x (List.mem_cons_of_mem _ hx)
    unfold PyData.depthAll
    omega
theorem lenAll {n : Nat} : ∀ ds : List PyData, (∀ d ∈ ds, d.shown.length ≤ n) → ((PyData.shownAll ds).map (·.length)).sum ≤ n * ds.length ∧ (PyData.shownAll ds).length = ds.length
  | [], _ => by
    unfold PyData.shownAll
    exact ⟨Nat.zero_le _, rfl⟩
  | d :: ds, h => by
    have h1 := h d List.mem_cons_self
    have h2 := lenAll ds fun x hx => h x (List.mem_cons_of_mem _ hx)
    unfold PyData.shownAll
    rw [List.map_cons, List.sum_cons, List.length_cons, List.length_cons, Nat.mul_succ]
    exact ⟨by omega, by omega⟩
/-- a list of such -/
theorem shows_list {n k : Nat} {ds : List PyData} (h : ∀ d ∈ ds, Shows n d) (hd : ∀ d ∈ ds, d.depth ≤ 18) (hn : ds.length ≤ k) : Shows (n * k + 2 * k + 3) (.list ds) where
  can := by
    unfold PyData.showable
    exact showAll ds fun d hx => (h d hx).can
  nod := by
    unfold PyData.hasDict
    exact nodAll ds fun d hx => (h d hx).nod
  dep := by
    have z := depAll ds hd
    unfold PyData.depth
    omega
  len := by
    have z := lenAll ds fun d hx => (h d hx).len
    have y := listText_len_le (PyData.shownAll ds)
    have m : n * ds.length ≤ n * k := Nat.mul_le_mul_left n hn
    unfold PyData.shown
    omega
theorem shows_bool (b : Bool) : Shows 5 (.bool b) := by
  refine ⟨rfl, rfl, ?_, ?_⟩
  · unfold PyData.depth
    omega
  · cases b <;> decide +kernel
theorem dp_bls {K : PySem.W.Frag} {H : Hp} : ∀ bs : List Bool, DpAll K H (bs.map V.bl) (bs.map PyData.bool)
  | [] => .nil
  | b :: bs => .cons (.bl b) (dp_bls bs)
theorem dep_bools (bs : List Bool) : ∀ d ∈ bs.map PyData.bool, d.depth ≤ 18 := fun d hd => by
  obtain ⟨b, _, rfl⟩ := List.mem_map.mp hd
  unfold PyData.depth
  omega
theorem shows_bools {k : Nat} (bs : List Bool) (h : bs.length ≤ k) : Shows (5 * k + 2 * k + 3) (.list (bs.map PyData.bool)) :=
  shows_list (fun d hd => by
    obtain ⟨b, _, rfl⟩ := List.mem_map.mp hd
    exact shows_bool b) (dep_bools bs) (by rw [List.length_map]; exact h)
/-- repr of such, as a call asks it -/
theorem repr_ask {K : PySem.W.Frag} {H : Hp} {v : V} {d : PyData} {n : Nat} {Q : VK} (s : Shows n d) (hn : n ≤ sizeLine) (h : Dp K H v d) (q : Q (.str d.shown) H) : rRepr K [v] H Q :=
  ⟨v, d, rfl, h, s.can, s.nod, Nat.le_trans s.dep (by decide), Nat.le_trans s.len hn, q⟩
theorem repr_bools {K : PySem.W.Frag} {H : Hp} {t : Addr} {xs : List V} {R : PyData → Prop} (bs : List Bool) (h : H t = some (.lst xs)) (e : xs = bs.map V.bl) (n : bs.length ≤ 100)
    (q : R (PyData.list (bs.map PyData.bool))) :
    ∃ (v : V) (d : PyData), [V.ref t] = [v] ∧ Dp K H v d ∧ d.showable = true ∧ d.hasDict = false ∧ d.depth ≤ 60 ∧ d.shown.length ≤ sizeLine ∧ R d := by
  subst e
  have s := shows_bools bs n
  exact ⟨_, _, rfl, .lst (SqL.of h) (dp_bls bs), s.can, s.nod, Nat.le_trans s.dep (by decide), Nat.le_trans s.len (by decide), q⟩
end Ask

set_option Elab.async false
set_option linter.all false
set_option maxRecDepth 100000
set_option maxHeartbeats 4000000
namespace Ask
open PySem L2
open PyProof.Rows
def top (i : Nat) : Stmt := PySem.Challenge.pw_askranges_k05_pairs_of_items.main.body.getD i (.Pass ⟨0, 0, 0, 0⟩)
abbrev s_is_whole : Stmt := top 5
theorem sc_is_whole : FnScope ["thing"] ["thing"] (defScope s_is_whole) := ⟨rfl, rfl, rfl, by decide +kernel, rfl, by decide +kernel, by decide +kernel⟩
abbrev s_Item___init__ : Stmt := inClass (top 8) 1
theorem sc_Item___init__ : FnScope ["self", "name", "least", "greatest", "price"] ["self", "name", "least", "greatest", "price"] (defScope s_Item___init__) := ⟨rfl, rfl, rfl, by decide +kernel, rfl, by decide +kernel, by decide +kernel⟩
abbrev s_Item_is_name : Stmt := inClass (top 8) 3
theorem sc_Item_is_name : FnScope ["thing", "sign"] ["thing"] (defScope s_Item_is_name) := ⟨rfl, rfl, rfl, by decide +kernel, rfl, by decide +kernel, by decide +kernel⟩
abbrev s_Item_least : Stmt := inClass (top 8) 5
theorem sc_Item_least : FnScope ["self"] ["self"] (defScope s_Item_least) := ⟨rfl, rfl, rfl, by decide +kernel, rfl, by decide +kernel, by decide +kernel⟩
abbrev s_Item_greatest : Stmt := inClass (top 8) 6
theorem sc_Item_greatest : FnScope ["self"] ["self"] (defScope s_Item_greatest) := ⟨rfl, rfl, rfl, by decide +kernel, rfl, by decide +kernel, by decide +kernel⟩
abbrev s_Item_is_exact : Stmt := inClass (top 8) 8
theorem sc_Item_is_exact : FnScope ["self"] ["self"] (defScope s_Item_is_exact) := ⟨rfl, rfl, rfl, by decide +kernel, rfl, by decide +kernel, by decide +kernel⟩
abbrev s_Item_is_surely_before : Stmt := inClass (top 8) 11
theorem sc_Item_is_surely_before : FnScope ["self", "other"] ["self", "other"] (defScope s_Item_is_surely_before) := ⟨rfl, rfl, rfl, by decide +kernel, rfl, by decide +kernel, by decide +kernel⟩
abbrev s_Item_is_loose_with : Stmt := inClass (top 8) 12
theorem sc_Item_is_loose_with : FnScope ["self", "other"] ["self", "other"] (defScope s_Item_is_loose_with) := ⟨rfl, rfl, rfl, by decide +kernel, rfl, by decide +kernel, by decide +kernel⟩
abbrev s_Item___eq__ : Stmt := inClass (top 8) 13
theorem sc_Item___eq__ : FnScope ["self", "other"] ["self", "other"] (defScope s_Item___eq__) := ⟨rfl, rfl, rfl, by decide +kernel, rfl, by decide +kernel, by decide +kernel⟩
abbrev s__law_pen : Stmt := top 10
theorem sc__law_pen : FnScope ["script"] ["script"] (defScope s__law_pen) := ⟨rfl, rfl, rfl, by decide +kernel, rfl, by decide +kernel, by decide +kernel⟩
abbrev s__law_next : Stmt := top 11
theorem sc__law_next : FnScope ["pen", "index", "cell", "low", "mid", "top"] ["pen"] (defScope s__law_next) := ⟨rfl, rfl, rfl, by decide +kernel, rfl, by decide +kernel, by decide +kernel⟩
abbrev s__law_draw : Stmt := top 12
theorem sc__law_draw : FnScope ["pen", "below", "digit"] ["pen", "below"] (defScope s__law_draw) := ⟨rfl, rfl, rfl, by decide +kernel, rfl, by decide +kernel, by decide +kernel⟩
abbrev s__law_before : Stmt := top 13
theorem sc__law_before : FnScope ["one", "two"] ["one", "two"] (defScope s__law_before) := ⟨rfl, rfl, rfl, by decide +kernel, rfl, by decide +kernel, by decide +kernel⟩
abbrev s__law_loose : Stmt := top 14
theorem sc__law_loose : FnScope ["one", "two"] ["one", "two"] (defScope s__law_loose) := ⟨rfl, rfl, rfl, by decide +kernel, rfl, by decide +kernel, by decide +kernel⟩
abbrev s__law_row : Stmt := top 15
theorem sc__law_row : FnScope ["pen", "spot", "size"] ["pen"] (defScope s__law_row) := ⟨rfl, rfl, rfl, by decide +kernel, rfl, by decide +kernel, by decide +kernel⟩
abbrev s__law_item : Stmt := top 16
theorem sc__law_item : FnScope ["row"] ["row"] (defScope s__law_item) := ⟨rfl, rfl, rfl, by decide +kernel, rfl, by decide +kernel, by decide +kernel⟩
abbrev s_law : Stmt := top 17
theorem sc_law : FnScope ["script", "pen", "turn", "one", "two", "first", "second", "told", "due", "thing"] ["script"] (defScope s_law) := ⟨rfl, rfl, rfl, by decide +kernel, rfl, by decide +kernel, by decide +kernel⟩
structure Ad where
  f_is_whole : Addr
  d_is_whole : FuncData
  c_Item : Addr
  f_Item___init__ : Addr
  d_Item___init__ : FuncData
  f_Item_is_name : Addr
  d_Item_is_name : FuncData
  p_Item_is_name : Addr
  f_Item_least : Addr
  d_Item_least : FuncData
  p_Item_least : Addr
  f_Item_greatest : Addr
  d_Item_greatest : FuncData
  p_Item_greatest : Addr
  f_Item_is_exact : Addr
  d_Item_is_exact : FuncData
  p_Item_is_exact : Addr
  f_Item_is_surely_before : Addr
  d_Item_is_surely_before : FuncData
  f_Item_is_loose_with : Addr
  d_Item_is_loose_with : FuncData
  f_Item___eq__ : Addr
  d_Item___eq__ : FuncData
  f__law_pen : Addr
  d__law_pen : FuncData
  f__law_next : Addr
  d__law_next : FuncData
  f__law_draw : Addr
  d__law_draw : FuncData
  f__law_before : Addr
  d__law_before : FuncData
  f__law_loose : Addr
  d__law_loose : FuncData
  f__law_row : Addr
  d__law_row : FuncData
  f__law_item : Addr
  d__law_item : FuncData
  f_law : Addr
  d_law : FuncData
structure Txt (K : PySem.W.Frag) (mg : Str → Option Value) (a : Ad) : Prop where
  F_is_whole : Fun K "is_whole" "is_whole" s_is_whole a.f_is_whole a.d_is_whole
  g_is_whole : mg "is_whole" = some (.ref a.f_is_whole)
  g_Item : mg "Item" = some (.ref a.c_Item)
  cl_Item : Cls K a.c_Item
  rd_Item : ClX.CRead K a.c_Item (.type "type")
  co_Item_MOST : ∃ u, Con K a.c_Item "MOST" (.int 999) u
  cv_Item_MOST : ∃ u, ClX.CVal K a.c_Item (.type "type") "MOST" (.int 999) u
  mk_Item : Mk K a.c_Item a.f_Item___init__
  F_Item___init__ : FunD K "__init__" "Item.__init__" (defArgs s_Item___init__) (defBody s_Item___init__) (defScope s_Item___init__) [] [("price", V.int 1)] a.f_Item___init__ a.d_Item___init__
  F_Item_is_name : Fun K "is_name" "Item.is_name" s_Item_is_name a.f_Item_is_name a.d_Item_is_name
  m_Item_is_name : SMet K a.c_Item (.type "type") "is_name" a.p_Item_is_name a.f_Item_is_name
  F_Item_least : Fun K "least" "Item.least" s_Item_least a.f_Item_least a.d_Item_least
  m_Item_least : PropOf K a.c_Item "least" a.p_Item_least a.f_Item_least
  F_Item_greatest : Fun K "greatest" "Item.greatest" s_Item_greatest a.f_Item_greatest a.d_Item_greatest
  m_Item_greatest : PropOf K a.c_Item "greatest" a.p_Item_greatest a.f_Item_greatest
  F_Item_is_exact : Fun K "is_exact" "Item.is_exact" s_Item_is_exact a.f_Item_is_exact a.d_Item_is_exact
  m_Item_is_exact : PropOf K a.c_Item "is_exact" a.p_Item_is_exact a.f_Item_is_exact
  F_Item_is_surely_before : Fun K "is_surely_before" "Item.is_surely_before" s_Item_is_surely_before a.f_Item_is_surely_before a.d_Item_is_surely_before
  m_Item_is_surely_before : Meth K a.c_Item "is_surely_before" a.f_Item_is_surely_before
  F_Item_is_loose_with : Fun K "is_loose_with" "Item.is_loose_with" s_Item_is_loose_with a.f_Item_is_loose_with a.d_Item_is_loose_with
  m_Item_is_loose_with : Meth K a.c_Item "is_loose_with" a.f_Item_is_loose_with
  F_Item___eq__ : Fun K "__eq__" "Item.__eq__" s_Item___eq__ a.f_Item___eq__ a.d_Item___eq__
  m_Item___eq__ : Meth K a.c_Item "__eq__" a.f_Item___eq__
  eq_Item : EqCls K a.c_Item a.f_Item___eq__
  n_Item__name : NoAttr K a.c_Item "_name"
  n_Item__least : NoAttr K a.c_Item "_least"
  n_Item__greatest : NoAttr K a.c_Item "_greatest"
  n_Item__price : NoAttr K a.c_Item "_price"
  ty_Item : InsTy K a.c_Item
  kd_Item : ∀ t ∈ kinds, PySem.W.notFirst K a.c_Item (.type t) = true
  F__law_pen : Fun K "_law_pen" "_law_pen" s__law_pen a.f__law_pen a.d__law_pen
  g__law_pen : mg "_law_pen" = some (.ref a.f__law_pen)
  F__law_next : Fun K "_law_next" "_law_next" s__law_next a.f__law_next a.d__law_next
  g__law_next : mg "_law_next" = some (.ref a.f__law_next)
  F__law_draw : Fun K "_law_draw" "_law_draw" s__law_draw a.f__law_draw a.d__law_draw
  g__law_draw : mg "_law_draw" = some (.ref a.f__law_draw)
  F__law_before : Fun K "_law_before" "_law_before" s__law_before a.f__law_before a.d__law_before
  g__law_before : mg "_law_before" = some (.ref a.f__law_before)
  F__law_loose : Fun K "_law_loose" "_law_loose" s__law_loose a.f__law_loose a.d__law_loose
  g__law_loose : mg "_law_loose" = some (.ref a.f__law_loose)
  F__law_row : Fun K "_law_row" "_law_row" s__law_row a.f__law_row a.d__law_row
  g__law_row : mg "_law_row" = some (.ref a.f__law_row)
  F__law_item : Fun K "_law_item" "_law_item" s__law_item a.f__law_item a.d__law_item
  g__law_item : mg "_law_item" = some (.ref a.f__law_item)
  F_law : Fun K "law" "law" s_law a.f_law a.d_law
  g_law : mg "law" = some (.ref a.f_law)
  g_LONGEST_NAME : ∃ u, mg "LONGEST_NAME" = some u ∧ RelV (.int 8) u
  b_len : mg "len" = none
  b_list : mg "list" = none
  b_isinstance : mg "isinstance" = none
  b_str : mg "str" = none
  b_int : mg "int" = none
  b_bool : mg "bool" = none
  b_range : mg "range" = none
  b_max : mg "max" = none
  b_repr : mg "repr" = none
  b_all : mg "all" = none
theorem Txt.b_is_whole {K : PySem.W.Frag} {mg : Str → Option Value} {a : Ad} (T : Txt K mg a) : Binds K a.d_is_whole ["thing"] [] := T.F_is_whole.binds fun _ _ _ _ _ _ us hl => match us, hl with | [_], _ => rfl
theorem Txt.b_Item_is_name {K : PySem.W.Frag} {mg : Str → Option Value} {a : Ad} (T : Txt K mg a) : Binds K a.d_Item_is_name ["thing"] [] := T.F_Item_is_name.binds fun _ _ _ _ _ _ us hl => match us, hl with | [_], _ => rfl
theorem Txt.b_Item_least {K : PySem.W.Frag} {mg : Str → Option Value} {a : Ad} (T : Txt K mg a) : Binds K a.d_Item_least ["self"] [] := T.F_Item_least.binds fun _ _ _ _ _ _ us hl => match us, hl with | [_], _ => rfl
theorem Txt.b_Item_greatest {K : PySem.W.Frag} {mg : Str → Option Value} {a : Ad} (T : Txt K mg a) : Binds K a.d_Item_greatest ["self"] [] := T.F_Item_greatest.binds fun _ _ _ _ _ _ us hl => match us, hl with | [_], _ => rfl
theorem Txt.b_Item_is_exact {K : PySem.W.Frag} {mg : Str → Option Value} {a : Ad} (T : Txt K mg a) : Binds K a.d_Item_is_exact ["self"] [] := T.F_Item_is_exact.binds fun _ _ _ _ _ _ us hl => match us, hl with | [_], _ => rfl
theorem Txt.b_Item_is_surely_before {K : PySem.W.Frag} {mg : Str → Option Value} {a : Ad} (T : Txt K mg a) : Binds K a.d_Item_is_surely_before ["self", "other"] [] := T.F_Item_is_surely_before.binds fun _ _ _ _ _ _ us hl => match us, hl with | [_, _], _ => rfl
theorem Txt.b_Item_is_loose_with {K : PySem.W.Frag} {mg : Str → Option Value} {a : Ad} (T : Txt K mg a) : Binds K a.d_Item_is_loose_with ["self", "other"] [] := T.F_Item_is_loose_with.binds fun _ _ _ _ _ _ us hl => match us, hl with | [_, _], _ => rfl
theorem Txt.b_Item___eq__ {K : PySem.W.Frag} {mg : Str → Option Value} {a : Ad} (T : Txt K mg a) : Binds K a.d_Item___eq__ ["self", "other"] [] := T.F_Item___eq__.binds fun _ _ _ _ _ _ us hl => match us, hl with | [_, _], _ => rfl
theorem Txt.b__law_pen {K : PySem.W.Frag} {mg : Str → Option Value} {a : Ad} (T : Txt K mg a) : Binds K a.d__law_pen ["script"] [] := T.F__law_pen.binds fun _ _ _ _ _ _ us hl => match us, hl with | [_], _ => rfl
theorem Txt.b__law_next {K : PySem.W.Frag} {mg : Str → Option Value} {a : Ad} (T : Txt K mg a) : Binds K a.d__law_next ["pen"] [] := T.F__law_next.binds fun _ _ _ _ _ _ us hl => match us, hl with | [_], _ => rfl
theorem Txt.b__law_draw {K : PySem.W.Frag} {mg : Str → Option Value} {a : Ad} (T : Txt K mg a) : Binds K a.d__law_draw ["pen", "below"] [] := T.F__law_draw.binds fun _ _ _ _ _ _ us hl => match us, hl with | [_, _], _ => rfl
theorem Txt.b__law_before {K : PySem.W.Frag} {mg : Str → Option Value} {a : Ad} (T : Txt K mg a) : Binds K a.d__law_before ["one", "two"] [] := T.F__law_before.binds fun _ _ _ _ _ _ us hl => match us, hl with | [_, _], _ => rfl
theorem Txt.b__law_loose {K : PySem.W.Frag} {mg : Str → Option Value} {a : Ad} (T : Txt K mg a) : Binds K a.d__law_loose ["one", "two"] [] := T.F__law_loose.binds fun _ _ _ _ _ _ us hl => match us, hl with | [_, _], _ => rfl
theorem Txt.b__law_row {K : PySem.W.Frag} {mg : Str → Option Value} {a : Ad} (T : Txt K mg a) : Binds K a.d__law_row ["pen"] [] := T.F__law_row.binds fun _ _ _ _ _ _ us hl => match us, hl with | [_], _ => rfl
theorem Txt.b__law_item {K : PySem.W.Frag} {mg : Str → Option Value} {a : Ad} (T : Txt K mg a) : Binds K a.d__law_item ["row"] [] := T.F__law_item.binds fun _ _ _ _ _ _ us hl => match us, hl with | [_], _ => rfl
theorem Txt.b_law {K : PySem.W.Frag} {mg : Str → Option Value} {a : Ad} (T : Txt K mg a) : Binds K a.d_law ["script"] [] := T.F_law.binds fun _ _ _ _ _ _ us hl => match us, hl with | [_], _ => rfl
theorem txt_get {K : PySem.W.Frag} {h : Heap} {mg : Str → Option Value} (X : K.In h) (G : h.Ns mainGlobals mg)
    {f1 : Addr} {oc2 : Value} {dc3 : Value} {pm4 : Value} {cd5 : Value} {ct6 : Value} {kV7 : Value} {od8 : Option Addr}
    {an9 : Option Addr} {sl10 : Array (Option Value)} {C15 : Addr} {t23 : Tok} {D27 : Addr} {f28 : Addr} {oc29 : Value} {dc30 : Value}
    {pm31 : Value} {cd32 : Value} {ct33 : Value} {od34 : Option Addr} {an35 : Option Addr} {sl36 : Array (Option Value)} {t44 : Tok} {f46 : Addr}
    {oc47 : Value} {dc48 : Value} {pm49 : Value} {cd50 : Value} {ct51 : Value} {kV52 : Value} {od53 : Option Addr} {an54 : Option Addr}
    {sl55 : Array (Option Value)} {p56 : Addr} {r57 : List Value} {f63 : Addr} {oc64 : Value} {dc65 : Value} {pm66 : Value} {cd67 : Value}
    {ct68 : Value} {kV69 : Value} {od70 : Option Addr} {an71 : Option Addr} {sl72 : Array (Option Value)} {p73 : Addr} {r74 : List Value} {f82 : Addr}
    {oc83 : Value} {dc84 : Value} {pm85 : Value} {cd86 : Value} {ct87 : Value} {kV88 : Value} {od89 : Option Addr} {an90 : Option Addr}
    {sl91 : Array (Option Value)} {p92 : Addr} {r93 : List Value} {f101 : Addr} {oc102 : Value} {dc103 : Value} {pm104 : Value} {cd105 : Value}
    {ct106 : Value} {kV107 : Value} {od108 : Option Addr} {an109 : Option Addr} {sl110 : Array (Option Value)} {p111 : Addr} {r112 : List Value} {f120 : Addr}
    {oc121 : Value} {dc122 : Value} {pm123 : Value} {cd124 : Value} {ct125 : Value} {kV126 : Value} {od127 : Option Addr} {an128 : Option Addr}
    {sl129 : Array (Option Value)} {f135 : Addr} {oc136 : Value} {dc137 : Value} {pm138 : Value} {cd139 : Value} {ct140 : Value} {kV141 : Value}
    {od142 : Option Addr} {an143 : Option Addr} {sl144 : Array (Option Value)} {f150 : Addr} {oc151 : Value} {dc152 : Value} {pm153 : Value} {cd154 : Value}
    {ct155 : Value} {kV156 : Value} {od157 : Option Addr} {an158 : Option Addr} {sl159 : Array (Option Value)} {N165 : Addr} {e166 : Str} {e167 : Str}
    {e168 : List Value} {e169 : Bool} {e170 : List Str} {e171 : List Value} {e172 : Bool} {e173 : Option Bool} {e174 : Option Addr} {e175 : Option Value}
    {e176 : Option Value} {e177 : Option Value} {e178 : Option Value} {e179 : Option Value} {e180 : String} {f195 : Addr} {oc196 : Value} {dc197 : Value}
    {pm198 : Value} {cd199 : Value} {ct200 : Value} {kV201 : Value} {od202 : Option Addr} {an203 : Option Addr} {sl204 : Array (Option Value)} {f209 : Addr}
    {oc210 : Value} {dc211 : Value} {pm212 : Value} {cd213 : Value} {ct214 : Value} {kV215 : Value} {od216 : Option Addr} {an217 : Option Addr}
    {sl218 : Array (Option Value)} {f223 : Addr} {oc224 : Value} {dc225 : Value} {pm226 : Value} {cd227 : Value} {ct228 : Value} {kV229 : Value}
    {od230 : Option Addr} {an231 : Option Addr} {sl232 : Array (Option Value)} {f237 : Addr} {oc238 : Value} {dc239 : Value} {pm240 : Value} {cd241 : Value}
    {ct242 : Value} {kV243 : Value} {od244 : Option Addr} {an245 : Option Addr} {sl246 : Array (Option Value)} {f251 : Addr} {oc252 : Value} {dc253 : Value}
    {pm254 : Value} {cd255 : Value} {ct256 : Value} {kV257 : Value} {od258 : Option Addr} {an259 : Option Addr} {sl260 : Array (Option Value)} {f265 : Addr}
    {oc266 : Value} {dc267 : Value} {pm268 : Value} {cd269 : Value} {ct270 : Value} {kV271 : Value} {od272 : Option Addr} {an273 : Option Addr}
    {sl274 : Array (Option Value)} {f279 : Addr} {oc280 : Value} {dc281 : Value} {pm282 : Value} {cd283 : Value} {ct284 : Value} {kV285 : Value}
    {od286 : Option Addr} {an287 : Option Addr} {sl288 : Array (Option Value)} {f293 : Addr} {oc294 : Value} {dc295 : Value} {pm296 : Value} {cd297 : Value}
    {ct298 : Value} {kV299 : Value} {od300 : Option Addr} {an301 : Option Addr} {sl302 : Array (Option Value)} {t307 : Tok}
    (a11 : PySem.W.nsIn K mainGlobals "is_whole" = some (some (.ref f1)))
    (l12 : K.lookup f1 = some ⟨oc2, od8, .func (PySem.W.fnOf "is_whole" "is_whole" (defArgs s_is_whole) (defBody s_is_whole) (defScope s_is_whole) .none kV7 dc3 pm4 an9 cd5 ct6), sl10⟩)
    (c13 : PySem.W.codeIn K cd5 "is_whole" = true)
    (k14 : PySem.W.keepIn K (.ref f1) = true)
    (a16 : PySem.W.nsIn K mainGlobals "Item" = some (some (.ref C15)))
    (pg17 : PySem.W.plainGet K C15 Str.empty = true)
    (hd18 : PySem.W.hasDictIn K C15 = true)
    (po19 : PySem.W.plainOver K C15 = true)
    (sa20 : PySem.W.findIn K (.ref C15) "__setattr__" = some (some (.builtin "object.__setattr__")))
    (rd21 : PySem.W.readsIn K C15 (.type "type") = true)
    (ga22 : PySem.W.specialIn K (.ref C15) "__getattribute__" = some (some (.builtin "type.__getattribute__")))
    (fa24 : PySem.W.findIn K (.ref C15) "MOST" = some (some (.int 999 t23)))
    (gt25 : PySem.W.specialIn K (.int 999 t23) "__get__" = some none)
    (cv26 : PySem.W.findCls K (.ref C15) (.type "type") "MOST" = some (.val (.int 999 t23)))
    (a37 : PySem.W.findIn K (.ref C15) "__init__" = some (some (.ref f28)))
    (i38 : PySem.W.isFn K (.ref f28) = true)
    (mk39 : PySem.W.makesIn K C15 = true)
    (kc40 : PySem.W.keepIn K (.ref C15) = true)
    (l41 : K.lookup f28 = some ⟨oc29, od34, .func (PySem.W.fnOf "__init__" "Item.__init__" (defArgs s_Item___init__) (defBody s_Item___init__) (defScope s_Item___init__) .none (.ref D27) dc30 pm31 an35 cd32 ct33), sl36⟩)
    (c42 : PySem.W.codeIn K cd32 "Item.__init__" = true)
    (k43 : PySem.W.keepIn K (.ref f28) = true)
    (q45 : PySem.W.nsIn K D27 "price" = some (some (.int 1 t44)))
    (a58 : PySem.W.findCls K (.ref C15) (.type "type") "is_name" = some (.get (.builtin "staticmethod.__get__") (.ref p56) .none (.ref C15)))
    (rc59 : PySem.W.recIn K p56 "staticmethod" = some (.ref f46 :: r57))
    (l60 : K.lookup f46 = some ⟨oc47, od53, .func (PySem.W.fnOf "is_name" "Item.is_name" (defArgs s_Item_is_name) (defBody s_Item_is_name) (defScope s_Item_is_name) .none kV52 dc48 pm49 an54 cd50 ct51), sl55⟩)
    (c61 : PySem.W.codeIn K cd50 "Item.is_name" = true)
    (k62 : PySem.W.keepIn K (.ref f46) = true)
    (a75 : PySem.W.findIn K (.ref C15) "least" = some (some (.ref p73)))
    (gt76 : PySem.W.specialIn K (.ref p73) "__get__" = some (some (.builtin "property.__get__")))
    (tk77 : PySem.W.takesIn K (.ref p73) = some true)
    (rc78 : PySem.W.recIn K p73 "property" = some (.ref f63 :: r74))
    (l79 : K.lookup f63 = some ⟨oc64, od70, .func (PySem.W.fnOf "least" "Item.least" (defArgs s_Item_least) (defBody s_Item_least) (defScope s_Item_least) .none kV69 dc65 pm66 an71 cd67 ct68), sl72⟩)
    (c80 : PySem.W.codeIn K cd67 "Item.least" = true)
    (k81 : PySem.W.keepIn K (.ref f63) = true)
    (a94 : PySem.W.findIn K (.ref C15) "greatest" = some (some (.ref p92)))
    (gt95 : PySem.W.specialIn K (.ref p92) "__get__" = some (some (.builtin "property.__get__")))
    (tk96 : PySem.W.takesIn K (.ref p92) = some true)
    (rc97 : PySem.W.recIn K p92 "property" = some (.ref f82 :: r93))
    (l98 : K.lookup f82 = some ⟨oc83, od89, .func (PySem.W.fnOf "greatest" "Item.greatest" (defArgs s_Item_greatest) (defBody s_Item_greatest) (defScope s_Item_greatest) .none kV88 dc84 pm85 an90 cd86 ct87), sl91⟩)
    (c99 : PySem.W.codeIn K cd86 "Item.greatest" = true)
    (k100 : PySem.W.keepIn K (.ref f82) = true)
    (a113 : PySem.W.findIn K (.ref C15) "is_exact" = some (some (.ref p111)))
    (gt114 : PySem.W.specialIn K (.ref p111) "__get__" = some (some (.builtin "property.__get__")))
    (tk115 : PySem.W.takesIn K (.ref p111) = some true)
    (rc116 : PySem.W.recIn K p111 "property" = some (.ref f101 :: r112))
    (l117 : K.lookup f101 = some ⟨oc102, od108, .func (PySem.W.fnOf "is_exact" "Item.is_exact" (defArgs s_Item_is_exact) (defBody s_Item_is_exact) (defScope s_Item_is_exact) .none kV107 dc103 pm104 an109 cd105 ct106), sl110⟩)
    (c118 : PySem.W.codeIn K cd105 "Item.is_exact" = true)
    (k119 : PySem.W.keepIn K (.ref f101) = true)
    (a130 : PySem.W.findIn K (.ref C15) "is_surely_before" = some (some (.ref f120)))
    (i131 : PySem.W.isFn K (.ref f120) = true)
    (l132 : K.lookup f120 = some ⟨oc121, od127, .func (PySem.W.fnOf "is_surely_before" "Item.is_surely_before" (defArgs s_Item_is_surely_before) (defBody s_Item_is_surely_before) (defScope s_Item_is_surely_before) .none kV126 dc122 pm123 an128 cd124 ct125), sl129⟩)
    (c133 : PySem.W.codeIn K cd124 "Item.is_surely_before" = true)
    (k134 : PySem.W.keepIn K (.ref f120) = true)
    (a145 : PySem.W.findIn K (.ref C15) "is_loose_with" = some (some (.ref f135)))
    (i146 : PySem.W.isFn K (.ref f135) = true)
    (l147 : K.lookup f135 = some ⟨oc136, od142, .func (PySem.W.fnOf "is_loose_with" "Item.is_loose_with" (defArgs s_Item_is_loose_with) (defBody s_Item_is_loose_with) (defScope s_Item_is_loose_with) .none kV141 dc137 pm138 an143 cd139 ct140), sl144⟩)
    (c148 : PySem.W.codeIn K cd139 "Item.is_loose_with" = true)
    (k149 : PySem.W.keepIn K (.ref f135) = true)
    (a160 : PySem.W.findIn K (.ref C15) "__eq__" = some (some (.ref f150)))
    (i161 : PySem.W.isFn K (.ref f150) = true)
    (l162 : K.lookup f150 = some ⟨oc151, od157, .func (PySem.W.fnOf "__eq__" "Item.__eq__" (defArgs s_Item___eq__) (defBody s_Item___eq__) (defScope s_Item___eq__) .none kV156 dc152 pm153 an158 cd154 ct155), sl159⟩)
    (c163 : PySem.W.codeIn K cd154 "Item.__eq__" = true)
    (k164 : PySem.W.keepIn K (.ref f150) = true)
    (lc181 : K.lookup C15 = some (excClassObj e166 e167 C15 N165 e168 [.type "object"] e169 e170 e171 e172 e173 e174 e175 e176 e177 e178 e179 e180))
    (no182 : PySem.W.nsOkIn K N165 = true)
    (ee183 : PySem.W.nsIn K N165 "__eq__" = some (some (.ref f150)))
    (en184 : PySem.W.nsIn K N165 "__ne__" = some none)
    (na185 : PySem.W.findIn K (.ref C15) "_name" = some none)
    (na186 : PySem.W.findIn K (.ref C15) "_least" = some none)
    (na187 : PySem.W.findIn K (.ref C15) "_greatest" = some none)
    (na188 : PySem.W.findIn K (.ref C15) "_price" = some none)
    (ha189 : PySem.W.findIn K (.ref C15) "__class__" = some (some (.builtin "object.__class__")))
    (hn190 : PySem.W.specialIn K (.builtin "object.__class__") "__get__" = some (some (.builtin "getset_descriptor.__get__")))
    (ht191 : PySem.W.takesIn K (.builtin "object.__class__") = some true)
    (hm192 : PySem.W.mroIn K C15 (.type "object") = some true)
    (kt193 : ∀ t ∈ kinds, PySem.W.kitOne K (.type t) (.ref C15) = some false)
    (kd194 : ∀ t ∈ kinds, PySem.W.notFirst K C15 (.type t) = true)
    (a205 : PySem.W.nsIn K mainGlobals "_law_pen" = some (some (.ref f195)))
    (l206 : K.lookup f195 = some ⟨oc196, od202, .func (PySem.W.fnOf "_law_pen" "_law_pen" (defArgs s__law_pen) (defBody s__law_pen) (defScope s__law_pen) .none kV201 dc197 pm198 an203 cd199 ct200), sl204⟩)
    (c207 : PySem.W.codeIn K cd199 "_law_pen" = true)
    (k208 : PySem.W.keepIn K (.ref f195) = true)
    (a219 : PySem.W.nsIn K mainGlobals "_law_next" = some (some (.ref f209)))
    (l220 : K.lookup f209 = some ⟨oc210, od216, .func (PySem.W.fnOf "_law_next" "_law_next" (defArgs s__law_next) (defBody s__law_next) (defScope s__law_next) .none kV215 dc211 pm212 an217 cd213 ct214), sl218⟩)
    (c221 : PySem.W.codeIn K cd213 "_law_next" = true)
    (k222 : PySem.W.keepIn K (.ref f209) = true)
    (a233 : PySem.W.nsIn K mainGlobals "_law_draw" = some (some (.ref f223)))
    (l234 : K.lookup f223 = some ⟨oc224, od230, .func (PySem.W.fnOf "_law_draw" "_law_draw" (defArgs s__law_draw) (defBody s__law_draw) (defScope s__law_draw) .none kV229 dc225 pm226 an231 cd227 ct228), sl232⟩)
    (c235 : PySem.W.codeIn K cd227 "_law_draw" = true)
    (k236 : PySem.W.keepIn K (.ref f223) = true)
    (a247 : PySem.W.nsIn K mainGlobals "_law_before" = some (some (.ref f237)))
    (l248 : K.lookup f237 = some ⟨oc238, od244, .func (PySem.W.fnOf "_law_before" "_law_before" (defArgs s__law_before) (defBody s__law_before) (defScope s__law_before) .none kV243 dc239 pm240 an245 cd241 ct242), sl246⟩)
    (c249 : PySem.W.codeIn K cd241 "_law_before" = true)
    (k250 : PySem.W.keepIn K (.ref f237) = true)
    (a261 : PySem.W.nsIn K mainGlobals "_law_loose" = some (some (.ref f251)))
    (l262 : K.lookup f251 = some ⟨oc252, od258, .func (PySem.W.fnOf "_law_loose" "_law_loose" (defArgs s__law_loose) (defBody s__law_loose) (defScope s__law_loose) .none kV257 dc253 pm254 an259 cd255 ct256), sl260⟩)
    (c263 : PySem.W.codeIn K cd255 "_law_loose" = true)
    (k264 : PySem.W.keepIn K (.ref f251) = true)
    (a275 : PySem.W.nsIn K mainGlobals "_law_row" = some (some (.ref f265)))
    (l276 : K.lookup f265 = some ⟨oc266, od272, .func (PySem.W.fnOf "_law_row" "_law_row" (defArgs s__law_row) (defBody s__law_row) (defScope s__law_row) .none kV271 dc267 pm268 an273 cd269 ct270), sl274⟩)
    (c277 : PySem.W.codeIn K cd269 "_law_row" = true)
    (k278 : PySem.W.keepIn K (.ref f265) = true)
    (a289 : PySem.W.nsIn K mainGlobals "_law_item" = some (some (.ref f279)))
    (l290 : K.lookup f279 = some ⟨oc280, od286, .func (PySem.W.fnOf "_law_item" "_law_item" (defArgs s__law_item) (defBody s__law_item) (defScope s__law_item) .none kV285 dc281 pm282 an287 cd283 ct284), sl288⟩)
    (c291 : PySem.W.codeIn K cd283 "_law_item" = true)
    (k292 : PySem.W.keepIn K (.ref f279) = true)
    (a303 : PySem.W.nsIn K mainGlobals "law" = some (some (.ref f293)))
    (l304 : K.lookup f293 = some ⟨oc294, od300, .func (PySem.W.fnOf "law" "law" (defArgs s_law) (defBody s_law) (defScope s_law) .none kV299 dc295 pm296 an301 cd297 ct298), sl302⟩)
    (c305 : PySem.W.codeIn K cd297 "law" = true)
    (k306 : PySem.W.keepIn K (.ref f293) = true)
    (a308 : PySem.W.nsIn K mainGlobals "LONGEST_NAME" = some (some (.int 8 t307)))
    (z309 : PySem.W.nsIn K mainGlobals "len" = some none)
    (z310 : PySem.W.nsIn K mainGlobals "list" = some none)
    (z311 : PySem.W.nsIn K mainGlobals "isinstance" = some none)
    (z312 : PySem.W.nsIn K mainGlobals "str" = some none)
    (z313 : PySem.W.nsIn K mainGlobals "int" = some none)
    (z314 : PySem.W.nsIn K mainGlobals "bool" = some none)
    (z315 : PySem.W.nsIn K mainGlobals "range" = some none)
    (z316 : PySem.W.nsIn K mainGlobals "max" = some none)
    (z317 : PySem.W.nsIn K mainGlobals "repr" = some none)
    (z318 : PySem.W.nsIn K mainGlobals "all" = some none)
    : ∃ a : Ad, Txt K mg a := ⟨{ f_is_whole := f1, d_is_whole := _, c_Item := C15, f_Item___init__ := f28, d_Item___init__ := _, f_Item_is_name := f46, d_Item_is_name := _, p_Item_is_name := p56, f_Item_least := f63, d_Item_least := _, p_Item_least := p73, f_Item_greatest := f82, d_Item_greatest := _, p_Item_greatest := p92, f_Item_is_exact := f101, d_Item_is_exact := _, p_Item_is_exact := p111, f_Item_is_surely_before := f120, d_Item_is_surely_before := _, f_Item_is_loose_with := f135, d_Item_is_loose_with := _, f_Item___eq__ := f150, d_Item___eq__ := _, f__law_pen := f195, d__law_pen := _, f__law_next := f209, d__law_next := _, f__law_draw := f223, d__law_draw := _, f__law_before := f237, d__law_before := _, f__law_loose := f251, d__law_loose := _, f__law_row := f265, d__law_row := _, f__law_item := f279, d__law_item := _, f_law := f293, d_law := _ },
  { F_is_whole := fun_mk l12 c13 k14
    g_is_whole := PySem.W.mg_of X G a11
    g_Item := PySem.W.mg_of X G a16
    cl_Item := ⟨pg17, hd18, po19, sa20⟩
    rd_Item := ⟨rd21, ga22⟩
    co_Item_MOST := ⟨_, fa24, ⟨_, rfl⟩, gt25, by decide⟩
    cv_Item_MOST := ⟨_, cv26, ⟨_, rfl⟩⟩
    mk_Item := ⟨mk39, a37, i38, kc40⟩
    F_Item___init__ := ⟨⟨_, _, .none, _, _, _, _, _, _, _, rfl, l41, c42, .inl ⟨rfl, rfl⟩, .inr ⟨_, rfl, fun z hz => by obtain rfl := List.mem_singleton.mp hz; exact ⟨_, q45, _, rfl⟩⟩⟩, k43⟩
    F_Item_is_name := fun_mk l60 c61 k62
    m_Item_is_name := ⟨a58, ⟨_, rc59⟩, k62⟩
    F_Item_least := fun_mk l79 c80 k81
    m_Item_least := ⟨a75, gt76, tk77, _, rc78⟩
    F_Item_greatest := fun_mk l98 c99 k100
    m_Item_greatest := ⟨a94, gt95, tk96, _, rc97⟩
    F_Item_is_exact := fun_mk l117 c118 k119
    m_Item_is_exact := ⟨a113, gt114, tk115, _, rc116⟩
    F_Item_is_surely_before := fun_mk l132 c133 k134
    m_Item_is_surely_before := ⟨a130, i131, k134⟩
    F_Item_is_loose_with := fun_mk l147 c148 k149
    m_Item_is_loose_with := ⟨a145, i146, k149⟩
    F_Item___eq__ := fun_mk l162 c163 k164
    m_Item___eq__ := ⟨a160, i161, k164⟩
    eq_Item := ⟨⟨_, _, _, _, _, _, _, _, _, _, _, _, _, _, _, _, lc181, no182, ee183, en184⟩, a160, i161⟩
    n_Item__name := na185
    n_Item__least := na186
    n_Item__greatest := na187
    n_Item__price := na188
    ty_Item := ⟨ha189, hn190, ht191, hm192, kt193⟩
    kd_Item := kd194
    F__law_pen := fun_mk l206 c207 k208
    g__law_pen := PySem.W.mg_of X G a205
    F__law_next := fun_mk l220 c221 k222
    g__law_next := PySem.W.mg_of X G a219
    F__law_draw := fun_mk l234 c235 k236
    g__law_draw := PySem.W.mg_of X G a233
    F__law_before := fun_mk l248 c249 k250
    g__law_before := PySem.W.mg_of X G a247
    F__law_loose := fun_mk l262 c263 k264
    g__law_loose := PySem.W.mg_of X G a261
    F__law_row := fun_mk l276 c277 k278
    g__law_row := PySem.W.mg_of X G a275
    F__law_item := fun_mk l290 c291 k292
    g__law_item := PySem.W.mg_of X G a289
    F_law := fun_mk l304 c305 k306
    g_law := PySem.W.mg_of X G a303
    g_LONGEST_NAME := ⟨_, PySem.W.mg_of X G a308, _, rfl⟩
    b_len := PySem.W.mg_none_of X G z309
    b_list := PySem.W.mg_none_of X G z310
    b_isinstance := PySem.W.mg_none_of X G z311
    b_str := PySem.W.mg_none_of X G z312
    b_int := PySem.W.mg_none_of X G z313
    b_bool := PySem.W.mg_none_of X G z314
    b_range := PySem.W.mg_none_of X G z315
    b_max := PySem.W.mg_none_of X G z316
    b_repr := PySem.W.mg_none_of X G z317
    b_all := PySem.W.mg_none_of X G z318 }⟩
end Ask

set_option Elab.async false
set_option linter.all false
set_option maxRecDepth 100000
set_option maxHeartbeats 4000000
namespace Ask
open PySem L2
open PyProof.Rows
local macro_rules | `(tactic| walk_at "h") => `(tactic| first
  | assumption | exact upd_same
  | (refine Eq.trans (upd_ne (by first | assumption | exact Ne.symm (by assumption) | exact ne_of_none (by walk_at "h") (by assumption))) ?_; walk_at "h"))
local macro_rules | `(tactic| walk_at "rd") => `(tactic| repeat (first
  | (refine ⟨_, rfl, ?_⟩) | (refine ⟨_, _, rfl, rfl, ?_⟩)
  | (apply rd_ixL 0; walk_at "h"; exact rfl)
  | (apply rd_ixL 1; walk_at "h"; exact rfl)
  | (apply rd_ixL 2; walk_at "h"; exact rfl)
  | (refine ⟨by show (0 : Int) < _; decide, ?_⟩)
  | (refine ⟨.inr ⟨by decide, by decide⟩, ?_⟩)
  | (refine iteT ?_) | (refine iteF ?_)))
section
variable {P : Program} {w : World} {K : PySem.W.Frag} {mg : Str → Option Value} {base : Heap} {a : Ad}
theorem ok_pen (T : Txt K mg a) :
    FnOk P w K mg base CX0 1 a.f__law_pen a.d__law_pen ["script"] (spPen K) := by
  refine T.F__law_pen.ok sc__law_pen (fun vs H Q E h => ?_) (fun cdv A outer s H vs Q E hr h => ?_)
  · obtain ⟨a, ns, rfl, _⟩ := h
    rfl
  · obtain ⟨a, ns, rfl, hS, hl, k⟩ := h
    refine ⟨_, (pss_one (ps_ret (pe_lst (pa_cons (pe_callTy call_list_of (by rfl) T.b_list (by decide +kernel) (pa_cons (pe_slice sl_list (pv 0) po_none (po_some pe_int)) pa_nil)) (pa_cons pe_int (pa_cons pe_int pa_nil)))))), ?_⟩
    refine ⟨_, rfl, _, rfl, a, _, rfl, hS, fun q hq => ?_⟩
    refine ⟨q, _, rfl, .inl (SqL.of upd_same), fun l hl' => ?_⟩
    refine ⟨by show 3 ≤ sizeLine; decide, fun p hp => ?_⟩
    have nlq : l ≠ q := fun z => by
      rw [z, upd_same] at hl'
      cases hl'
    have npl : p ≠ l := fun z => by
      rw [z, upd_same] at hp
      cases hp
    have npq : p ≠ q := fun z => by
      rw [z, upd_ne nlq.symm, upd_same] at hp
      cases hp
    have hl0 : H l = none := by
      rw [upd_ne nlq] at hl'
      exact hl'
    have hp0 : H p = none := by
      rw [upd_ne npl, upd_ne npq] at hp
      exact hp
    refine k p _ hp0 ?_ ⟨l, 0, 0, ns.take 60, upd_same, ?_, by omega, by omega, by omega, ?_⟩
    · intro b o hb e
      rw [upd_ne hb, upd_ne (ne_of_none e hl0), upd_ne (ne_of_none e hq)]
      exact e
    · rw [upd_ne npl.symm, upd_same]
      rw [show (60 : Int) = ((60 : Nat) : Int) from rfl, cut_ints]
    · rw [List.length_take]
      omega
theorem ok_next (T : Txt K mg a) :
    FnOk P w K mg base CX0 1 a.f__law_next a.d__law_next ["pen"] spNext := by
  refine T.F__law_next.ok sc__law_next (fun vs H Q E h => ?_) (fun cdv A outer s H vs Q E hr h => ?_)
  · obtain ⟨p, n, l, i, v, ns, rfl, _⟩ := h
    rfl
  · obtain ⟨p, n, l, i, v, ns, rfl, hp, hl, i0, i1, n1, hns, k⟩ := h
    have nd := sc__law_next.nd
    have npl : l ≠ p := ne_of hl hp (by
      intro q
      have q2 := HO.lst.inj q
      cases ns with
      | nil => cases q2
      | cons a r => cases q2)
    refine ⟨_, (pss_cons (ps_set (i := 1) nd rfl (Or.inl rfl) (pe_ix ix_list (pv 0) pe_int (fun _ _ => rfl)))
  (pss_cons (ps_asg (pe_op op_add (pv 1) pe_int) (pg_sub (pv 0) pe_int set_list))
  (pss_cons (ps_set (i := 2) nd rfl (Or.inl rfl) (pe_op op_add (pe_op op_mul (pv 1) pe_int) pe_int))
  (Evl.pss_cut (ps_if (pt_cmpR (op_neD hr.units) (pe_ix ix_list (pv 0) pe_int (fun _ _ => rfl)) (pe_lst pa_nil) (nomark _))
    (pss_one (ps_set (i := 2) nd rfl (Or.inl rfl) (pe_ix ix_list (pe_ix ix_list (pv 0) pe_int (fun _ _ => rfl)) (pe_op op_mod (pv 1) (pe_callB call_len_seq (by rfl) T.b_len PySem.boot_len (pa_cons (pe_ix ix_list (pv 0) pe_int (fun _ _ => rfl)) pa_nil))) (fun _ _ => rfl))))
    pss_nil)
  (Evl.pss_cut (ps_if (PW.pt (pw_and (pt_cmpR op_lt (pv 1) (pe_callB call_len_seq (by rfl) T.b_len PySem.boot_len (pa_cons (pe_ix ix_list (pv 0) pe_int (fun _ _ => rfl)) pa_nil)) (nomark _)) (pw_and1 (pt_cmpR op_ge (pv 2) (pe_op op_pow pe_int pe_int) (nomark _)))))
    (pss_one (ps_ret (pv 2)))
    pss_nil)
  (Evl.pss_cut (ps_set (i := 3) nd rfl (Or.inl rfl) (pe_op op_mod (pe_op op_add (pe_op op_add (pe_op op_mod (pv 2) pe_int) (pe_op op_mul (pv 1) pe_int)) pe_int) pe_int))
  (Evl.pss_cut (ps_set (i := 4) nd rfl (Or.inl rfl) (pe_op op_mod (pe_op op_add (pe_op op_add (pe_op op_mul (pv 3) (pv 3)) (pe_op op_mul (pv 1) pe_int)) pe_int) pe_int))
  (Evl.pss_cut (ps_set (i := 5) nd rfl (Or.inl rfl) (pe_op op_mod (pe_op op_add (pe_op op_add (pe_op op_mul (pv 4) (pv 4)) (pv 3)) (pe_op op_mul (pe_op op_mul (pv 1) (pv 1)) pe_int)) pe_int))
  (pss_one (ps_ret (pe_op op_add (pe_op op_mul (pe_op op_add (pe_op op_mul (pv 5) pe_int) (pv 4)) pe_int) (pv 3)))))))))))), ?_⟩
    walk_at "rd"
    refine ⟨p, _, _, 1, rfl, rfl, hp, rfl, ?_⟩
    walk_at "rd"
    have hp' : upd H p (.lst [.ref l, .int (i + 1), .int v]) p = some (.lst [.ref l, .int (i + 1), .int v]) := upd_same
    have hl' : upd H p (.lst [.ref l, .int (i + 1), .int v]) l = some (.lst (ns.map V.int)) := by
      rw [upd_ne npl]
      exact hl
    show Evl.tCut _ _ _ _ _
    refine ⟨fun σ' H' => ∃ c : Int, σ' = [some (.ref p), some (.int i), some (.int c), none, none, none] ∧
      H' p = some (.lst [.ref l, .int (i + 1), .int v]) ∧ H' l = some (.lst (ns.map V.int)) ∧ (∀ z : Int, 0 ≤ z → Q (.int z) H'), ?_, ?_⟩
    · walk_at "rd"
      refine ⟨Nat.zero_le _, fun q hq => ?_⟩
      have nql : l ≠ q := ne_of_none hl' hq
      have nqp : p ≠ q := ne_of_none hp' hq
      have hp3 : upd (upd H p (.lst [.ref l, .int (i + 1), .int v])) q (.lst []) p = some (.lst [.ref l, .int (i + 1), .int v]) := by
        rw [upd_ne nqp]
        exact hp'
      have hl3 : upd (upd H p (.lst [.ref l, .int (i + 1), .int v])) q (.lst []) l = some (.lst (ns.map V.int)) := by
        rw [upd_ne nql]
        exact hl'
      refine ⟨_, _, .lst (SqL.of hl3) (dp_ints ns), .lst (SqL.of upd_same) .nil, shaped_ints ns, rfl, _, rfl, ?_⟩
      rw [ne_nil]
      have k3 : ∀ z : Int, 0 ≤ z → Q (.int z) (upd (upd H p (.lst [.ref l, .int (i + 1), .int v])) q (.lst [])) := fun z hz => k z hz _ (But.trans But.upd (But.new hq)) hp3
      cases ns with
      | nil => exact iteF ⟨_, rfl, hp3, hl3, k3⟩
      | cons a r =>
        refine iteT ?_
        walk_at "rd"
        refine ⟨_, _, rfl, .inl (SqL.of (by walk_at "h")), ?_⟩
        walk_at "rd"
        obtain ⟨j, ej, hj⟩ := mod_below i (n := (List.map V.int (a :: r)).length) (by rw [List.length_map]; exact Nat.succ_pos _)
        obtain ⟨c, hc⟩ := ints_at (ns := a :: r) (j := j) (by rw [List.length_map] at hj; exact hj)
        refine ⟨by rw [List.length_map]; show (0 : Int) < ((r.length + 1 : Nat) : Int); omega, ?_⟩
        refine ⟨l, _, _, .int c, rfl, rfl, SqL.of (by walk_at "h"), by rw [ej]; exact atI_nat hc, ?_⟩
        exact ⟨c, rfl, hp3, hl3, k3⟩
    · rintro σ' H' ⟨c, rfl, hp2, hl2, k2⟩
      have hi : -(2 ^ 64) < i ∧ i < 2 ^ 64 := ⟨by omega, by omega⟩
      refine ⟨fun σ' H2 => σ' = [some (.ref p), some (.int i), some (.int c), none, none, none] ∧ H2 = H', ?_, ?_⟩
      · walk_at "rd"
        refine ⟨_, _, rfl, .inl (SqL.of (by walk_at "h")), ?_⟩
        walk_at "rd"
        refine ite2 (fun hc => ?_) (fun hc => ?_)
        · walk_at "rd"
          refine ⟨⟨by decide, by decide, by decide⟩, ?_⟩
          walk_at "rd"
          refine ite2 (fun hd => ?_) (fun hd => ?_)
          · walk_at "rd"
            refine k2 c ?_
            have h := of_decide_eq_true hd
            have e : (10 : Int) ^ (18 : Int).toNat = 1000000000000000000 := by decide
            rw [e] at h
            omega
          · exact ⟨rfl, rfl⟩
        · exact iteF ⟨rfl, rfl⟩
      · rintro σ' H2' ⟨rfl, rfl⟩
        refine ⟨fun σ' H2 => ∃ low : Int, (0 ≤ low ∧ low < 2147483587) ∧ σ' = [some (.ref p), some (.int i), some (.int c), some (.int low), none, none] ∧ H2 = H2', ?_, ?_⟩
        · walk_at "rd"
          exact ⟨_, ⟨Int.emod_nonneg _ (by decide), Int.emod_lt_of_pos _ (by decide)⟩, rfl, rfl⟩
        · rintro σ' H2 ⟨low, ⟨l0, l1⟩, rfl, rfl⟩
          refine ⟨fun σ' H3 => ∃ mid : Int, (0 ≤ mid ∧ mid < 2147483563) ∧ σ' = [some (.ref p), some (.int i), some (.int c), some (.int low), some (.int mid), none] ∧ H3 = H2, ?_, ?_⟩
          · walk_at "rd"
            refine ⟨.inl ⟨by omega, by omega⟩, ?_⟩
            walk_at "rd"
            exact ⟨_, ⟨Int.emod_nonneg _ (by decide), Int.emod_lt_of_pos _ (by decide)⟩, rfl, rfl⟩
          · rintro σ' H3 ⟨mid, ⟨m0, m1⟩, rfl, rfl⟩
            refine ⟨fun σ' H4 => ∃ top : Int, (0 ≤ top ∧ top < 2147483549) ∧ σ' = [some (.ref p), some (.int i), some (.int c), some (.int low), some (.int mid), some (.int top)] ∧ H4 = H3, ?_, ?_⟩
            · walk_at "rd"
              refine ⟨.inl ⟨by omega, by omega⟩, ?_⟩
              walk_at "rd"
              refine ⟨.inl hi, ?_⟩
              walk_at "rd"
              exact ⟨_, ⟨Int.emod_nonneg _ (by decide), Int.emod_lt_of_pos _ (by decide)⟩, rfl, rfl⟩
            · rintro σ' H4 ⟨top, ⟨t0, t1⟩, rfl, rfl⟩
              walk_at "rd"
              exact k2 _ (by omega)
end
section
variable {P : Program} {w : World} {K : PySem.W.Frag} {mg : Str → Option Value} {base : Heap} {a : Ad}
theorem ok_draw (T : Txt K mg a) : FnOk P w K mg base CX0 2 a.f__law_draw a.d__law_draw ["pen", "below"] spDraw := by
  have G_law_next : FnOk P w K mg base CX0 1 a.f__law_next a.d__law_next ["pen"] spNext := ok_next T
  refine T.F__law_draw.ok sc__law_draw (fun vs H Q E h => ?_) (fun cdv A outer s H vs Q E hr h => ?_)
  · obtain ⟨p, n, b, rfl, _⟩ := h
    rfl
  · obtain ⟨p, n, b, rfl, ⟨l, i, v, ns, hp, hl, i0, i1, v0, hns⟩, n1, b0, b1, k⟩ := h
    have nd := sc__law_draw.nd
    refine ⟨_, (Evl.pss_cut (ps_if (pt_cmpR op_lt (pe_ix ix_list (pv 0) pe_int (fun _ _ => rfl)) (pv 1) (nomark _))
    (pss_one (ps_asg (pe_call G_law_next (hr.mono (by decide)) rfl T.g__law_next T.F__law_next.kp T.b__law_next .nil pass0 (pa_cons (pv 0) pa_nil)) (pg_sub (pv 0) pe_int set_list)))
    pss_nil)
  (pss_cons (ps_set (i := 2) nd rfl (Or.inl rfl) (pe_op op_mod (pe_ix ix_list (pv 0) pe_int (fun _ _ => rfl)) (pv 1)))
  (pss_cons (ps_asg (pe_op op_fdivW (pe_ix ix_list (pv 0) pe_int (fun _ _ => rfl)) (pv 1)) (pg_sub (pv 0) pe_int set_list))
  (pss_one (ps_ret (pv 2)))))), ?_⟩
    refine ⟨fun σ' H' => ∃ j u : Int, σ' = [some (.ref p), some (.int b), none] ∧ H' p = some (.lst [.ref l, .int j, .int u]) ∧
      0 ≤ j ∧ j ≤ i + 1 ∧ 0 ≤ u ∧ But p H H', ?_, ?_⟩
    · walk_at "rd"
      refine ite2 (fun hc => ?_) (fun hc => ?_)
      · walk_at "rd"
        refine ⟨p, n, l, i, v, ns, rfl, hp, hl, i0, i1, n1, hns, fun z hz H' hb' hp' => ?_⟩
        walk_at "rd"
        refine ⟨p, _, _, 2, rfl, rfl, hp', rfl, ?_⟩
        exact ⟨i + 1, z, rfl, upd_same, by omega, by omega, hz, But.trans hb' But.upd⟩
      · exact ⟨i, v, rfl, hp, i0, by omega, v0, But.refl p H⟩
    · rintro σ' H' ⟨j, u, rfl, hp', j0, j1, u0, hb'⟩
      walk_at "rd"
      refine ⟨b0, ?_⟩
      walk_at "rd"
      refine ⟨⟨b0, Nat.lt_of_lt_of_le (PySem.Flt.log2_lt_of (by decide : 0 < 200) (by omega)) (by decide)⟩, ?_⟩
      walk_at "rd"
      refine ⟨p, _, _, 2, rfl, rfl, hp', rfl, ?_⟩
      walk_at "rd"
      have nlp : l ≠ p := by
        refine ne_of hl hp ?_
        intro q
        have q2 := HO.lst.inj q
        cases ns with
        | nil => cases q2
        | cons a r => cases q2
      refine k _ _ (Int.emod_nonneg _ (by omega)) (Int.emod_lt_of_pos _ b0) (But.trans hb' But.upd) ⟨l, j, _, ns, upd_same, ?_, j0, by omega, ?_, hns⟩
      · rw [upd_ne nlp]
        exact hb' _ _ nlp hl
      · exact Int.ediv_nonneg u0 (by omega)
end
end Ask

set_option Elab.async false
set_option linter.all false
set_option maxRecDepth 100000
set_option maxHeartbeats 4000000
namespace Ask
open PySem L2
open PyProof.Rows
section
variable {P : Program} {w : World} {K : PySem.W.Frag} {mg : Str → Option Value} {base : Heap} {a : Ad}

/-- any object of a built-in kind -/
def Obj' (K : PySem.W.Frag) (H : Hp) (v : V) (t : String) : Prop := TyX K H v (.type t) ∧ t ∈ kinds
def spWhole (K : PySem.W.Frag) : Sp := fun vs H Q _ => ∃ v t, vs = [v] ∧ Obj' K H v t ∧ Q (.bl (t == "int")) H
theorem ok_whole (T : Txt K mg a) : FnOk P w K mg base CX0 1 a.f_is_whole a.d_is_whole ["thing"] (spWhole K) := by
  refine T.F_is_whole.ok sc_is_whole (fun vs H Q E h => ?_) (fun cdv A outer s H vs Q E hr h => ?_)
  · obtain ⟨v, t, rfl, _⟩ := h
    rfl
  · obtain ⟨v, t, rfl, ⟨ty, ht⟩, q⟩ := h
    refine ⟨_, (pss_one (ps_ret (pe_and (pe_callB call_isi (by rfl) T.b_isinstance (by decide +kernel) (pa_cons (pv 0) (pa_cons (pe_bltn (v := .ty "int") (by rfl) T.b_int (by decide +kernel) rfl) pa_nil))) (pe_one (pe_not (pe_callB call_isi (by rfl) T.b_isinstance (by decide +kernel) (pa_cons (pv 0) (pa_cons (pe_bltn (v := .ty "bool") (by rfl) T.b_bool (by decide +kernel) rfl) pa_nil)))))))), ?_⟩
    refine ⟨v, rfl, ?_⟩
    simp only [kinds, List.mem_cons, List.not_mem_nil, or_false] at ht
    rcases ht with rfl | rfl | rfl | rfl | rfl | rfl | rfl
    · exact ⟨v, .ty "int", _, _, false, rfl, .ty _, ty, kit_ty (by decide +kernel), false, rfl, iteF q⟩
    · refine ⟨v, .ty "int", _, _, true, rfl, .ty _, ty, kit_ty (by decide +kernel), true, rfl, iteT ?_⟩
      exact ⟨v, rfl, v, .ty "bool", _, _, true, rfl, .ty _, ty, kit_ty (by decide +kernel), true, rfl, q⟩
    · refine ⟨v, .ty "int", _, _, true, rfl, .ty _, ty, kit_ty (by decide +kernel), true, rfl, iteT ?_⟩
      exact ⟨v, rfl, v, .ty "bool", _, _, false, rfl, .ty _, ty, kit_ty (by decide +kernel), false, rfl, q⟩
    · exact ⟨v, .ty "int", _, _, false, rfl, .ty _, ty, kit_ty (by decide +kernel), false, rfl, iteF q⟩
    · exact ⟨v, .ty "int", _, _, false, rfl, .ty _, ty, kit_ty (by decide +kernel), false, rfl, iteF q⟩
    · exact ⟨v, .ty "int", _, _, false, rfl, .ty _, ty, kit_ty (by decide +kernel), false, rfl, iteF q⟩
    · exact ⟨v, .ty "int", _, _, false, rfl, .ty _, ty, kit_ty (by decide +kernel), false, rfl, iteF q⟩

/-- the name's signs, the name's length -/
def signB (c : Nat) : Bool := decide (97 ≤ c) && decide (c ≤ 122)
def nameB (x : Str) : Bool := decide (1 ≤ x.length) && decide (x.length ≤ 8) && x.cps.toList.all signB
def spIsName (K : PySem.W.Frag) : Sp := fun vs H Q _ => ∃ v t, vs = [v] ∧ Obj' K H v t ∧
  ((t ≠ "str" ∧ Q (.bl false) H) ∨ ∃ x, v = .str x ∧ x.length ≤ sizeLine ∧ ∀ H', Same H H' → Q (.bl (nameB x)) H')
theorem lt_one (c d : Nat) : decide ((⟨#[c]⟩ : Str).cps.toList < (⟨#[d]⟩ : Str).cps.toList) = decide (c < d) := by
  congr 1
  apply propext
  constructor
  · intro h
    cases h with
    | rel h => exact h
    | cons h => cases h
  · intro h
    exact List.Lex.rel h
theorem lt_a (c : Nat) : decide ((⟨#[c]⟩ : Str).cps.toList < (Str.ofString "a").cps.toList) = decide (c < 97) := by
  rw [show Str.ofString "a" = ⟨#[97]⟩ from by decide +kernel]
  exact lt_one c 97
theorem lt_z (c : Nat) : decide ((Str.ofString "z").cps.toList < (⟨#[c]⟩ : Str).cps.toList) = decide (122 < c) := by
  rw [show Str.ofString "z" = ⟨#[122]⟩ from by decide +kernel]
  exact lt_one 122 c
theorem ok_is_name (T : Txt K mg a) : FnOk P w K mg base CX0 1 a.f_Item_is_name a.d_Item_is_name ["thing"] (spIsName K) := by
  refine T.F_Item_is_name.ok sc_Item_is_name (fun vs H Q E h => ?_) (fun cdv A outer s H vs Q E hr h => ?_)
  · obtain ⟨v, t, rfl, _⟩ := h
    rfl
  · obtain ⟨v, t, rfl, ⟨ty, ht⟩, q⟩ := h
    have nd := sc_Item_is_name.nd
    refine ⟨_, (pss_cons (ps_if (PW.pt (pw_or (pt_not (pt_val (pe_callB call_isi (by rfl) T.b_isinstance (by decide +kernel) (pa_cons (pv 0) (pa_cons (pe_bltn (v := .ty "str") (by rfl) T.b_str (by decide +kernel) rfl) pa_nil))))) (pw_or1 (pt_not (pt_chain op_le op_le pe_int (pe_callB call_len_str (by rfl) T.b_len PySem.boot_len (pa_cons (pv 0) pa_nil)) (pe_gi rfl T.g_LONGEST_NAME))))))
    (pss_one (ps_ret pe_bl))
    pss_nil)
  (pss_one (ps_ret (pe_callB (cr_all rfl) (by rfl) T.b_all (by decide +kernel) (pa_cons (pe_lc (own := [("sign", 1)]) (g := gName 1) (tt := tYes) rfl nd (pi_str (pv 0)) (blkOk_by (N := ["thing", "sign"]) (sc := defScope s_Item_is_name) (by decide +kernel)) (fun _ _ _ _ _ => (pg_name (i := 1) nd rfl (Or.inl rfl))) (fun _ _ _ _ _ => pts_nil) (fun _ _ _ _ _ => (pe_chain op_le_str op_le_str pe_str (pv 1) pe_str))) pa_nil))))), ?_⟩
    refine ⟨v, rfl, ?_⟩
    rcases q with ⟨hn, q⟩ | ⟨x, rfl, hx, q⟩
    · refine ⟨v, .ty "str", _, _, false, rfl, .ty _, ty, kit_ty ?_, false, rfl, iteT (iteT q)⟩
      simp only [kinds, List.mem_cons, List.not_mem_nil, or_false] at ht
      rcases ht with rfl | rfl | rfl | rfl | rfl | rfl | rfl
      all_goals first | decide +kernel | exact absurd rfl hn
    · refine ⟨.str x, .ty "str", _, _, true, rfl, .ty _, .base (.str x), kit_ty (by decide +kernel), true, rfl, iteF ?_⟩
      refine ⟨_, rfl, x, rfl, hx, _, _, rfl, rfl, _, rfl, ?_⟩
      have hlen : x.cps.toList.length = x.length := by simp [Str.length]
      by_cases h1 : (1 : Int) ≤ ((x.length : Nat) : Int)
      · rw [decide_eq_true h1]
        refine iteT ⟨_, _, rfl, rfl, _, rfl, ?_⟩
        by_cases h8 : ((x.length : Nat) : Int) ≤ 8
        · rw [decide_eq_true h8]
          refine iteF ?_
          refine ⟨_, rfl, x, rfl, fun D hD => ?_⟩
          refine lc_it (walk_str (z := x)) (fun i H' => Same H H' ∧ H' D = some (.lst (((x.cps.toList.take i).map signB).map V.bl))) ⟨Same.new hD, upd_same⟩ (fun _ _ _ _ => trivial) ?_ ?_
          · rintro i z H1 H2 hi ⟨b1, b2⟩ ⟨rfl, c, hc, rfl⟩
            have hc' : x.cps.toList[i]? = some c := by rw [Array.getElem?_toList]; exact hc
            have step : x.cps.toList.take (i + 1) = x.cps.toList.take i ++ [c] := by
              rw [List.take_add_one, hc']
              rfl
            have fin : ∀ y, y = V.bl (signB c) → ∃ acc, H2 D = some (.lst acc) ∧ acc.length < sizeLine ∧
                (Same H (upd H2 D (.lst (acc ++ [y]))) ∧ upd H2 D (.lst (acc ++ [y])) D = some (.lst (((x.cps.toList.take (i + 1)).map signB).map V.bl))) := by
              rintro y rfl
              refine ⟨_, b2, ?_, Same.of b1 hD, ?_⟩
              · rw [List.length_map, List.length_map, List.length_take]
                exact Nat.lt_of_le_of_lt (show _ ≤ 8 by omega) (by decide)
              · rw [upd_same, step, List.map_append, List.map_append]
                rfl
            refine ⟨rfl, ?_⟩
            refine ⟨_, rfl, _, _, rfl, rfl, _, rfl, ?_⟩
            rw [lt_a]
            by_cases ha : 97 ≤ c
            · rw [decide_eq_false (show ¬ c < 97 by omega)]
              refine iteT ⟨_, _, rfl, rfl, ?_⟩
              rw [lt_z]
              refine fin _ ?_
              unfold signB
              rw [decide_eq_true ha, Bool.true_and]
              congr 1
              by_cases hz : c ≤ 122
              · rw [decide_eq_true hz, decide_eq_false (by omega)]
                rfl
              · rw [decide_eq_false hz, decide_eq_true (by omega)]
                rfl
            · rw [decide_eq_true (show c < 97 by omega)]
              refine iteF (fin _ ?_)
              unfold signB
              rw [decide_eq_false ha]
              rfl
          · rintro H1 ⟨b1, b2⟩
            refine ⟨D, _, rfl, SqL.of b2, ?_⟩
            have e : nameB x = (List.map signB (x.cps.toList.take x.cps.size)).all id := by
              unfold nameB
              rw [decide_eq_true (show 1 ≤ x.length by omega), decide_eq_true (show x.length ≤ 8 by omega), Bool.true_and, Bool.true_and]
              rw [List.take_of_length_le (by rw [Array.length_toList]; exact Nat.le_refl _), List.all_map]
              rfl
            rw [← e]
            exact q H1 b1
        · rw [decide_eq_false h8]
          refine iteT ?_
          have e : nameB x = false := by
            unfold nameB
            rw [decide_eq_false (show ¬ x.length ≤ 8 by omega), Bool.and_false, Bool.false_and]
          rw [← e]
          exact q H (Same.refl H)
      · rw [decide_eq_false h1]
        refine iteF ⟨_, rfl, ?_⟩
        have e : nameB x = false := by
          unfold nameB
          rw [decide_eq_false (show ¬ 1 ≤ x.length by omega), Bool.false_and, Bool.false_and]
        have q2 := q H (Same.refl H)
        rw [e] at q2
        exact q2
end
end Ask

set_option Elab.async false
set_option linter.all false
set_option maxRecDepth 100000
set_option maxHeartbeats 4000000
namespace Ask
open PySem L2
open PyProof.Rows
section
variable {P : Program} {w : World} {K : PySem.W.Frag} {mg : Str → Option Value} {base : Heap} {a : Ad}
def itF (nm : Str) (lo hi pr : Int) : List (Str × V) := [("_name", .str nm), ("_least", .int lo), ("_greatest", .int hi), ("_price", .int pr)]
theorem itF_put (nm : Str) (lo hi pr : Int) : putF "_price" (.int pr) (putF "_greatest" (.int hi) (putF "_least" (.int lo) (putF "_name" (.str nm) []))) = itF nm lo hi pr := by
  with_unfolding_all rfl
/-- what a new item's price is -/
def prI (lo hi pr : Int) : Int := if lo = hi then 0 else pr
/-- __init__, arguments that form an item -/
def spInit (C : Addr) : Sp := fun vs H Q _ => ∃ (x dx : Addr) (nm : Str) (lo hi pr : Int), vs = [.ref x, .str nm, .int lo, .int hi, .int pr] ∧
  H x = some (.ins C dx []) ∧ nameB nm = true ∧ lo ≤ hi ∧ 1 ≤ pr ∧ pr ≤ 999 ∧
  ∀ H', But x H H' → H' x = some (.ins C dx (itF nm lo hi (prI lo hi pr))) → Q .non H'
theorem name_len {nm : Str} (h : nameB nm = true) : nm.length ≤ 8 := by
  unfold nameB at h
  rw [Bool.and_eq_true, Bool.and_eq_true] at h
  exact of_decide_eq_true h.1.2
theorem ok_init (T : Txt K mg a) : FnOk P w K mg base CX0 3 a.f_Item___init__ a.d_Item___init__ ["self", "name", "least", "greatest", "price"] (spInit a.c_Item) := by
  have G_is_name : FnOk P w K mg base CX0 1 a.f_Item_is_name a.d_Item_is_name ["thing"] (spIsName K) := ok_is_name T
  have Gis_whole : FnOk P w K mg base CX0 1 a.f_is_whole a.d_is_whole ["thing"] (spWhole K) := ok_whole T
  refine T.F_Item___init__.ok sc_Item___init__ (fun vs H Q E h => ?_) (fun cdv A outer s H vs Q E hr h => ?_)
  · obtain ⟨x, dx, nm, lo, hi, pr, rfl, _⟩ := h
    rfl
  · obtain ⟨x, dx, nm, lo, hi, pr, rfl, hx, hn, hlh, p1, p2, k⟩ := h
    have nd := sc_Item___init__.nd
    have hl := name_len hn
    have oS : ∀ H, Obj' K H (.str nm) "str" := fun H => ⟨.base (.str nm), by decide⟩
    have oI : ∀ H (i : Int), Obj' K H (.int i) "int" := fun H i => ⟨.base (.int i), by decide⟩
    refine ⟨_, (pss_cons (ps_if (pt_not (pt_val (pe_smeth (pe_glob (v := .ref a.c_Item) rfl T.g_Item rfl) T.rd_Item T.m_Item_is_name G_is_name (hr.mono (by decide)) T.b_Item_is_name pass0 (pa_cons (pv 1) pa_nil))))
    (pss_one ps_never)
    pss_nil)
  (pss_cons (ps_if (PW.pt (pw_or (pt_not (pt_val (pe_call Gis_whole (hr.mono (by decide)) rfl T.g_is_whole T.F_is_whole.kp T.b_is_whole .nil pass0 (pa_cons (pv 2) pa_nil)))) (pw_or1 (pt_not (pt_val (pe_call Gis_whole (hr.mono (by decide)) rfl T.g_is_whole T.F_is_whole.kp T.b_is_whole .nil pass0 (pa_cons (pv 3) pa_nil)))))))
    (pss_one ps_never)
    pss_nil)
  (pss_cons (ps_if (pt_cmpR op_gt (pv 2) (pv 3) (nomark _))
    (pss_one ps_never)
    pss_nil)
  (pss_cons (ps_if (PW.pt (pw_or (pt_not (pt_val (pe_call Gis_whole (hr.mono (by decide)) rfl T.g_is_whole T.F_is_whole.kp T.b_is_whole .nil pass0 (pa_cons (pv 4) pa_nil)))) (pw_or1 (pt_not (pt_chain op_le op_le pe_int (pv 4) (ClX.pe_cval (pe_glob (v := .ref a.c_Item) rfl T.g_Item rfl)))))))
    (pss_one ps_never)
    pss_nil)
  (pss_cons (ps_fld (pv 0) (pv 1) rfl)
  (pss_cons (ps_fld (pv 0) (pv 2) rfl)
  (pss_cons (ps_fld (pv 0) (pv 3) rfl)
  (pss_one (ps_fld (pv 0) (pe_ifExp (pt_cmpR op_eq (pv 2) (pv 3) (nomark _)) pe_int (pv 4)) rfl))))))))), ?_⟩
    refine ⟨rfl, _, rfl, .str nm, "str", rfl, oS H, .inr ⟨nm, rfl, Nat.le_trans hl (by decide), fun H1 s1 => ?_⟩⟩
    rw [hn]
    have hx1 := s1 _ _ hx
    refine ⟨_, rfl, iteF ?_⟩
    -- the ends of the range
    refine ⟨_, rfl, _, "int", rfl, oI H1 lo, _, rfl, iteF ?_⟩
    refine ⟨_, rfl, _, "int", rfl, oI H1 hi, _, rfl, iteF ?_⟩
    refine ⟨_, rfl, _, rfl, _, _, rfl, rfl, _, rfl, ?_⟩
    rw [decide_eq_false (show ¬ hi < lo by omega)]
    refine iteF ?_
    -- the price
    refine ⟨_, rfl, _, "int", rfl, oI H1 pr, _, rfl, iteF ?_⟩
    refine ⟨_, rfl, _, _, rfl, rfl, _, rfl, ?_⟩
    rw [decide_eq_true p1]
    obtain ⟨u, cv⟩ := T.cv_Item_MOST
    refine iteT ⟨_, _, _, u, rfl, T.rd_Item, cv, _, _, rfl, rfl, _, rfl, ?_⟩
    rw [decide_eq_true p2]
    refine iteF ?_
    -- the fields
    refine ⟨_, rfl, _, rfl, x, _, dx, _, rfl, hx1, T.cl_Item, T.n_Item__name, (by show 0 < 1000; decide), ?_⟩
    refine ⟨_, rfl, _, rfl, x, _, dx, _, rfl, upd_same, T.cl_Item, T.n_Item__least, (by show 1 < 1000; decide), ?_⟩
    refine ⟨_, rfl, _, rfl, x, _, dx, _, rfl, upd_same, T.cl_Item, T.n_Item__greatest, (by show 2 < 1000; decide), ?_⟩
    refine ⟨_, rfl, _, rfl, rfl, _, rfl, ?_⟩
    have fin : ∀ z, z = prI lo hi pr → Q .non (upd (upd (upd (upd H1 x (.ins a.c_Item dx (putF "_name" (.str nm) []))) x (.ins a.c_Item dx (putF "_least" (.int lo) (putF "_name" (.str nm) [])))) x
        (.ins a.c_Item dx (putF "_greatest" (.int hi) (putF "_least" (.int lo) (putF "_name" (.str nm) []))))) x (.ins a.c_Item dx (putF "_price" (.int z) (putF "_greatest" (.int hi) (putF "_least" (.int lo) (putF "_name" (.str nm) [])))))) := by
      rintro z rfl
      refine k _ ?_ ?_
      · intro b o hb e
        rw [upd_ne hb, upd_ne hb, upd_ne hb, upd_ne hb]
        exact s1 b o e
      · rw [upd_same, itF_put]
    by_cases e : lo = hi
    · rw [decide_eq_true (congrArg V.int e)]
      refine iteT ?_
      refine ⟨_, rfl, x, _, dx, _, rfl, upd_same, T.cl_Item, T.n_Item__price, (by show 3 < 1000; decide), ?_⟩
      exact fin 0 (by unfold prI; rw [if_pos e])
    · rw [decide_eq_false (fun q => e (V.int.inj q))]
      refine iteF ?_
      refine ⟨_, rfl, _, rfl, x, _, dx, _, rfl, upd_same, T.cl_Item, T.n_Item__price, (by show 3 < 1000; decide), ?_⟩
      exact fin pr (by unfold prI; rw [if_neg e])
end
end Ask

set_option Elab.async false
set_option linter.all false
set_option maxRecDepth 100000
set_option maxHeartbeats 4000000
namespace Ask
open PySem L2
open PyProof.Rows
section
variable {P : Program} {w : World} {K : PySem.W.Frag} {mg : Str → Option Value} {base : Heap} {a : Ad}
/-- the item (nm, lo, hi, pr) stands at x -/
def ItemAt (C : Addr) (H : Hp) (x : Addr) (nm : Str) (lo hi pr : Int) : Prop := ∃ dx, H x = some (.ins C dx (itF nm lo hi pr))
theorem l_name {nm : Str} {lo hi pr : Int} : (itF nm lo hi pr).lookup (Str.ofString "_name") = some (.str nm) := by with_unfolding_all rfl
theorem l_least {nm : Str} {lo hi pr : Int} : (itF nm lo hi pr).lookup (Str.ofString "_least") = some (.int lo) := by with_unfolding_all rfl
theorem l_greatest {nm : Str} {lo hi pr : Int} : (itF nm lo hi pr).lookup (Str.ofString "_greatest") = some (.int hi) := by with_unfolding_all rfl
theorem l_price {nm : Str} {lo hi pr : Int} : (itF nm lo hi pr).lookup (Str.ofString "_price") = some (.int pr) := by with_unfolding_all rfl
theorem dV_int (i j : Int) : decide (V.int i = V.int j) = decide (i = j) := by
  by_cases h : i = j
  · rw [decide_eq_true h, decide_eq_true (congrArg V.int h)]
  · rw [decide_eq_false h, decide_eq_false (fun q => h (V.int.inj q))]
theorem dV_str (i j : Str) : decide (V.str i = V.str j) = decide (i = j) := by
  by_cases h : i = j
  · rw [decide_eq_true h, decide_eq_true (congrArg V.str h)]
  · rw [decide_eq_false h, decide_eq_false (fun q => h (V.str.inj q))]
def spLeast (C : Addr) : Sp := fun vs H Q _ => ∃ x nm lo hi pr, vs = [.ref x] ∧ ItemAt C H x nm lo hi pr ∧ Q (.int lo) H
def spIsExact (C : Addr) : Sp := fun vs H Q _ => ∃ x nm lo hi pr, vs = [.ref x] ∧ ItemAt C H x nm lo hi pr ∧ Q (.bl (decide (lo = hi))) H
def spBefore (C : Addr) : Sp := fun vs H Q _ => ∃ x nm lo hi pr y nm' lo' hi' pr', vs = [.ref x, .ref y] ∧ ItemAt C H x nm lo hi pr ∧ ItemAt C H y nm' lo' hi' pr' ∧ Q (.bl (decide (hi < lo'))) H
/-- loose: the ranges' word -/
def looseB (lo hi lo' hi' : Int) : Bool := !(decide (lo = hi) && decide (lo' = hi')) && !decide (hi < lo') && !decide (hi' < lo)
def spLoose (C : Addr) : Sp := fun vs H Q _ => ∃ x nm lo hi pr y nm' lo' hi' pr', vs = [.ref x, .ref y] ∧ ItemAt C H x nm lo hi pr ∧ ItemAt C H y nm' lo' hi' pr' ∧ Q (.bl (looseB lo hi lo' hi')) H
theorem ok_least (T : Txt K mg a) : FnOk P w K mg base CX0 1 a.f_Item_least a.d_Item_least ["self"] (spLeast a.c_Item) := by
  refine T.F_Item_least.ok sc_Item_least (fun vs H Q E h => ?_) (fun cdv A outer s H vs Q E hr h => ?_)
  · obtain ⟨x, nm, lo, hi, pr, rfl, _⟩ := h
    rfl
  · obtain ⟨x, nm, lo, hi, pr, rfl, ⟨dx, hx⟩, q⟩ := h
    exact ⟨_, (pss_one (ps_ret (pe_fld (pv 0) rfl))), _, rfl, x, _, dx, _, _, rfl, hx, T.cl_Item, T.n_Item__least, l_least, q⟩
theorem ok_is_exact (T : Txt K mg a) : FnOk P w K mg base CX0 1 a.f_Item_is_exact a.d_Item_is_exact ["self"] (spIsExact a.c_Item) := by
  refine T.F_Item_is_exact.ok sc_Item_is_exact (fun vs H Q E h => ?_) (fun cdv A outer s H vs Q E hr h => ?_)
  · obtain ⟨x, nm, lo, hi, pr, rfl, _⟩ := h
    rfl
  · obtain ⟨x, nm, lo, hi, pr, rfl, ⟨dx, hx⟩, q⟩ := h
    refine ⟨_, (pss_one (ps_ret (pe_cmpR op_eq (pe_fld (pv 0) rfl) (pe_fld (pv 0) rfl) (nomark _)))), _, rfl, x, _, dx, _, _, rfl, hx, T.cl_Item, T.n_Item__least, l_least, _, rfl, x, _, dx, _, _, rfl, hx, T.cl_Item, T.n_Item__greatest, l_greatest, rfl, ?_⟩
    rw [dV_int]
    exact q
theorem ok_before (T : Txt K mg a) : FnOk P w K mg base CX0 3 a.f_Item_is_surely_before a.d_Item_is_surely_before ["self", "other"] (spBefore a.c_Item) := by
  have G_least : FnOk P w K mg base CX0 1 a.f_Item_least a.d_Item_least ["self"] (spLeast a.c_Item) := ok_least T
  refine T.F_Item_is_surely_before.ok sc_Item_is_surely_before (fun vs H Q E h => ?_) (fun cdv A outer s H vs Q E hr h => ?_)
  · obtain ⟨x, nm, lo, hi, pr, y, nm', lo', hi', pr', rfl, _⟩ := h
    rfl
  · obtain ⟨x, nm, lo, hi, pr, y, nm', lo', hi', pr', rfl, ⟨dx, hx⟩, ⟨dy, hy⟩, q⟩ := h
    refine ⟨_, (pss_one (ps_ret (pe_cmpR op_lt (pe_fld (pv 0) rfl) (pe_prop (pv 1) T.cl_Item T.m_Item_least G_least (hr.mono (by decide)) T.b_Item_least .nil pass0 rfl) (nomark _)))), _, rfl, x, _, dx, _, _, rfl, hx, T.cl_Item, T.n_Item__greatest, l_greatest, ?_⟩
    exact ⟨_, rfl, y, dy, _, rfl, hy, y, _, _, _, _, rfl, ⟨dy, hy⟩, _, _, rfl, rfl, q⟩
theorem ok_loose (T : Txt K mg a) : FnOk P w K mg base CX0 4 a.f_Item_is_loose_with a.d_Item_is_loose_with ["self", "other"] (spLoose a.c_Item) := by
  have G_is_exact : FnOk P w K mg base CX0 1 a.f_Item_is_exact a.d_Item_is_exact ["self"] (spIsExact a.c_Item) := ok_is_exact T
  have G_before : FnOk P w K mg base CX0 3 a.f_Item_is_surely_before a.d_Item_is_surely_before ["self", "other"] (spBefore a.c_Item) := ok_before T
  refine T.F_Item_is_loose_with.ok sc_Item_is_loose_with (fun vs H Q E h => ?_) (fun cdv A outer s H vs Q E hr h => ?_)
  · obtain ⟨x, nm, lo, hi, pr, y, nm', lo', hi', pr', rfl, _⟩ := h
    rfl
  · obtain ⟨x, nm, lo, hi, pr, y, nm', lo', hi', pr', rfl, ix, iy, q⟩ := h
    obtain ⟨dx, hx⟩ := id ix
    obtain ⟨dy, hy⟩ := id iy
    unfold looseB at q
    have lb : (itF nm lo hi pr).lookup (Str.ofString "is_surely_before") = none := by with_unfolding_all rfl
    have lb' : (itF nm' lo' hi' pr').lookup (Str.ofString "is_surely_before") = none := by with_unfolding_all rfl
    refine ⟨_, (Evl.pss_cut (ps_if (PW.pt (pw_and (pt_val (pe_prop (pv 0) T.cl_Item T.m_Item_is_exact G_is_exact (hr.mono (by decide)) T.b_Item_is_exact .nil pass0 rfl)) (pw_and1 (pt_val (pe_prop (pv 1) T.cl_Item T.m_Item_is_exact G_is_exact (hr.mono (by decide)) T.b_Item_is_exact .nil pass0 rfl)))))
    (pss_one (ps_ret pe_bl))
    pss_nil)
  (pss_one (ps_ret (pe_and (pe_not (pe_meth (pv 0) T.cl_Item T.m_Item_is_surely_before G_before (hr.mono (by decide)) T.b_Item_is_surely_before .nil pass0 (pa_cons (pv 1) pa_nil))) (pe_one (pe_not (pe_meth (pv 1) T.cl_Item T.m_Item_is_surely_before G_before (hr.mono (by decide)) T.b_Item_is_surely_before .nil pass0 (pa_cons (pv 0) pa_nil)))))))), fun σ' H' => (decide (lo = hi) && decide (lo' = hi')) = false ∧ σ' = [some (.ref x), some (.ref y)] ∧ H' = H, ?_, ?_⟩
    · refine ⟨_, rfl, x, dx, _, rfl, hx, x, _, _, _, _, rfl, ix, _, rfl, ?_⟩
      by_cases e : lo = hi
      · rw [decide_eq_true e] at q ⊢
        refine iteT ⟨_, rfl, y, dy, _, rfl, hy, y, _, _, _, _, rfl, iy, _, rfl, ?_⟩
        by_cases e' : lo' = hi'
        · rw [decide_eq_true e'] at q ⊢
          exact iteT q
        · rw [decide_eq_false e']
          exact iteF ⟨rfl, rfl, rfl⟩
      · rw [decide_eq_false e]
        exact iteF (iteF ⟨rfl, rfl, rfl⟩)
    · rintro σ' H' ⟨e, rfl, rfl⟩
      rw [e] at q
      refine ⟨_, rfl, x, dx, _, rfl, hx, lb, _, rfl, x, nm, lo, hi, pr, y, nm', lo', hi', pr', rfl, ix, iy, _, rfl, _, rfl, ?_⟩
      by_cases e1 : hi < lo'
      · rw [decide_eq_true e1] at q ⊢
        exact iteF q
      · rw [decide_eq_false e1] at q ⊢
        refine iteT ?_
        exact ⟨_, rfl, y, dy, _, rfl, hy, lb', _, rfl, y, _, _, _, _, x, _, _, _, _, rfl, iy, ix, _, rfl, q⟩
/-- == : what is at the right -/
def eqI (C : Addr) (K : PySem.W.Frag) (H : Hp) (nm : Str) (lo hi pr : Int) (v : V) (b : Bool) : Prop :=
  (∃ t, Obj' K H v t ∧ b = false) ∨
  ∃ y nm' lo' hi' pr', v = .ref y ∧ ItemAt C H y nm' lo' hi' pr' ∧ b = (decide (nm = nm') && decide (lo = lo') && decide (hi = hi') && decide (pr = pr'))
def spEqI (C : Addr) (K : PySem.W.Frag) : Sp := fun vs H Q _ => ∃ x nm lo hi pr v b, vs = [.ref x, v] ∧ ItemAt C H x nm lo hi pr ∧ eqI C K H nm lo hi pr v b ∧ Q (.bl b) H
theorem ok_eq (T : Txt K mg a) : FnOk P w K mg base CX0 1 a.f_Item___eq__ a.d_Item___eq__ ["self", "other"] (spEqI a.c_Item K) := by
  refine T.F_Item___eq__.ok sc_Item___eq__ (fun vs H Q E h => ?_) (fun cdv A outer s H vs Q E hr h => ?_)
  · obtain ⟨x, nm, lo, hi, pr, v, b, rfl, _⟩ := h
    rfl
  · obtain ⟨x, nm, lo, hi, pr, v, b, rfl, ⟨dx, hx⟩, hv, q⟩ := h
    refine ⟨_, (pss_one (ps_ret (pe_and (pe_callB call_isi (by rfl) T.b_isinstance (by decide +kernel) (pa_cons (pv 1) (pa_cons (pe_glob (v := .ref a.c_Item) rfl T.g_Item rfl) pa_nil))) (pe_and (pe_cmpR op_eq (pe_fld (pv 0) rfl) (pe_fld (pv 1) rfl) (nomark _)) (pe_and (pe_cmpR op_eq (pe_fld (pv 0) rfl) (pe_fld (pv 1) rfl) (nomark _)) (pe_and (pe_cmpR op_eq (pe_fld (pv 0) rfl) (pe_fld (pv 1) rfl) (nomark _)) (pe_one (pe_cmpR op_eq (pe_fld (pv 0) rfl) (pe_fld (pv 1) rfl) (nomark _))))))))), v, rfl, ?_⟩
    rcases hv with ⟨t, ⟨ty, ht⟩, rfl⟩ | ⟨y, nm', lo', hi', pr', rfl, ⟨dy, hy⟩, rfl⟩
    · exact ⟨v, .ref a.c_Item, _, _, false, rfl, .own _, ty, T.ty_Item.kt t ht, false, rfl, iteF q⟩
    · refine ⟨.ref y, .ref a.c_Item, _, _, true, rfl, .own _, T.ty_Item.of T.cl_Item hy, kit_self, true, rfl, iteT ?_⟩
      refine ⟨_, rfl, x, _, dx, _, _, rfl, hx, T.cl_Item, T.n_Item__name, l_name, _, rfl, y, _, dy, _, _, rfl, hy, T.cl_Item, T.n_Item__name, l_name, rfl, _, rfl, ?_⟩
      rw [dV_str]
      by_cases e1 : nm = nm'
      · rw [decide_eq_true e1] at q ⊢
        refine iteT ⟨_, rfl, x, _, dx, _, _, rfl, hx, T.cl_Item, T.n_Item__least, l_least, _, rfl, y, _, dy, _, _, rfl, hy, T.cl_Item, T.n_Item__least, l_least, rfl, _, rfl, ?_⟩
        rw [dV_int]
        by_cases e2 : lo = lo'
        · rw [decide_eq_true e2] at q ⊢
          refine iteT ⟨_, rfl, x, _, dx, _, _, rfl, hx, T.cl_Item, T.n_Item__greatest, l_greatest, _, rfl, y, _, dy, _, _, rfl, hy, T.cl_Item, T.n_Item__greatest, l_greatest, rfl, _, rfl, ?_⟩
          rw [dV_int]
          by_cases e3 : hi = hi'
          · rw [decide_eq_true e3] at q ⊢
            refine iteT ⟨_, rfl, x, _, dx, _, _, rfl, hx, T.cl_Item, T.n_Item__price, l_price, _, rfl, y, _, dy, _, _, rfl, hy, T.cl_Item, T.n_Item__price, l_price, rfl, ?_⟩
            rw [dV_int]
            exact q
          · rw [decide_eq_false e3] at q ⊢
            exact iteF q
        · rw [decide_eq_false e2] at q ⊢
          exact iteF q
      · rw [decide_eq_false e1] at q ⊢
        exact iteF q
end
end Ask

set_option Elab.async false
set_option linter.all false
set_option maxRecDepth 100000
set_option maxHeartbeats 4000000
namespace Ask
open PySem L2
open PyProof.Rows
section
variable {P : Program} {w : World} {K : PySem.W.Frag} {mg : Str → Option Value} {base : Heap} {a : Ad}
theorem Pen.mono {H : Hp} {p : Addr} {n m : Nat} (h : Pen H p n) (e : n ≤ m) : Pen H p m := by
  obtain ⟨l, i, v, ns, h1, h2, h3, h4, h5⟩ := h
  exact ⟨l, i, v, ns, h1, h2, h3, by omega, h5⟩
/-- a new object beside the pen -/
theorem Pen.new {H : Hp} {p q : Addr} {n : Nat} {o : HO} (h : Pen H p n) (e : H q = none) : Pen (upd H q o) p n := by
  obtain ⟨l, i, v, ns, h1, h2, h3⟩ := h
  exact ⟨l, i, v, ns, by rw [upd_ne (ne_of_none h1 e)]; exact h1, by rw [upd_ne (ne_of_none h2 e)]; exact h2, h3⟩
/-- all kept -/
theorem Pen.same {H H' : Hp} {p : Addr} {n : Nat} (h : Pen H p n) (s : Same H H') : Pen H' p n := by
  obtain ⟨l, i, v, ns, h1, h2, h3⟩ := h
  exact ⟨l, i, v, ns, s _ _ h1, s _ _ h2, h3⟩
theorem Pen.ne {H : Hp} {p q : Addr} {n : Nat} {o : HO} (h : Pen H p n) (e : H q = some o) (ho : ∀ l i v, o ≠ .lst [.ref l, .int i, .int v]) : q ≠ p := by
  obtain ⟨l, i, v, ns, h1, _⟩ := h
  exact ne_of e h1 (ho l i v)
theorem Pen.ne0 {H : Hp} {p q : Addr} {n : Nat} (h : Pen H p n) (e : H q = none) : p ≠ q := by
  obtain ⟨l, i, v, ns, h1, _⟩ := h
  exact ne_of_none h1 e
/-- an item of a written list at a drawn place -/
theorem at_drawn {xs : List V} {z : Int} {n : Int} (h0 : 0 ≤ z) (h1 : z < n) (hn : n = (xs.length : Int)) : ∃ v, atI xs z = some v ∧ v ∈ xs := by
  obtain ⟨j, rfl⟩ := Int.eq_ofNat_of_zero_le h0
  have hj : j < xs.length := by omega
  exact ⟨xs[j], atI_nat (List.getElem?_eq_getElem hj), List.getElem_mem hj⟩

/-- the tuple of a row -/
def RowAt (H : Hp) (t : Addr) (nm : Str) (lo hi pr : Int) : Prop := H t = some (.tup [.str nm, .int lo, .int hi, .int pr])
structure Row (nm : Str) (lo hi pr : Int) : Prop where
  nm : nameB nm = true
  le : lo ≤ hi
  ex : lo = hi → pr = 0
  op : lo < hi → 1 ≤ pr ∧ pr ≤ 999
def spLBefore : Sp := fun vs H Q _ => ∃ x nm lo hi pr y nm' lo' hi' pr', vs = [.ref x, .ref y] ∧ RowAt H x nm lo hi pr ∧ RowAt H y nm' lo' hi' pr' ∧ Q (.bl (decide (hi < lo'))) H
def spLLoose : Sp := fun vs H Q _ => ∃ x nm lo hi pr y nm' lo' hi' pr', vs = [.ref x, .ref y] ∧ RowAt H x nm lo hi pr ∧ RowAt H y nm' lo' hi' pr' ∧ Q (.bl (looseB lo hi lo' hi')) H
theorem ok_lbefore (T : Txt K mg a) : FnOk P w K mg base CX0 1 a.f__law_before a.d__law_before ["one", "two"] spLBefore := by
  refine T.F__law_before.ok sc__law_before (fun vs H Q E h => ?_) (fun cdv A outer s H vs Q E hr h => ?_)
  · obtain ⟨x, nm, lo, hi, pr, y, nm', lo', hi', pr', rfl, _⟩ := h
    rfl
  · obtain ⟨x, nm, lo, hi, pr, y, nm', lo', hi', pr', rfl, hx, hy, q⟩ := h
    exact ⟨_, (pss_one (ps_ret (pe_cmpR op_lt (pe_ix ix_tup (pv 0) pe_int (fun _ _ => rfl)) (pe_ix ix_tup (pv 1) pe_int (fun _ _ => rfl)) (nomark _)))), _, rfl, x, _, _, _, rfl, rfl, SqT.of hx, atI_nat (j := 2) rfl, _, rfl, y, _, _, _, rfl, rfl, SqT.of hy, atI_nat (j := 1) rfl, _, _, rfl, rfl, q⟩
theorem ok_lloose (T : Txt K mg a) : FnOk P w K mg base CX0 2 a.f__law_loose a.d__law_loose ["one", "two"] spLLoose := by
  have G_law_before : FnOk P w K mg base CX0 1 a.f__law_before a.d__law_before ["one", "two"] spLBefore := ok_lbefore T
  refine T.F__law_loose.ok sc__law_loose (fun vs H Q E h => ?_) (fun cdv A outer s H vs Q E hr h => ?_)
  · obtain ⟨x, nm, lo, hi, pr, y, nm', lo', hi', pr', rfl, _⟩ := h
    rfl
  · obtain ⟨x, nm, lo, hi, pr, y, nm', lo', hi', pr', rfl, hx, hy, q⟩ := h
    unfold looseB at q
    refine ⟨_, (Evl.pss_cut (ps_if (PW.pt (pw_and (pt_cmpR op_eq (pe_ix ix_tup (pv 0) pe_int (fun _ _ => rfl)) (pe_ix ix_tup (pv 0) pe_int (fun _ _ => rfl)) (nomark _)) (pw_and1 (pt_cmpR op_eq (pe_ix ix_tup (pv 1) pe_int (fun _ _ => rfl)) (pe_ix ix_tup (pv 1) pe_int (fun _ _ => rfl)) (nomark _)))))
    (pss_one (ps_ret pe_bl))
    pss_nil)
  (pss_one (ps_ret (pe_and (pe_not (pe_call G_law_before (hr.mono (by decide)) rfl T.g__law_before T.F__law_before.kp T.b__law_before .nil pass0 (pa_cons (pv 0) (pa_cons (pv 1) pa_nil)))) (pe_one (pe_not (pe_call G_law_before (hr.mono (by decide)) rfl T.g__law_before T.F__law_before.kp T.b__law_before .nil pass0 (pa_cons (pv 1) (pa_cons (pv 0) pa_nil))))))))), fun σ' H' => (decide (lo = hi) && decide (lo' = hi')) = false ∧ σ' = [some (.ref x), some (.ref y)] ∧ H' = H, ?_, ?_⟩
    · refine ⟨_, rfl, x, _, _, _, rfl, rfl, SqT.of hx, atI_nat (j := 1) rfl, _, rfl, x, _, _, _, rfl, rfl, SqT.of hx, atI_nat (j := 2) rfl, rfl, _, rfl, ?_⟩
      rw [dV_int]
      by_cases e : lo = hi
      · rw [decide_eq_true e] at q ⊢
        refine iteT ⟨_, rfl, y, _, _, _, rfl, rfl, SqT.of hy, atI_nat (j := 1) rfl, _, rfl, y, _, _, _, rfl, rfl, SqT.of hy, atI_nat (j := 2) rfl, rfl, _, rfl, ?_⟩
        rw [dV_int]
        by_cases e' : lo' = hi'
        · rw [decide_eq_true e'] at q ⊢
          exact iteT q
        · rw [decide_eq_false e']
          exact iteF ⟨rfl, rfl, rfl⟩
      · rw [decide_eq_false e]
        exact iteF (iteF ⟨rfl, rfl, rfl⟩)
    · rintro σ' H' ⟨e, rfl, rfl⟩
      rw [e] at q
      refine ⟨_, rfl, _, rfl, x, nm, lo, hi, pr, y, nm', lo', hi', pr', rfl, hx, hy, _, rfl, _, rfl, ?_⟩
      by_cases e1 : hi < lo'
      · rw [decide_eq_true e1] at q ⊢
        exact iteF q
      · rw [decide_eq_false e1] at q ⊢
        refine iteT ?_
        exact ⟨_, rfl, _, rfl, y, _, _, _, _, x, _, _, _, _, rfl, hy, hx, _, rfl, q⟩
/-- a row drawn -/
def spRow : Sp := fun vs H Q _ => ∃ (p : Addr) (n : Nat), vs = [.ref p] ∧ Pen H p n ∧ n ≤ 900000 ∧
  ∀ t nm lo hi pr H', Row nm lo hi pr → But p H H' → Pen H' p (n + 5) → H t = none → RowAt H' t nm lo hi pr → Q (.ref t) H'
theorem ok_row (T : Txt K mg a) : FnOk P w K mg base CX0 3 a.f__law_row a.d__law_row ["pen"] spRow := by
  have G_law_draw : FnOk P w K mg base CX0 2 a.f__law_draw a.d__law_draw ["pen", "below"] spDraw := ok_draw T
  refine T.F__law_row.ok sc__law_row (fun vs H Q E h => ?_) (fun cdv A outer s H vs Q E hr h => ?_)
  · obtain ⟨p, n, rfl, _⟩ := h
    rfl
  · obtain ⟨p, n, rfl, hp, hn, k⟩ := h
    have nd := sc__law_row.nd
    refine ⟨_, (pss_cons (ps_set (i := 1) nd rfl (Or.inl rfl) (pe_call G_law_draw (hr.mono (by decide)) rfl T.g__law_draw T.F__law_draw.kp T.b__law_draw .nil pass0 (pa_cons (pv 0) (pa_cons pe_int pa_nil))))
  (pss_cons (ps_set (i := 2) nd rfl (Or.inl rfl) (pe_ix ix_list (pe_lst (pa_cons pe_int (pa_cons pe_int (pa_cons pe_int (pa_cons pe_int (pa_cons pe_int (pa_cons (pe_call G_law_draw (hr.mono (by decide)) rfl T.g__law_draw T.F__law_draw.kp T.b__law_draw .nil pass0 (pa_cons (pv 0) (pa_cons pe_int pa_nil))) pa_nil))))))) (pe_call G_law_draw (hr.mono (by decide)) rfl T.g__law_draw T.F__law_draw.kp T.b__law_draw .nil pass0 (pa_cons (pv 0) (pa_cons pe_int pa_nil))) (fun _ _ => rfl)))
  (pss_one (ps_ret (pe_tup (pa_cons (pe_ix ix_list (pe_lst (pa_cons pe_str (pa_cons pe_str pa_nil))) (pe_call G_law_draw (hr.mono (by decide)) rfl T.g__law_draw T.F__law_draw.kp T.b__law_draw .nil pass0 (pa_cons (pv 0) (pa_cons pe_int pa_nil))) (fun _ _ => rfl)) (pa_cons (pv 1) (pa_cons (pe_op op_add (pv 1) (pv 2)) (pa_cons (pe_ifExp (pt_cmpR op_eq (pv 2) pe_int (nomark _)) pe_int (pe_op op_add pe_int (pe_call G_law_draw (hr.mono (by decide)) rfl T.g__law_draw T.F__law_draw.kp T.b__law_draw .nil pass0 (pa_cons (pv 0) (pa_cons pe_int pa_nil))))) pa_nil))))))))), ?_⟩
    refine ⟨_, rfl, p, n, 8, rfl, hp, by omega, by decide, by decide, fun spot H1 s0 s1 b1 hp1 => ?_⟩
    refine ⟨_, rfl, p, _, 9, rfl, hp1, by omega, by decide, by decide, fun z H2 z0 z1 b2 hp2 => ?_⟩
    refine ⟨by show 6 ≤ sizeLine; decide, fun q hq => ?_⟩
    refine ⟨_, rfl, p, _, 6, rfl, hp2.new hq, by omega, by decide, by decide, fun y H3 y0 y1 b3 hp3 => ?_⟩
    have hq3 := b3 q _ (Ne.symm (hp2.ne0 hq)) upd_same
    obtain ⟨v, hv, hm⟩ := at_drawn (xs := [.int 0, .int 0, .int 1, .int 2, .int 3, .int z]) y0 y1 rfl
    obtain ⟨size, rfl, sz⟩ : ∃ size, v = V.int size ∧ 0 ≤ size := by
      simp only [List.mem_cons, List.not_mem_nil, or_false] at hm
      rcases hm with rfl | rfl | rfl | rfl | rfl | rfl
      · exact ⟨_, rfl, by decide⟩
      · exact ⟨_, rfl, by decide⟩
      · exact ⟨_, rfl, by decide⟩
      · exact ⟨_, rfl, by decide⟩
      · exact ⟨_, rfl, by decide⟩
      · exact ⟨_, rfl, z0⟩
    refine ⟨q, _, _, _, rfl, rfl, SqL.of hq3, hv, ?_⟩
    -- the tuple
    refine ⟨by show 2 ≤ sizeLine; decide, fun q2 hq2 => ?_⟩
    refine ⟨_, rfl, p, _, 2, rfl, hp3.new hq2, by omega, by decide, by decide, fun x H4 x0 x1 b4 hp4 => ?_⟩
    have hq4 := b4 q2 _ (Ne.symm (hp3.ne0 hq2)) upd_same
    obtain ⟨u, hu, hm⟩ := at_drawn (xs := [.str "a", .str "b"]) x0 x1 rfl
    obtain ⟨nm, rfl, hnm⟩ : ∃ nm, u = V.str nm ∧ nameB nm = true := by
      simp only [List.mem_cons, List.not_mem_nil, or_false] at hm
      rcases hm with rfl | rfl
      · exact ⟨_, rfl, by decide +kernel⟩
      · exact ⟨_, rfl, by decide +kernel⟩
    refine ⟨q2, _, _, _, rfl, rfl, SqL.of hq4, hu, ?_⟩
    refine ⟨_, rfl, _, rfl, _, rfl, _, _, rfl, rfl, ?_⟩
    refine ⟨_, rfl, rfl, _, rfl, ?_⟩
    have B4 : But p H H4 := (b1.trans b2).trans ((But.new hq).trans (b3.trans ((But.new hq2).trans b4)))
    rw [dV_int]
    by_cases e : size = 0
    · rw [decide_eq_true e]
      refine iteT ⟨by show 4 ≤ sizeLine; decide, fun t ht => ?_⟩
      have ht0 : H t = none := by
        cases q' : H t with
        | none => rfl
        | some o =>
          have z := B4 t o (Ne.symm (hp4.ne0 ht)) q'
          rw [ht] at z
          cases z
      exact k t nm spot _ 0 _ ⟨hnm, by omega, fun _ => rfl, fun l => by omega⟩ (B4.trans (But.new ht)) ((hp4.new ht).mono (by omega)) ht0 upd_same
    · rw [decide_eq_false e]
      refine iteF ⟨_, rfl, p, _, 3, rfl, hp4, by omega, by decide, by decide, fun g H5 g0 g1 b5 hp5 => ?_⟩
      refine ⟨_, _, rfl, rfl, by show 4 ≤ sizeLine; decide, fun t ht => ?_⟩
      have B5 := B4.trans b5
      have ht0 : H t = none := by
        cases q' : H t with
        | none => rfl
        | some o =>
          have z := B5 t o (Ne.symm (hp5.ne0 ht)) q'
          rw [ht] at z
          cases z
      exact k t nm spot _ _ _ ⟨hnm, by omega, fun l => by omega, fun l => ⟨by omega, by omega⟩⟩ (B5.trans (But.new ht)) ((hp5.new ht).mono (by omega)) ht0 upd_same
end
end Ask

set_option Elab.async false
set_option linter.all false
set_option maxRecDepth 100000
set_option maxHeartbeats 4000000
namespace Ask
open PySem L2
open PyProof.Rows
section
variable {P : Program} {w : World} {K : PySem.W.Frag} {mg : Str → Option Value} {base : Heap} {a : Ad}
theorem init_kw (T : Txt K mg a) : ∃ mv : List Value, KBn K a.d_Item___init__ ["self", "name", "least", "greatest", "price"] 4 ["price"] (fun us ws => us ++ ws) (fun vs zs => vs ++ zs) := by
  refine T.F_Item___init__.kbinds0 (ps := ["self", "name", "least", "greatest", "price"]) 4 ["price"] [] (fun us _ ws => us ++ ws) (by simp) (by simp) (fun h1 _ h3 => h1.append h3) ?_
  intro D doc pm an cdv ct us mv ws l1 l2 l3
  match us, mv, ws, l1, l2, l3 with
  | [_, _, _, _], [], [_], _, _, _ => rfl
/-- an item of a row -/
def spItem (C : Addr) : Sp := fun vs H Q _ => ∃ t nm lo hi pr, vs = [.ref t] ∧ RowAt H t nm lo hi pr ∧ Row nm lo hi pr ∧
  ∀ x H', H x = none → Same H H' → ItemAt C H' x nm lo hi pr → Q (.ref x) H'
theorem ok_item (T : Txt K mg a) : FnOk P w K mg base CX0 5 a.f__law_item a.d__law_item ["row"] (spItem a.c_Item) := by
  have G_init : FnOk P w K mg base CX0 3 a.f_Item___init__ a.d_Item___init__ ["self", "name", "least", "greatest", "price"] (spInit a.c_Item) := ok_init T
  obtain ⟨mv, hkb⟩ := init_kw T
  refine T.F__law_item.ok sc__law_item (fun vs H Q E h => ?_) (fun cdv A outer s H vs Q E hr h => ?_)
  · obtain ⟨t, nm, lo, hi, pr, rfl, _⟩ := h
    rfl
  · obtain ⟨t, nm, lo, hi, pr, rfl, ht, R, k⟩ := h
    refine ⟨_, (pss_one (ps_ret (pe_makeK T.mk_Item G_init (hr.mono (by decide)) rfl T.g_Item hkb pass0 (pa_cons (pe_ix ix_tup (pv 0) pe_int (fun _ _ => rfl)) (pa_cons (pe_ix ix_tup (pv 0) pe_int (fun _ _ => rfl)) (pa_cons (pe_ix ix_tup (pv 0) pe_int (fun _ _ => rfl)) pa_nil))) (pk_cons (pe_callB (call_max2 rfl) (by rfl) T.b_max (by decide +kernel) (pa_cons pe_int (pa_cons (pe_ix ix_tup (pv 0) pe_int (fun _ _ => rfl)) pa_nil))) pk_nil)))), ?_⟩
    refine ⟨_, rfl, t, _, _, _, rfl, rfl, SqT.of ht, atI_nat (j := 0) rfl, ?_⟩
    refine ⟨_, rfl, t, _, _, _, rfl, rfl, SqT.of ht, atI_nat (j := 1) rfl, ?_⟩
    refine ⟨_, rfl, t, _, _, _, rfl, rfl, SqT.of ht, atI_nat (j := 2) rfl, ?_⟩
    refine ⟨_, rfl, t, _, _, _, rfl, rfl, SqT.of ht, atI_nat (j := 3) rfl, _, _, rfl, ?_⟩
    have ep : prI lo hi (if pr > 1 then pr else 1) = pr := by
      unfold prI
      rcases Int.lt_or_eq_of_le R.le with l | e
      · have z := R.op l
        rw [if_neg (by omega)]
        split <;> omega
      · rw [if_pos e, R.ex e]
    have b1 : 1 ≤ (if pr > 1 then pr else 1) := by split <;> omega
    have b2 : (if pr > 1 then pr else 1) ≤ 999 := by
      rcases Int.lt_or_eq_of_le R.le with l | e
      · have z := R.op l
        split <;> omega
      · have z := R.ex e
        split <;> omega
    refine ⟨rfl, rfl, fun x dx hx hdx ne => ?_⟩
    refine ⟨x, dx, nm, lo, hi, _, rfl, upd_same, R.nm, R.le, b1, b2, fun H' hb' hx' => ⟨rfl, ?_⟩⟩
    rw [ep] at hx'
    refine k x H' hx ?_ ⟨dx, hx'⟩
    intro b o e
    refine hb' b o (ne_of_none e hx) ?_
    rw [upd_ne (ne_of_none e hx), upd_ne (ne_of_none e hdx)]
    exact e
end
end Ask

set_option Elab.async false
set_option linter.all false
set_option maxRecDepth 100000
set_option maxHeartbeats 8000000
namespace Ask
open PySem L2
open PyProof.Rows
section
variable {P : Program} {w : World} {K : PySem.W.Frag} {mg : Str → Option Value} {base : Heap} {a : Ad}
def rowD (nm : Str) (lo hi pr : Int) : PyData := .tuple [.str nm, .int lo, .int hi, .int pr]
theorem dp_row {K : PySem.W.Frag} {H : Hp} {t : Addr} {nm : Str} {lo hi pr : Int} (h : RowAt H t nm lo hi pr) : Dp K H (.ref t) (rowD nm lo hi pr) :=
  .tup (SqT.of h) (.cons (.str _) (.cons (.int _) (.cons (.int _) (.cons (.int _) .nil))))
theorem strOk_name {nm : Str} (h : nameB nm = true) : PyData.strOk nm = true := by
  unfold nameB at h
  rw [Bool.and_eq_true] at h
  have h2 := List.all_eq_true.mp h.2
  unfold PyData.strOk
  rw [← Array.all_toList]
  refine List.all_eq_true.mpr fun c hc => ?_
  have z := h2 c hc
  unfold signB at z
  rw [Bool.and_eq_true] at z
  have y := of_decide_eq_true z.2
  exact decide_eq_true (by omega)
theorem shaped_row {nm : Str} {lo hi pr : Int} (h : nameB nm = true) : SeqAt.shaped (rowD nm lo hi pr) = true := by
  unfold SeqAt.shaped rowD
  simp [PyData.canLay0, PyData.canLayAll0, PyData.depth, PyData.depthAll, strOk_name h]
def eqB (nm : Str) (lo hi pr : Int) (nm' : Str) (lo' hi' pr' : Int) : Bool := decide (nm = nm') && decide (lo = lo') && decide (hi = hi') && decide (pr = pr')
theorem eqB_comm (nm : Str) (lo hi pr : Int) (nm' : Str) (lo' hi' pr' : Int) : eqB nm' lo' hi' pr' nm lo hi pr = eqB nm lo hi pr nm' lo' hi' pr' := by
  unfold eqB
  simp only [eq_comm]
theorem eqv_row (nm : Str) (lo hi pr : Int) (nm' : Str) (lo' hi' pr' : Int) : PyData.eqv (rowD nm lo hi pr) (rowD nm' lo' hi' pr') = eqB nm lo hi pr nm' lo' hi' pr' := by
  unfold rowD eqB PyData.eqv
  simp [PyData.eqvAll, PyData.eqv, Bool.and_assoc, Bool.beq_eq_decide_eq]
theorem loose_comm (lo hi lo' hi' : Int) : looseB lo' hi' lo hi = looseB lo hi lo' hi' := by
  unfold looseB
  rw [Bool.and_comm (decide (lo' = hi')), Bool.and_assoc, Bool.and_assoc, Bool.and_comm (!decide (hi' < lo))]
theorem not_self {K : PySem.W.Frag} {C : Addr} : PySem.W.notFirst K C (.ref C) = true := by
  unfold PySem.W.notFirst
  simp
theorem ok_law (T : Txt K mg a) : GOk P w K mg base CX0 7 a.f_law a.d_law ["script"] (spLaw K) := by
  have G_law_pen : FnOk P w K mg base CX0 1 a.f__law_pen a.d__law_pen ["script"] (spPen K) := ok_pen T
  have G_law_row : FnOk P w K mg base CX0 3 a.f__law_row a.d__law_row ["pen"] spRow := ok_row T
  have G_law_item : FnOk P w K mg base CX0 5 a.f__law_item a.d__law_item ["row"] (spItem a.c_Item) := ok_item T
  have G_law_before : FnOk P w K mg base CX0 1 a.f__law_before a.d__law_before ["one", "two"] spLBefore := ok_lbefore T
  have G_law_loose : FnOk P w K mg base CX0 2 a.f__law_loose a.d__law_loose ["one", "two"] spLLoose := ok_lloose T
  have G_before : FnOk P w K mg base CX0 3 a.f_Item_is_surely_before a.d_Item_is_surely_before ["self", "other"] (spBefore a.c_Item) := ok_before T
  have G_loose : FnOk P w K mg base CX0 4 a.f_Item_is_loose_with a.d_Item_is_loose_with ["self", "other"] (spLoose a.c_Item) := ok_loose T
  have G_eq : FnOk P w K mg base CX0 1 a.f_Item___eq__ a.d_Item___eq__ ["self", "other"] (spEqI a.c_Item K) := ok_eq T
  refine gok_fun T.F_law sc_law (fun vs H Q E h => ?_) (fun cdv A outer s H vs Q E hr hgd h => ?_)
  · obtain ⟨sc, ns, rfl, _⟩ := h
    rfl
  · obtain ⟨sc, ns, rfl, hS, hns, k⟩ := h
    have nd := sc_law.nd
    refine ⟨_, (pss_cons (ps_set (i := 1) nd rfl (Or.inl rfl) (pe_call G_law_pen (hr.mono (by decide)) rfl T.g__law_pen T.F__law_pen.kp T.b__law_pen .nil pass0 (pa_cons (pv 0) pa_nil)))
  (pss_cons (ps_for PassesOwn.never rfl (pi_range1 rfl T.b_range (pa_cons pe_int pa_nil)) (pg_name (i := 2) nd rfl (Or.inl rfl))
    (pss_cons (ps_par (i := 3) (j := 4) (by rfl) nd rfl rfl (by decide) rfl rfl (pa_cons (pe_call G_law_row (hr.mono (by decide)) rfl T.g__law_row T.F__law_row.kp T.b__law_row .nil pass0 (pa_cons (pv 1) pa_nil)) (pa_cons (pe_call G_law_row (hr.mono (by decide)) rfl T.g__law_row T.F__law_row.kp T.b__law_row .nil pass0 (pa_cons (pv 1) pa_nil)) pa_nil)) (by rfl))
  (Evl.pss_cut (ps_par (i := 5) (j := 6) (by rfl) nd rfl rfl (by decide) rfl rfl (pa_cons (pe_call G_law_item (hr.mono (by decide)) rfl T.g__law_item T.F__law_item.kp T.b__law_item .nil pass0 (pa_cons (pv 3) pa_nil)) (pa_cons (pe_call G_law_item (hr.mono (by decide)) rfl T.g__law_item T.F__law_item.kp T.b__law_item .nil pass0 (pa_cons (pv 4) pa_nil)) pa_nil)) (by rfl))
  (pss_cons (ps_set (i := 7) nd rfl (Or.inl rfl) (pe_lst (pa_cons (pe_meth (pv 5) T.cl_Item T.m_Item_is_surely_before G_before (hr.mono (by decide)) T.b_Item_is_surely_before .nil pass0 (pa_cons (pv 6) pa_nil)) (pa_cons (pe_meth (pv 6) T.cl_Item T.m_Item_is_surely_before G_before (hr.mono (by decide)) T.b_Item_is_surely_before .nil pass0 (pa_cons (pv 5) pa_nil)) (pa_cons (pe_meth (pv 5) T.cl_Item T.m_Item_is_loose_with G_loose (hr.mono (by decide)) T.b_Item_is_loose_with .nil pass0 (pa_cons (pv 6) pa_nil)) pa_nil)))))
  (pss_cons (ps_set (i := 7) nd rfl (Or.inl rfl) (pe_op op_cat (pv 7) (pe_lst (pa_cons (pe_meth (pv 6) T.cl_Item T.m_Item_is_loose_with G_loose (hr.mono (by decide)) T.b_Item_is_loose_with .nil pass0 (pa_cons (pv 5) pa_nil)) (pa_cons (pe_cmpR (op_eqO G_eq (hr.mono (by decide)) T.eq_Item T.b_Item___eq__) (pv 5) (pv 6) (nomark _)) (pa_cons (pe_cmpR (op_eqO G_eq (hr.mono (by decide)) T.eq_Item T.b_Item___eq__) (pv 6) (pv 5) (nomark _)) (pa_cons (pe_cmpR (op_neO G_eq (hr.mono (by decide)) T.eq_Item T.b_Item___eq__) (pv 5) (pv 6) (nomark _)) pa_nil)))))))
  (pss_cons (ps_set (i := 8) nd rfl (Or.inl rfl) (pe_lst (pa_cons (pe_call G_law_before (hr.mono (by decide)) rfl T.g__law_before T.F__law_before.kp T.b__law_before .nil pass0 (pa_cons (pv 3) (pa_cons (pv 4) pa_nil))) (pa_cons (pe_call G_law_before (hr.mono (by decide)) rfl T.g__law_before T.F__law_before.kp T.b__law_before .nil pass0 (pa_cons (pv 4) (pa_cons (pv 3) pa_nil))) (pa_cons (pe_call G_law_loose (hr.mono (by decide)) rfl T.g__law_loose T.F__law_loose.kp T.b__law_loose .nil pass0 (pa_cons (pv 3) (pa_cons (pv 4) pa_nil))) (pa_cons (pe_call G_law_loose (hr.mono (by decide)) rfl T.g__law_loose T.F__law_loose.kp T.b__law_loose .nil pass0 (pa_cons (pv 3) (pa_cons (pv 4) pa_nil))) pa_nil))))))
  (Evl.pss_cut (ps_if (pt_cmpR op_ne (pe_callB (cr_repr hgd hr.units) (by rfl) T.b_repr (by decide +kernel) (pa_cons (pv 7) pa_nil)) (pe_callB (cr_repr hgd hr.units) (by rfl) T.b_repr (by decide +kernel) (pa_cons (pe_op op_cat (pv 8) (pe_lst (pa_cons (pe_cmpR (op_eqD hr.units) (pv 3) (pv 4) (nomark _)) (pa_cons (pe_cmpR (op_eqD hr.units) (pv 3) (pv 4) (nomark _)) (pa_cons (pe_cmpR (op_neD hr.units) (pv 3) (pv 4) (nomark _)) pa_nil))))) pa_nil)) (nomark _))
    (pss_one (ps_ret pe_bl))
    pss_nil)
  (Evl.pss_cut (ps_if (PW.pt (pw_or (pt_cmpR (op_neO G_eq (hr.mono (by decide)) T.eq_Item T.b_Item___eq__) (pv 5) (pe_call G_law_item (hr.mono (by decide)) rfl T.g__law_item T.F__law_item.kp T.b__law_item .nil pass0 (pa_cons (pv 3) pa_nil)) (nomark _)) (pw_or1 (pt_val (pe_meth (pv 5) T.cl_Item T.m_Item_is_surely_before G_before (hr.mono (by decide)) T.b_Item_is_surely_before .nil pass0 (pa_cons (pe_call G_law_item (hr.mono (by decide)) rfl T.g__law_item T.F__law_item.kp T.b__law_item .nil pass0 (pa_cons (pv 3) pa_nil)) pa_nil))))))
    (pss_one (ps_ret pe_bl))
    pss_nil)
  (pss_one (ps_for PassesOwn.never rfl (pi_list (pe_lst (pa_cons (pv 3) (pa_cons pe_non (pa_cons (pe_ix ix_tup (pv 3) pe_int (fun _ _ => rfl)) (pa_cons pe_int (pa_cons (pe_lst (pa_cons (pv 5) pa_nil)) pa_nil))))))) (pg_name (i := 9) nd rfl (Or.inl rfl))
    (pss_one (ps_if (pt_cmpR op_notBl (pe_cmpR (op_eqO G_eq (hr.mono (by decide)) T.eq_Item T.b_Item___eq__) (pv 5) (pv 9) (nomark _)) pe_bl (nomark _))
    (pss_one (ps_ret pe_bl))
    pss_nil))))))))))))
  (pss_one (ps_ret pe_bl)))), ?_⟩
    refine ⟨_, rfl, sc, ns, rfl, hS, hns, fun p H1 hp0 b1 hp1 => ?_⟩
    refine ⟨10, rfl, by decide, by decide, for_range (lo := 0) (n := 10) (fun i σ H' => ∃ v2 v3 v4 v5 v6 v7 v8 v9 : Option V,
      σ = [some (.ref sc), some (.ref p), v2, v3, v4, v5, v6, v7, v8, v9] ∧ Pen H' p (i * 10)) ⟨none, none, none, none, none, none, none, none, rfl, hp1⟩ ?_ ?_⟩
    · rintro i σ H2 hi ⟨v2, v3, v4, v5, v6, v7, v8, v9, rfl, hp2⟩
      -- one, two
      refine ⟨_, rfl, p, _, rfl, hp2, by omega, fun t1 nm lo hh pr H3 R1 b3 hp3 ht1 rt1 => ?_⟩
      refine ⟨_, rfl, p, _, rfl, hp3, by omega, fun t2 nm' lo' hh' pr' H4 R2 b4 hp4 ht2 rt2 => ?_⟩
      have n1 : t1 ≠ p := hp3.ne rt1 (fun _ _ _ => nofun)
      have r1 : RowAt H4 t1 nm lo hh pr := b4 _ _ n1 rt1
      refine ⟨_, _, rfl, ?_⟩
      -- first, second
      refine ⟨fun σ' H' => ∃ f1 f2 d1 d2 w7 w8 w9, σ' = [some (.ref sc), some (.ref p), some (.int (0 + (i : Int))), some (.ref t1), some (.ref t2), some (.ref f1), some (.ref f2), w7, w8, w9] ∧
        Pen H' p (i * 10 + 10) ∧ RowAt H' t1 nm lo hh pr ∧ RowAt H' t2 nm' lo' hh' pr' ∧
        H' f1 = some (.ins a.c_Item d1 (itF nm lo hh pr)) ∧ H' f2 = some (.ins a.c_Item d2 (itF nm' lo' hh' pr')), ?_, ?_⟩
      · refine ⟨_, rfl, t1, nm, lo, hh, pr, rfl, r1, R1, fun f1 H5 hf1 s5 i1 => ?_⟩
        refine ⟨_, rfl, t2, nm', lo', hh', pr', rfl, s5 _ _ rt2, R2, fun f2 H6 hf2 s6 i2 => ?_⟩
        obtain ⟨d1, i1⟩ := i1
        obtain ⟨d2, i2⟩ := i2
        exact ⟨_, _, rfl, f1, f2, d1, d2, _, _, _, rfl, ((hp4.same s5).same s6).mono (by omega), s6 _ _ (s5 _ _ r1), s6 _ _ (s5 _ _ rt2), s6 _ _ i1, i2⟩
      · rintro σ' H5 ⟨f1, f2, d1, d2, w7, w8, w9, rfl, hp5, r1, r2, i1, i2⟩
        have I1 : ∀ H', Same H5 H' → ItemAt a.c_Item H' f1 nm lo hh pr := fun H' s => ⟨d1, s _ _ i1⟩
        have I2 : ∀ H', Same H5 H' → ItemAt a.c_Item H' f2 nm' lo' hh' pr' := fun H' s => ⟨d2, s _ _ i2⟩
        have l1 : ∀ (x : Str), x = Str.ofString "is_surely_before" ∨ x = Str.ofString "is_loose_with" → (itF nm lo hh pr).lookup x = none := by
          rintro x (rfl | rfl) <;> with_unfolding_all rfl
        have l2 : ∀ (x : Str), x = Str.ofString "is_surely_before" ∨ x = Str.ofString "is_loose_with" → (itF nm' lo' hh' pr').lookup x = none := by
          rintro x (rfl | rfl) <;> with_unfolding_all rfl
        have S0 := Same.refl H5
        -- told
        refine ⟨_, rfl, f1, d1, _, rfl, i1, l1 _ (.inl rfl), _, rfl, f1, _, _, _, _, f2, _, _, _, _, rfl, I1 _ S0, I2 _ S0, ?_⟩
        refine ⟨_, rfl, f2, d2, _, rfl, i2, l2 _ (.inl rfl), _, rfl, f2, _, _, _, _, f1, _, _, _, _, rfl, I2 _ S0, I1 _ S0, ?_⟩
        refine ⟨_, rfl, f1, d1, _, rfl, i1, l1 _ (.inr rfl), _, rfl, f1, _, _, _, _, f2, _, _, _, _, rfl, I1 _ S0, I2 _ S0, ?_⟩
        refine ⟨by show 3 ≤ sizeLine; decide, fun q1 hq1 => ?_⟩
        have S1 := Same.of S0 hq1 (o := .lst [.bl (decide (hh < lo')), .bl (decide (hh' < lo)), .bl (looseB lo hh lo' hh')])
        refine ⟨_, rfl, ?_⟩
        refine ⟨_, rfl, f2, d2, _, rfl, S1 _ _ i2, l2 _ (.inr rfl), _, rfl, f2, _, _, _, _, f1, _, _, _, _, rfl, I2 _ S1, I1 _ S1, ?_⟩
        have K1 : ∀ H', Same H5 H' → Kind K a.c_Item (.ref f1) H' := fun H' s => .inr (.inr (.inr (.inr (.inr (.inr (.inr ⟨f1, a.c_Item, d1, _, rfl, s _ _ i1, not_self⟩))))))
        have K2 : ∀ H', Same H5 H' → Kind K a.c_Item (.ref f2) H' := fun H' s => .inr (.inr (.inr (.inr (.inr (.inr (.inr ⟨f2, a.c_Item, d2, _, rfl, s _ _ i2, not_self⟩))))))
        have E1 : ∀ H', Same H5 H' → eqI a.c_Item K H' nm lo hh pr (.ref f2) (eqB nm lo hh pr nm' lo' hh' pr') := fun H' s => .inr ⟨f2, _, _, _, _, rfl, I2 _ s, rfl⟩
        have E2 : ∀ H', Same H5 H' → eqI a.c_Item K H' nm' lo' hh' pr' (.ref f1) (eqB nm' lo' hh' pr' nm lo hh pr) := fun H' s => .inr ⟨f1, _, _, _, _, rfl, I1 _ s, rfl⟩
        refine ⟨_, rfl, _, rfl, f1, d1, _, rfl, S1 _ _ i1, K2 _ S1, f1, _, _, _, _, _, _, rfl, I1 _ S1, E1 _ S1, _, rfl, ?_⟩
        refine ⟨_, rfl, _, rfl, f2, d2, _, rfl, S1 _ _ i2, K1 _ S1, f2, _, _, _, _, _, _, rfl, I2 _ S1, E2 _ S1, _, rfl, ?_⟩
        refine ⟨_, rfl, _, rfl, f1, f2, d1, d2, _, _, rfl, rfl, S1 _ _ i1, S1 _ _ i2, f1, _, _, _, _, _, _, rfl, I1 _ S1, E1 _ S1, _, rfl, ?_⟩
        refine ⟨by show 4 ≤ sizeLine; decide, fun q2 hq2 => ?_⟩
        have hq1' := Same.new hq2 (o := .lst [.bl (looseB lo' hh' lo hh), .bl (eqB nm lo hh pr nm' lo' hh' pr'), .bl (eqB nm' lo' hh' pr' nm lo hh pr), .bl (!eqB nm lo hh pr nm' lo' hh' pr')]) q1 _ upd_same
        have S2 := Same.grow S1 hq2 (o := .lst [.bl (looseB lo' hh' lo hh), .bl (eqB nm lo hh pr nm' lo' hh' pr'), .bl (eqB nm' lo' hh' pr' nm lo hh pr), .bl (!eqB nm lo hh pr nm' lo' hh' pr')])
        refine ⟨q1, q2, _, _, rfl, rfl, hq1', upd_same, by show 3 + 4 ≤ sizeLine; decide, fun q3 hq3 => ?_⟩
        have S3 := Same.grow S2 hq3 (o := .lst ([.bl (decide (hh < lo')), .bl (decide (hh' < lo)), .bl (looseB lo hh lo' hh')] ++ [.bl (looseB lo' hh' lo hh), .bl (eqB nm lo hh pr nm' lo' hh' pr'), .bl (eqB nm' lo' hh' pr' nm lo hh pr), .bl (!eqB nm lo hh pr nm' lo' hh' pr')]))
        -- due
        refine ⟨_, rfl, _, rfl, t1, _, _, _, _, t2, _, _, _, _, rfl, S3 _ _ r1, S3 _ _ r2, ?_⟩
        refine ⟨_, rfl, _, rfl, t2, _, _, _, _, t1, _, _, _, _, rfl, S3 _ _ r2, S3 _ _ r1, ?_⟩
        refine ⟨_, rfl, _, rfl, t1, _, _, _, _, t2, _, _, _, _, rfl, S3 _ _ r1, S3 _ _ r2, ?_⟩
        refine ⟨_, rfl, _, rfl, t1, _, _, _, _, t2, _, _, _, _, rfl, S3 _ _ r1, S3 _ _ r2, ?_⟩
        refine ⟨by show 4 ≤ sizeLine; decide, fun q4 hq4 => ?_⟩
        have told4 := Same.new hq4 (o := .lst [.bl (decide (hh < lo')), .bl (decide (hh' < lo)), .bl (looseB lo hh lo' hh'), .bl (looseB lo hh lo' hh')]) q3 _ upd_same
        have S4 := Same.grow S3 hq4 (o := .lst [.bl (decide (hh < lo')), .bl (decide (hh' < lo)), .bl (looseB lo hh lo' hh'), .bl (looseB lo hh lo' hh')])
        -- repr(told) != repr(due + ..)
        refine ⟨fun σ' H' => ∃ w7 w8 w9, σ' = [some (.ref sc), some (.ref p), some (.int (0 + (i : Int))), some (.ref t1), some (.ref t2), some (.ref f1), some (.ref f2), w7, w8, w9] ∧ Same H5 H', ?_, ?_⟩
        · refine ⟨_, rfl, ?_⟩
          refine repr_bools [decide (hh < lo'), decide (hh' < lo), looseB lo hh lo' hh', looseB lo' hh' lo hh, eqB nm lo hh pr nm' lo' hh' pr', eqB nm' lo' hh' pr' nm lo hh pr, !eqB nm lo hh pr nm' lo' hh' pr'] told4 rfl (show 7 ≤ 100 by decide) ?_
          refine ⟨_, rfl, _, rfl, _, rfl, _, _, dp_row (S4 _ _ r1), dp_row (S4 _ _ r2), shaped_row R1.nm, shaped_row R2.nm, ?_⟩
          refine ⟨_, rfl, _, rfl, _, _, dp_row (S4 _ _ r1), dp_row (S4 _ _ r2), shaped_row R1.nm, shaped_row R2.nm, ?_⟩
          refine ⟨_, rfl, _, rfl, _, _, dp_row (S4 _ _ r1), dp_row (S4 _ _ r2), shaped_row R1.nm, shaped_row R2.nm, ?_⟩
          rw [eqv_row]
          refine ⟨by show 3 ≤ sizeLine; decide, fun q5 hq5 => ?_⟩
          have S5 := Same.grow S4 hq5 (o := .lst [.bl (eqB nm lo hh pr nm' lo' hh' pr'), .bl (eqB nm lo hh pr nm' lo' hh' pr'), .bl (!eqB nm lo hh pr nm' lo' hh' pr')])
          refine ⟨q4, q5, _, _, rfl, rfl, Same.new hq5 _ _ upd_same, upd_same, by show 4 + 3 ≤ sizeLine; decide, fun q6 hq6 => ?_⟩
          refine repr_bools [decide (hh < lo'), decide (hh' < lo), looseB lo hh lo' hh', looseB lo hh lo' hh', eqB nm lo hh pr nm' lo' hh' pr', eqB nm lo hh pr nm' lo' hh' pr', !eqB nm lo hh pr nm' lo' hh' pr'] upd_same rfl (show 7 ≤ 100 by decide) ?_
          rw [loose_comm lo hh lo' hh', eqB_comm nm lo hh pr nm' lo' hh' pr'] at S5 hq6 ⊢
          refine ⟨rfl, _, rfl, ?_⟩
          rw [decide_eq_true rfl]
          exact iteF ⟨_, _, _, rfl, Same.grow S5 hq6⟩
        · rintro σ' H6 ⟨u7, u8, u9, rfl, S6⟩
          -- first != _law_item(one) or first.is_surely_before(_law_item(one))
          refine ⟨fun σ' H' => σ' = [some (.ref sc), some (.ref p), some (.int (0 + (i : Int))), some (.ref t1), some (.ref t2), some (.ref f1), some (.ref f2), u7, u8, u9] ∧ Same H5 H', ?_, ?_⟩
          · refine ⟨_, rfl, _, rfl, t1, nm, lo, hh, pr, rfl, S6 _ _ r1, R1, fun g1 H7 hg1 s7 j1 => ?_⟩
            have S7 := S6.trans s7
            obtain ⟨e1, j1⟩ := j1
            refine ⟨f1, g1, d1, e1, _, _, rfl, rfl, S7 _ _ i1, j1, f1, nm, lo, hh, pr, .ref g1, eqB nm lo hh pr nm lo hh pr, rfl, I1 _ S7, .inr ⟨g1, _, _, _, _, rfl, ⟨e1, j1⟩, rfl⟩, _, rfl, ?_⟩
            have eT : eqB nm lo hh pr nm lo hh pr = true := by
              unfold eqB
              simp
            rw [eT]
            refine ⟨_, rfl, iteF ?_⟩
            refine ⟨_, rfl, f1, d1, _, rfl, S7 _ _ i1, l1 _ (.inl rfl), _, rfl, t1, nm, lo, hh, pr, rfl, S7 _ _ r1, R1, fun g2 H8 hg2 s8 j2 => ?_⟩
            have S8 := S7.trans s8
            refine ⟨f1, nm, lo, hh, pr, g2, nm, lo, hh, pr, rfl, I1 _ S8, j2, _, rfl, ?_⟩
            rw [decide_eq_false (show ¬ hh < lo by have := R1.le; omega)]
            exact iteF ⟨rfl, S8⟩
          · rintro σ' H7 ⟨rfl, S7⟩
            -- other objects
            refine ⟨_, rfl, _, rfl, t1, _, _, _, rfl, rfl, SqT.of (S7 _ _ r1), atI_nat (j := 0) rfl, ?_⟩
            refine ⟨_, rfl, by show 1 ≤ sizeLine; decide, fun q7 hq7 => ?_⟩
            have S8 := Same.grow S7 hq7 (o := .lst [.ref f1])
            refine ⟨by show 5 ≤ sizeLine; decide, fun q8 hq8 => ?_⟩
            have S9 := Same.grow S8 hq8 (o := .lst [.ref t1, .non, .str nm, .int 5, .ref q7])
            have h7 := Same.new hq8 (o := .lst [.ref t1, .non, .str nm, .int 5, .ref q7]) q7 _ upd_same
            have h8 : upd (upd H7 q7 (.lst [.ref f1])) q8 (.lst [.ref t1, .non, .str nm, .int 5, .ref q7]) q8 = some (.lst [.ref t1, .non, .str nm, .int 5, .ref q7]) := upd_same
            generalize upd (upd H7 q7 (.lst [.ref f1])) q8 (.lst [.ref t1, .non, .str nm, .int 5, .ref q7]) = H9 at S9 h7 h8 ⊢
            have nk := T.kd_Item
            refine ⟨q8, rfl, ⟨_, SqL.of h8⟩, for_list (xs := [.ref t1, .non, .str nm, .int 5, .ref q7]) (fun _ σ' H' => ∃ u9, σ' = [some (.ref sc), some (.ref p), some (.int (0 + (i : Int))), some (.ref t1), some (.ref t2), some (.ref f1), some (.ref f2), u7, u8, u9] ∧ H' = H9)
              ⟨_, rfl, rfl⟩ (fun _ _ H' _ ⟨_, _, e⟩ => by rw [e]; exact SqL.of h8) ?_ ?_⟩
            · rintro j x σ' H' hx ⟨u, rfl, rfl⟩
              obtain ⟨kd, t, ob⟩ : Kind K a.c_Item x H' ∧ ∃ t, Obj' K H' x t := by
                have hm := List.mem_of_getElem? hx
                simp only [List.mem_cons, List.not_mem_nil, or_false] at hm
                rcases hm with rfl | rfl | rfl | rfl | rfl
                · exact ⟨.inr (.inr (.inr (.inr (.inr (.inl ⟨t1, _, rfl, S9 _ _ r1, nk _ (by decide)⟩))))), "tuple", .base (.tup (S9 _ _ r1)), by decide⟩
                · exact ⟨.inl ⟨rfl, nk _ (by decide)⟩, "NoneType", .base .non, by decide⟩
                · exact ⟨.inr (.inr (.inr (.inl ⟨_, rfl, nk _ (by decide)⟩))), "str", .base (.str _), by decide⟩
                · exact ⟨.inr (.inr (.inl ⟨_, rfl, nk _ (by decide)⟩)), "int", .base (.int _), by decide⟩
                · exact ⟨.inr (.inr (.inr (.inr (.inl ⟨q7, _, rfl, h7, nk _ (by decide)⟩)))), "list", .base (.lst h7), by decide⟩
              refine ⟨_, rfl, _, rfl, f1, d1, _, rfl, S9 _ _ i1, kd, f1, nm, lo, hh, pr, x, false, rfl, I1 _ S9, .inl ⟨t, ob, rfl⟩, false, rfl, ?_⟩
              exact ⟨false, false, rfl, rfl, _, rfl, iteF ⟨_, rfl, rfl⟩⟩
            · rintro σ' H' ⟨u, rfl, rfl⟩
              exact ⟨_, _, _, _, _, _, _, _, rfl, (hp5.same S9).mono (by omega)⟩
    · rintro σ H2 ⟨v2, v3, v4, v5, v6, v7, v8, v9, rfl, hp2⟩
      exact k H2
end
end Ask

open PySem PySem.W PyProof.Rows
set_option Elab.async false
set_option linter.all false
set_option maxRecDepth 100000
set_option maxHeartbeats 0
theorem PySem.Challenge.cw_askranges_k05_pairs_of_items_holds : PySem.Challenge.rw_askranges_k05_pairs_of_items.Holds := by
  w_on; o_law; k_head; (case hw => w_witness2)
  k_fill
  refine Ask.walk_law (l := PySem.Challenge.rw_askranges_k05_pairs_of_items) (k := 7) rfl rfl ⟨rfl, by decide, by decide⟩ (fun w h Y => PySem.W.kIn_of Y) ?F
  case F =>
    intro w mg fa h KX G hmg
    obtain ⟨a, T⟩ : ∃ a, Ask.Txt _ mg a := by
      refine' Ask.txt_get KX G ?a11 ?l12 ?c13 ?k14 ?a16 ?pg17 ?hd18 ?po19 ?sa20 ?rd21 ?ga22 ?fa24 ?gt25 ?cv26 ?a37 ?i38 ?mk39 ?kc40 ?l41 ?c42 ?k43 ?q45 ?a58 ?rc59 ?l60 ?c61 ?k62 ?a75 ?gt76 ?tk77 ?rc78 ?l79 ?c80 ?k81 ?a94 ?gt95 ?tk96 ?rc97 ?l98 ?c99 ?k100 ?a113 ?gt114 ?tk115 ?rc116 ?l117 ?c118 ?k119 ?a130 ?i131 ?l132 ?c133 ?k134 ?a145 ?i146 ?l147 ?c148 ?k149 ?a160 ?i161 ?l162 ?c163 ?k164 ?lc181 ?no182 ?ee183 ?en184 ?na185 ?na186 ?na187 ?na188 ?ha189 ?hn190 ?ht191 ?hm192 ?kt193 ?kd194 ?a205 ?l206 ?c207 ?k208 ?a219 ?l220 ?c221 ?k222 ?a233 ?l234 ?c235 ?k236 ?a247 ?l248 ?c249 ?k250 ?a261 ?l262 ?c263 ?k264 ?a275 ?l276 ?c277 ?k278 ?a289 ?l290 ?c291 ?k292 ?a303 ?l304 ?c305 ?k306 ?a308 ?z309 ?z310 ?z311 ?z312 ?z313 ?z314 ?z315 ?z316 ?z317 ?z318
      (case a11 => k_is)
      (case l12 => k_is)
      (case c13 => k_is)
      (case k14 => k_is)
      (case a16 => k_is)
      (case pg17 => k_is)
      (case hd18 => k_is)
      (case po19 => k_is)
      (case sa20 => k_is)
      (case rd21 => k_is)
      (case ga22 => k_is)
      (case fa24 => k_is)
      (case gt25 => k_is)
      (case cv26 => k_is)
      (case a37 => k_is)
      (case i38 => k_is)
      (case mk39 => k_is)
      (case kc40 => k_is)
      (case l41 => k_is)
      (case c42 => k_is)
      (case k43 => k_is)
      (case q45 => k_is)
      (case a58 => k_is)
      (case rc59 => k_is)
      (case l60 => k_is)
      (case c61 => k_is)
      (case k62 => k_is)
      (case a75 => k_is)
      (case gt76 => k_is)
      (case tk77 => k_is)
      (case rc78 => k_is)
      (case l79 => k_is)
      (case c80 => k_is)
      (case k81 => k_is)
      (case a94 => k_is)
      (case gt95 => k_is)
      (case tk96 => k_is)
      (case rc97 => k_is)
      (case l98 => k_is)
      (case c99 => k_is)
      (case k100 => k_is)
      (case a113 => k_is)
      (case gt114 => k_is)
      (case tk115 => k_is)
      (case rc116 => k_is)
      (case l117 => k_is)
      (case c118 => k_is)
      (case k119 => k_is)
      (case a130 => k_is)
      (case i131 => k_is)
      (case l132 => k_is)
      (case c133 => k_is)
      (case k134 => k_is)
      (case a145 => k_is)
      (case i146 => k_is)
      (case l147 => k_is)
      (case c148 => k_is)
      (case k149 => k_is)
      (case a160 => k_is)
      (case i161 => k_is)
      (case l162 => k_is)
      (case c163 => k_is)
      (case k164 => k_is)
      (case lc181 => k_is)
      (case no182 => exact Ask.nsOk_of (by k_is) (by rfl))
      (case ee183 => k_is)
      (case en184 => k_is)
      (case na185 => k_is)
      (case na186 => k_is)
      (case na187 => k_is)
      (case na188 => k_is)
      (case ha189 => k_is)
      (case hn190 => k_is)
      (case ht191 => k_is)
      (case hm192 => k_is)
      (case kt193 => (intro t ht; simp only [Ask.kinds, List.mem_cons, List.not_mem_nil, or_false] at ht; rcases ht with rfl | rfl | rfl | rfl | rfl | rfl | rfl <;> exact Ask.kit_not (by k_is) (by k_is) (by k_is)))
      (case kd194 => (intro t ht; simp only [Ask.kinds, List.mem_cons, List.not_mem_nil, or_false] at ht; rcases ht with rfl | rfl | rfl | rfl | rfl | rfl | rfl <;> k_is))
      (case a205 => k_is)
      (case l206 => k_is)
      (case c207 => k_is)
      (case k208 => k_is)
      (case a219 => k_is)
      (case l220 => k_is)
      (case c221 => k_is)
      (case k222 => k_is)
      (case a233 => k_is)
      (case l234 => k_is)
      (case c235 => k_is)
      (case k236 => k_is)
      (case a247 => k_is)
      (case l248 => k_is)
      (case c249 => k_is)
      (case k250 => k_is)
      (case a261 => k_is)
      (case l262 => k_is)
      (case c263 => k_is)
      (case k264 => k_is)
      (case a275 => k_is)
      (case l276 => k_is)
      (case c277 => k_is)
      (case k278 => k_is)
      (case a289 => k_is)
      (case l290 => k_is)
      (case c291 => k_is)
      (case k292 => k_is)
      (case a303 => k_is)
      (case l304 => k_is)
      (case c305 => k_is)
      (case k306 => k_is)
      (case a308 => k_is)
      (case z309 => k_is)
      (case z310 => k_is)
      (case z311 => k_is)
      (case z312 => k_is)
      (case z313 => k_is)
      (case z314 => k_is)
      (case z315 => k_is)
      (case z316 => k_is)
      (case z317 => k_is)
      (case z318 => k_is)
    cases hmg.symm.trans T.g_law
    exact ⟨_, Ask.bind_script T.F_law fun _ _ _ _ _ _ _ => rfl, fun base _ _ => Ask.ok_law T⟩

