import PyProof.Rows.All
import Wide.All
import OpenK.AllK
import Wide.FinOn
import HandS.ForMost
import HandS.Wide
import PyProof.ReprRoads
import HandS.Property
import HandS.ClsMeth
import HandS.MakeKwOnly
import HandS.IsInst
import HandS.Evl
import HandS.Style
import HandS.Walk
import PyProof.InstNe
import HandS.Defaults
import PyProof.ReprLen
import HandS.CallLocal
import PySem.Challenge.RW_askranges_k02_items_made
set_option Elab.async false
set_option linter.all false
set_option maxRecDepth 100000
set_option maxHeartbeats 2000000
/-! repr of data -/
namespace Ask
open PySem L2
open PyProof.Rows

/-- repr(x), x any data without a dict in it -/
def rRepr (K : PySem.W.Frag) : List V → Hp → VK → Prop := fun xs H Q =>
  ∃ (v : V) (d : PyData), xs = [v] ∧ Dp K H v d ∧ d.showable = true ∧ d.hasDict = false ∧ d.depth ≤ 60 ∧ d.shown.length ≤ sizeLine ∧ Q (.str d.shown) H
theorem cr_repr {X : Cx} (hg : X.A.guards = some []) (hu : X.A.units + 64 < cLine) :
    CallR X (.builtin "repr") (rRepr X.K) := by
  intro pins s σ H xs us Q I r h
  obtain ⟨v, d, rfl, hd, h1, h2, h3, h4, q⟩ := h
  obtain ⟨u, rfl, rx⟩ := vals1 r
  obtain ⟨as, rd⟩ := Dp.reads I d v u hd rx
  cases hd with
  | non =>
    cases rx
    exact P.repr_of_none ⟨.str _, H, I.tok _, ⟨_, rfl⟩, q⟩
  | bl b =>
    cases rx
    exact P.repr_of_bool ⟨.str _, H, I.tok _, ⟨_, rfl⟩, by cases b <;> exact q⟩
  | int i =>
    obtain ⟨t, rfl⟩ := rx
    have hz : i.natAbs.log2 < 1920 := by
      simpa [PyData.showable] using h1
    exact P.repr_of_int hz ⟨.str _, H, I.tok _, ⟨_, rfl⟩, q⟩
  | str x =>
    obtain ⟨t, rfl⟩ := rx
    exact P.repr_of_str ⟨.str _, H, I.tok _, ⟨_, rfl⟩, q⟩ h4
  | lst a b =>
    cases rx
    refine repr_of_reads' rd h1 (fun z => by rw [h2] at z; cases z) hg (by omega) (fun _ _ e => e) (fun h' u tk hk => ?_) h4
    exact ⟨.str _, H, I.kept hk, ⟨_, rfl⟩, q⟩
  | tup a b =>
    cases rx
    refine repr_of_reads' rd h1 (fun z => by rw [h2] at z; cases z) hg (by omega) (fun _ _ e => e) (fun h' u tk hk => ?_) h4
    exact ⟨.str _, H, I.kept hk, ⟨_, rfl⟩, q⟩
end Ask

set_option Elab.async false
set_option linter.all false
set_option maxRecDepth 100000
set_option maxHeartbeats 2000000
/-! the law's own def: run where no repr is under way -/
namespace Ask
open PySem L2
open PyProof.Rows

/-- a promise kept at calls around which no repr is under way -/
structure GOk (P : Program) (w : World) (K : PySem.W.Frag) (mg : Str → Option Value)
    (base : Heap) (CX : CXT) (k : Nat) (f : Addr) (fd : FuncData) (ps : List Str) (sp : Sp) : Prop where
  len : ∀ vs H Q E, sp vs H Q E → vs.length = ps.length
  run : ∀ (A : Around) (outer : List Env) (s : Shared) (H : Hp) (args : Args)
    (us : List Value) (vs : List V) (Q : VK) (E : XK), Room k A → A.guards = some [] →
    Env0 P w K mg base A outer s H → BindsTo s fd args (ps.zip us) → Vals vs us → sp vs H Q E →
    codeAny (model P w) A (.call (.ref f) args) (CR CX outer P w H s Q E) s

/-- such a def by its body -/
theorem gok_of {CX : CXT} {P : Program} {w : World} {K : PySem.W.Frag} {mg : Str → Option Value}
    {base : Heap} {k : Nat} {f : Addr} {name qual : Str} {params : Arguments} {body : List Stmt}
    {scope : Scope} {dV kV doc pm cdv ct oc : Value} {an od : Option Addr} {osl : Array (Option Value)}
    {N ps : List Str} {sp : Sp}
    (lk : K.lookup f = some ⟨oc, od, .func (PySem.W.fnOf name qual params body scope dV kV doc pm an cdv ct), osl⟩)
    (hcd : PySem.W.codeIn K cdv qual = true) (S : FnScope N ps scope)
    (len : ∀ vs H Q E, sp vs H Q E → vs.length = ps.length)
    (hbody : ∀ (A : Around) (outer : List Env) (s : Shared) (H : Hp) (vs : List V) (Q : VK) (E : XK),
      Room k (A.deeper (envOfC qual scope s.heap.objs.size f cdv)) →
      (A.deeper (envOfC qual scope s.heap.objs.size f cdv)).guards = some [] → sp vs H Q E →
      ∃ t, PSs (cxOf CX P w K mg base N qual scope f cdv A outer s H E) body t ∧
        t { nx := fun _ H' => Q .non H', rt := Q } (start N vs) H) :
    GOk P w K mg base CX (k + 1) f
      (PySem.W.fnOf name qual params body scope dV kV doc pm an cdv ct) ps sp where
  len := len
  run := by
    intro A outer s H args us vs Q E hr hgd e0 hb r hsp
    have hl := len _ _ _ _ hsp
    have KX : K.In s.heap := e0.mod.kin.keeps fun b o e => (e0.bs b o e).1
    have lim := e0.mod.nolimit.keeps fun b o e => (e0.bs b o e).1
    refine codeAny_call_function hr.depth (KX _ _ lk) rfl S.co S.gen rfl
      (PySem.W.codeRec_of KX hcd) (hb _ _ _ _ ?_)
    refine wpAny_newFunctionEnv_cells S.kind (fun ⟨n, v⟩ hy => ?_) fun env he s1 x => ?_
    · rcases S.par n (List.of_mem_zip hy).1 with q | q
      · exact Or.inl q
      · exact Or.inr ⟨q, PySem.W.cellsFrom_some _ _ _ (Or.inl q)⟩
    subst he
    refine ⟨lim.keeps x.toInCall.keep, codeAny_func ?_⟩
    obtain ⟨t, ht, hq⟩ := hbody A outer s H vs Q E (hr.deeper _) hgd hsp
    have I := inv_start (CX := CX) (mg := mg) (base := base) (w := w) (E := E) S hr.hd e0 hl r x
    refine wpAny_mono (ht.run [] s1 (start N vs) H _ I hq) (fun fl s' hs => ?_) fun e s' hs => hs
    cases fl with
    | ret u =>
      obtain ⟨v, σ', H', J, rv, q⟩ := hs
      exact ⟨v, H', J.os, J.bare, J.base, J.hok, rv, q⟩
    | next =>
      obtain ⟨σ', H', J, q⟩ := hs
      exact ⟨V.non, H', J.os, J.bare, J.base, J.hok, rfl, q⟩
    | brk => exact hs.elim fun _ z => z.elim fun _ y => y.2.elim
    | cont => exact hs.elim fun _ z => z.elim fun _ y => y.2.elim

/-- the same by the text's own words -/
theorem gok_fun {P : Program} {w : World} {K : PySem.W.Frag} {mg : Str → Option Value} {base : Heap}
    {CX : CXT} {x qual : Str} {st : Stmt} {f : Addr} {fd : FuncData} {N ps : List Str} {k : Nat} {sp : Sp}
    (F : Fun K x qual st f fd) (S : FnScope N ps (defScope st))
    (len : ∀ vs H Q E, sp vs H Q E → vs.length = ps.length)
    (hbody : ∀ (cdv : Value) (A : Around) (outer : List Env) (s : Shared) (H : Hp) (vs : List V) (Q : VK) (E : XK),
      Room k (A.deeper (envOfC qual (defScope st) s.heap.objs.size f cdv)) →
      (A.deeper (envOfC qual (defScope st) s.heap.objs.size f cdv)).guards = some [] → sp vs H Q E →
      ∃ t, PSs (cxOf CX P w K mg base N qual (defScope st) f cdv A outer s H E).nox (defBody st) t ∧
        t { nx := fun _ H' => Q .non H', rt := Q } (start N vs) H) :
    GOk P w K mg base CX (k + 1) f fd ps sp := by
  obtain ⟨oc, od, kV, doc, pm, an, cdv, ct, osl, rfl, lk, hcd⟩ := F.ex
  refine gok_of lk hcd S len fun A outer s H vs Q E hr hg hsp => ?_
  obtain ⟨t, h, q⟩ := hbody cdv A outer s H vs Q E hr hg hsp
  exact ⟨t, PSs.nox h, q⟩

/-- what of a heap the law's call sees: the script alone -/
def seen (K : PySem.W.Frag) (a : Addr) (vs : List Value) (ns : List Int) : Hp := fun b =>
  match K.lookup a with
  | some _ => none
  | none => if b = a then some (.frz { cls := .type "list", data := .seq vs.toArray } (.lst (ns.map V.int))) else none

theorem law_go {P : Program} {w : World} {K : PySem.W.Frag} {mg mb : Str → Option Value} {k : Nat}
    {fa a : Addr} {fd : FuncData} {x : Str} {sp : Sp} {s₁ : Shared} {vs : List Value} {ns : List Int}
    (KX : K.In s₁.heap) (hns : s₁.heap.Ns mainGlobals mg) (hb : s₁.heap.Ns builtinsNs mb)
    (hbb : ∀ x : Str, x ≠ "__name__" → mb x = bootBuiltins x) (hlim : s₁.heap.NoLimit) (hg : s₁.gens = #[])
    (ha : s₁.heap.get? a = some { cls := .type "list", data := .seq vs.toArray }) (hi : IntsAre vs ns)
    (hl : ns.length ≤ sizeLine) (hr : Room k callerA)
    (F : ∀ base : Heap, K.In base → base.Ns mainGlobals mg → GOk P w K mg base CX0 k fa fd [x] sp)
    (hbind : ∀ (s : Shared) (u : Value), BindsTo s fd ⟨[u], []⟩ [(x, u)])
    (hsp : ∀ H : Hp, Only H → SqL K H a (ns.map V.int) → sp [.ref a] H (fun v _ => v = .bl true) fun _ _ _ => False) :
    codeAny (model P w) callerA (.call (.ref fa) ⟨[.ref a], []⟩)
      (fun r s' => r = .ok (.ret (.bool true)) ∧ OldK s₁.heap s'.heap ∧ s'.os = s₁.os ∧ AllBare s'.gens) s₁ := by
  have rv := vals_ints hi
  have lenV := hi.length
  have hA : ∀ b u, seen K a vs ns b = some u → b = a ∧ K.lookup a = none ∧
      u = .frz { cls := .type "list", data := .seq vs.toArray } (.lst (ns.map V.int)) := by
    intro b u e
    unfold seen at e
    cases q : K.lookup a with
    | some o =>
      rw [q] at e
      cases e
    | none =>
      rw [q] at e
      by_cases hb : b = a
      · have e2 := (if_pos hb).symm.trans e
        exact ⟨hb, rfl, (Option.some.inj e2).symm⟩
      · have e2 := (if_neg hb).symm.trans e
        cases e2
  have hO : Only (seen K a vs ns) := fun b => by
    cases q : seen K a vs ns b with
    | none => exact Or.inl rfl
    | some u =>
      obtain ⟨_, _, e⟩ := hA b u q
      exact Or.inr ⟨_, _, by rw [e]⟩
  have hS : SqL K (seen K a vs ns) a (ns.map V.int) := by
    cases q : K.lookup a with
    | some o =>
      have e := KX a o q
      rw [ha] at e
      cases e
      exact Or.inr ⟨_, vs.toArray, _, q, rfl, rfl, rfl, by rw [List.size_toArray, lenV]; exact hl, by simpa using rv⟩
    | none =>
      refine Or.inl (Or.inr ⟨{ cls := .type "list", data := .seq vs.toArray }, ?_⟩)
      unfold seen
      rw [q]
      exact if_pos rfl
  have hok : HOk P w (seen K a vs ns) s₁.heap := fun b u e => by
    obtain ⟨rfl, _, rfl⟩ := hA b u e
    exact ⟨ha, by rw [List.length_map]; exact hl, vs, _, rv, ha⟩
  have inH : ∀ {b : Addr} {o : Obj}, s₁.heap.get? b = some o → seen K a vs ns b = none →
      (hidT s₁.heap (seen K a vs ns)).get? b = some o := fun e n => hidT_get e n
  have noD : ∀ {b : Addr} {o : Obj} {es : Array DictEntry} {ep : Nat}, s₁.heap.get? b = some o →
      o.data = .dict es ep → seen K a vs ns b = none := by
    intro b o es ep e d
    cases q : seen K a vs ns b with
    | none => rfl
    | some u =>
      obtain ⟨rfl, _, _⟩ := hA b u q
      rw [ha] at e
      cases e
      cases (show Data.seq vs.toArray _ = Data.dict es ep from d)
  have nsH : ∀ {b : Addr} {m : Str → Option Value}, s₁.heap.Ns b m → (hidT s₁.heap (seen K a vs ns)).Ns b m := by
    intro b m ⟨o, es, ep, e, d, r⟩
    exact ⟨o, es, ep, inH e (noD e d), d, r⟩
  have kH : K.In (hidT s₁.heap (seen K a vs ns)) := by
    intro b o e
    refine inH (KX b o e) ?_
    cases q : seen K a vs ns b with
    | none => rfl
    | some u =>
      obtain ⟨rfl, z, _⟩ := hA b u q
      rw [z] at e
      cases e
  have limH : (hidT s₁.heap (seen K a vs ns)).NoLimit := by
    obtain ⟨mc, h1, h2⟩ := hlim
    exact ⟨mc, nsH h1, h2⟩
  have e0 : Env0 P w K mg (hidT s₁.heap (seen K a vs ns)) callerA [] s₁ (seen K a vs ns) := {
    frames := rfl
    mod := ⟨kH, nsH hns, ⟨mb, nsH hb, hbb⟩, limH⟩
    bs := fun b o e => of_hidT e
    bsz := Nat.le_of_eq (hidT_size _ _)
    funs := trivial
    frf := fun b hb => absurd (show b ∈ ([] : List Addr) from hb) (by simp)
    hok := hok
    bare := .of_eq hg }
  have run := (F _ kH (nsH hns)).run callerA [] s₁ (seen K a vs ns) ⟨[.ref a], []⟩ [.ref a] [.ref a]
    _ _ hr rfl e0 (hbind s₁ (.ref a)) (.cons rfl .nil) (hsp _ hO hS)
  refine codeAny_mono run fun r s' h => ?_
  cases r with
  | error e => exact False.elim h
  | ok fl =>
    cases fl with
    | next => exact False.elim h
    | brk => exact False.elim h
    | cont => exact False.elim h
    | ret u =>
      obtain ⟨v, H', os, bare, un, hok', r', q⟩ := h
      obtain rfl : v = V.bl true := q
      obtain rfl : u = Value.bool true := r'
      refine ⟨rfl, OldK.of_keep fun b o e => ?_, os, bare⟩
      cases q : seen K a vs ns b with
      | none => exact un.keep b o e q (fun z => nomatch z) (fun z => nomatch z)
      | some u =>
        obtain ⟨_, _, rfl⟩ := hA b u q
        obtain ⟨e1, _⟩ := hok b _ q
        obtain ⟨e2, _⟩ := hok' b _ (un.frzs b _ _ q)
        rw [e] at e1
        cases e1
        exact e2

/-- the goal that the head leaves, from the law's promise -/
theorem walk_go {l : PySem.W.OpenLaw} {n k : Nat} {q : Program} {loose : List Str}
    {XP : (Str → Option Value) → Heap → Prop} {YP : World → Heap → Prop} {d : DefRec}
    {K : Params → PySem.W.Frag} {sp : World → Sp} {x : Str} (hn : l.most = some n) (hn2 : n ≤ sizeLine)
    (hdf : d.params.defaults = []) (hr : Room k callerA)
    (hY : ∀ (w : World) (h : Heap), YP w h → (K w.params).In h)
    (F : ∀ (w : World) (mg : Str → Option Value) (fa : Addr) (h : Heap), (K w.params).In h →
      h.Ns mainGlobals mg → mg d.name = some (.ref fa) →
      ∃ fd : FuncData, (∀ (s : Shared) (u : Value), BindsTo s fd ⟨[u], []⟩ [(x, u)]) ∧
        ∀ base : Heap, (K w.params).In base → base.Ns mainGlobals mg →
          GOk l.prog w (K w.params) mg base CX0 k fa fd [x] (sp w))
    (hsp : ∀ (w : World) (H : Hp) (a : Addr) (ns : List Int), ns.length ≤ n → Only H →
      SqL (K w.params) H a (ns.map V.int) → sp w [.ref a] H (fun v _ => v = .bl true) fun _ _ _ => False) :
    PySem.W.WalkO q loose XP YP l.row.toRowW d [] (fun f vs => PySem.call f vs) := by
  refine Att.attach_call hn hdf ?_
  intro w s₀ s₁ mg mb fa o pm cd doc a vs ns G Y ho hd hcd hmg hobj hints hlen hg
  have KX := hY w _ Y
  obtain ⟨fd, hb, hF⟩ := F w mg fa _ KX G.T.g hmg
  exact law_go KX G.T.g G.T.b G.T.builtins G.T.nolimit hg hobj hints (Nat.le_trans hlen hn2) hr hF hb
    fun H hO hS => hsp w H a ns hlen hO hS
/-- what a law promises: True, whatever the script -/
def spLaw (K : PySem.W.Frag) : Sp := fun vs H Q _ => ∃ (s : Addr) (ns : List Int), vs = [.ref s] ∧
  SqL K H s (ns.map V.int) ∧ ns.length ≤ 63 ∧ ∀ H', Q (.bl true) H'
/-- the goal that the head leaves, from such a def -/
theorem walk_law {l : PySem.W.OpenLaw} {k : Nat} {q : Program} {loose : List Str}
    {XP : (Str → Option Value) → Heap → Prop} {YP : World → Heap → Prop} {d : DefRec}
    {K : Params → PySem.W.Frag} (hn : l.most = some 63) (hdf : d.params.defaults = []) (hr : Room k callerA)
    (hY : ∀ (w : World) (h : Heap), YP w h → (K w.params).In h)
    (F : ∀ (w : World) (mg : Str → Option Value) (fa : Addr) (h : Heap), (K w.params).In h →
      h.Ns mainGlobals mg → mg d.name = some (.ref fa) →
      ∃ fd : FuncData, (∀ (s : Shared) (u : Value), BindsTo s fd ⟨[u], []⟩ [("script", u)]) ∧
        ∀ base : Heap, (K w.params).In base → base.Ns mainGlobals mg →
          GOk l.prog w (K w.params) mg base CX0 k fa fd ["script"] (spLaw (K w.params))) :
    PySem.W.WalkO q loose XP YP l.row.toRowW d [] (fun f vs => PySem.call f vs) :=
  walk_go (n := 63) (k := k) (x := "script") (sp := fun w => spLaw (K w.params)) hn (by decide) hdf hr hY F
    fun w H a ns hl _ hS => ⟨a, ns, rfl, hS, hl, fun _ => rfl⟩
/-- how the law's one argument binds -/
theorem bind_script {K : PySem.W.Frag} {x qual : Str} {st : Stmt} {f : Addr} {fd : FuncData} (F : Fun K x qual st f fd)
    (h : ∀ (kV doc pm : Value) (an : Option Addr) (cdv ct u : Value),
      bindArgs (PySem.W.fnOf x qual (defArgs st) (defBody st) (defScope st) .none kV doc pm an cdv ct) ⟨[u], []⟩ = pure [((Str.ofString "script"), u)])
    (s : Shared) (u : Value) : BindsTo s fd ⟨[u], []⟩ [(Str.ofString "script", u)] := by
  obtain ⟨oc, od, kV, doc, pm, an, cdv, ct, osl, rfl, _, _⟩ := F.ex
  exact .of_eq (h kV doc pm an cdv ct u)
end Ask

set_option Elab.async false
set_option linter.all false
set_option maxRecDepth 100000
set_option maxHeartbeats 2000000
/-! static methods of a class; own == with both answers, != by it -/
namespace Ask
open PySem L2
open PyProof.Rows

/-! ### C.m(e, ..), m a staticmethod -/
structure SMet (K : PySem.W.Frag) (C : Addr) (mc : Value) (m : Str) (p g : Addr) : Prop where
  at_ : PySem.W.findCls K (.ref C) mc m = some (.get (.builtin "staticmethod.__get__") (.ref p) .none (.ref C))
  rc : ∃ rest, PySem.W.recIn K p "staticmethod" = some (.ref g :: rest)
  kp : PySem.W.keepIn K (.ref g) = true
def tSMeth (C : Addr) (sp : Sp) (E : XK) (ta : TE) (t : TA) : TE := fun σ H Q =>
  ta σ H fun x H1 => x = .ref C ∧ t σ H1 fun vs H2 => sp vs H2 Q E
section
variable {X : Cx} {CX : CXT} {k : Nat} {C p g : Addr} {mc : Value} {sp : Sp} {E : XK} {o e : Expr}
  {es : List Expr} {m : Str} {pos apos : Pos} {ta : TE} {t : TA} {pl : Sem Bool} {fd : FuncData} {ps : List Str}
theorem pe_smeth (he : PE X o ta) (r : ClX.CRead X.K C mc) (c : SMet X.K C mc m p g)
    (F : FnOk X.prog X.w X.K X.mg X.base CX k g fd ps sp) (hr : Room k X.A) (hb : Binds X.K fd ps [])
    (hx : Passes CX X E) (ha : PA X (e :: es) t)
    (hst : starEach (e :: es) X.env = (false, eval e X.env) :: starEach es X.env := by rfl)
    (hpl : (backTo pos (starEach es X.env)).any (·.1) = false := by rfl)
    (ht : eval (.Call (.Attribute o m apos) (e :: es) [] pos) X.env = (do
      let ov ← eval o X.env; standAt apos.atName
      let (f, first) ← holding [ov] (getMethod ov m pl)
      callWith pos f first (backTo pos (starEach (e :: es) X.env)) (backToKw pos (keywordEach [] X.env))) := by rfl) :
    PE X (.Call (.Attribute o m apos) (e :: es) [] pos) (tSMeth C sp E ta t) := by
  refine ⟨fun pins s σ H Q I h => ?_⟩
  refine PySem.W.methodCall_KW (pl := pl) (thn (he.run pins s σ H _ I h) ?_) ht
  rintro u s1 ⟨x, H1, I1, rx, ex, q⟩
  subst ex
  obtain rfl : u = Value.ref C := rx
  obtain ⟨rest, hp⟩ := c.rc
  refine PySem.W.method_cls I1.kIn r.ga (PySem.W.cls_bind I1.kIn r.rd c.at_ ?_)
  have I2 := I1.tok (s1.toks + 1)
  refine wpAny_call (PySem.W.sm_get (s := { s1 with toks := s1.toks + 1 }) I2.kIn hp (PySem.W.handed_on rfl ?_))
  refine PySem.W.callWith_K (h₀ := X.base) I2.ok.mod.kin c.kp (thn (ha.run pos pins _ σ H1 _ I2 q) ?_) hst hpl
  rintro us s2 ⟨vs, H2, I3, rv, q2⟩
  refine ⟨I3.kIn, ?_⟩
  exact run_fn (us := us) F hr hb .nil hx I3 rv (by rw [List.append_nil]; exact q2)
end

/-! ### own == and != -/
/-- the class at C (of object alone) has its own __eq__, the def at f, and no own __ne__ -/
structure EqCls (K : PySem.W.Frag) (C f : Addr) : Prop where
  cls : ∃ (nm q : Str) (N : Addr) (bs : List Value) (hdct : Bool) (sn : List Str) (sub : List Value) (ab : Bool)
    (col : Option Bool) (dd : Option Addr) (k0 k1 k2 k3 k5 : Option Value) (newId : String),
    K.lookup C = some (excClassObj nm q C N bs [.type "object"] hdct sn sub ab col dd k0 k1 k2 k3 k5 newId) ∧
    PySem.W.nsOkIn K N = true ∧ PySem.W.nsIn K N "__eq__" = some (some (.ref f)) ∧ PySem.W.nsIn K N "__ne__" = some none
  at_ : PySem.W.findIn K (.ref C) "__eq__" = some (some (.ref f))
  fn : PySem.W.isFn K (.ref f) = true

/-- kinds of the right side: what == asks of its type -/
def Kind (K : PySem.W.Frag) (C : Addr) (x : V) (H : Hp) : Prop :=
  (x = .non ∧ PySem.W.notFirst K C (.type "NoneType") = true) ∨ (∃ b, x = .bl b ∧ PySem.W.notFirst K C (.type "bool") = true) ∨
  (∃ i, x = .int i ∧ PySem.W.notFirst K C (.type "int") = true) ∨ (∃ t, x = .str t ∧ PySem.W.notFirst K C (.type "str") = true) ∨
  (∃ a xs, x = .ref a ∧ H a = some (.lst xs) ∧ PySem.W.notFirst K C (.type "list") = true) ∨
  (∃ a xs, x = .ref a ∧ H a = some (.tup xs) ∧ PySem.W.notFirst K C (.type "tuple") = true) ∨
  (∃ a xs, x = .ref a ∧ H a = some (.dK xs) ∧ PySem.W.notFirst K C (.type "dict") = true) ∨
  (∃ a D dx fs, x = .ref a ∧ H a = some (.ins D dx fs) ∧ PySem.W.notFirst K C (.ref D) = true)
section
variable {X : Cx} {pins : List (Addr × Obj)} {σ : L2.St} {H : Hp} {s : Shared} {C : Addr}
theorem looks_kind {x : V} {u : Value} (I : Inv X pins σ H s) (rx : RelV x u) (k : Kind X.K C x H) :
    ∃ tb, (∀ M, PySem.W.Looks M s.heap (typeOf u) tb) ∧ PySem.W.notFirst X.K C tb = true := by
  have of_obj : ∀ {a : Addr} {o : Obj}, s.heap.get? a = some o → ∀ M, PySem.W.Looks M s.heap (typeOf (.ref a)) o.cls := by
    intro a o e M
    exact (PySem.W.Looks.ld e).andThen .now
  rcases k with ⟨rfl, n⟩ | ⟨b, rfl, n⟩ | ⟨i, rfl, n⟩ | ⟨t, rfl, n⟩ | ⟨a, xs, rfl, e, n⟩ | ⟨a, xs, rfl, e, n⟩ | ⟨a, xs, rfl, e, n⟩ | ⟨a, D, dx, fs, rfl, e, n⟩
  · cases rx
    exact ⟨_, fun M => PySem.W.Looks.of_pure rfl, n⟩
  · cases rx
    exact ⟨_, fun M => PySem.W.Looks.of_pure rfl, n⟩
  · obtain ⟨t, rfl⟩ := rx
    exact ⟨_, fun M => PySem.W.Looks.of_pure rfl, n⟩
  · obtain ⟨t', rfl⟩ := rx
    exact ⟨_, fun M => PySem.W.Looks.of_pure rfl, n⟩
  · cases rx
    obtain ⟨_, its, m, _, e1⟩ := I.hok a _ e
    exact ⟨_, of_obj e1, n⟩
  · cases rx
    obtain ⟨_, its, _, ob, e1, c, _⟩ := I.hok a _ e
    have z := of_obj e1
    rw [c] at z
    exact ⟨_, z, n⟩
  · cases rx
    obtain ⟨_, _, vs, _, ob, es, ep, e1, c, _⟩ := I.hok a _ e
    have z := of_obj e1
    rw [c.1] at z
    exact ⟨_, z, n⟩
  · cases rx
    obtain ⟨mA, J, _⟩ := ins_get I.hok e
    obtain ⟨od, J, _⟩ := J.look
    exact ⟨_, fun M => J.type, n⟩

/-- x == y, x an instance of the class at C -/
def rEqO (C : Addr) (sp : Sp) (K : PySem.W.Frag) : R2 := fun x y H Q => ∃ a dx fs, x = .ref a ∧ H a = some (.ins C dx fs) ∧ Kind K C y H ∧
  sp [x, y] H (fun v H' => ∃ b, v = .bl b ∧ Q (.bl b) H') E0
def rNeO (C : Addr) (sp : Sp) : R2 := fun x y H Q => ∃ a b dx dy fs gs, x = .ref a ∧ y = .ref b ∧ H a = some (.ins C dx fs) ∧
  H b = some (.ins C dy gs) ∧ sp [x, y] H (fun v H' => ∃ b, v = .bl b ∧ Q (.bl (!b)) H') E0
variable {k : Nat} {f : Addr} {fd : FuncData} {ps : List Str} {sp : Sp}
/-- the call of the own __eq__ -/
theorem run_eq (F : FnOk X.prog X.w X.K X.mg X.base CX0 k f fd ps sp) {A : Around} (hr : Room k A) (hf : A.frames = X.A.frames)
    (hb : Binds X.K fd ps []) (I : Inv X pins σ H s) {x y : V} {u v : Value} (rx : RelV x u) (ry : RelV y v) {Q : VK} {E : Value → Shared → Prop}
    (h : sp [x, y] H Q E0) : wpAny (model X.prog X.w) A (call (.ref f) [u, v]) (EP X pins σ Q) E s := by
  have e0 : Env0 X.prog X.w X.K X.mg X.base A X.stack s H := by
    have e := I.env0
    exact ⟨hf.trans e.frames, e.mod, e.bs, e.bsz, e.funs, e.frf, e.hok, e.bare⟩
  have hl := F.len _ _ _ _ h
  have hbd := hb s [u, v] I.kIn hl
  refine wpAny_call (codeAny_mono (F.run A X.stack s H ⟨[u, v], []⟩ [u, v] [x, y] _ E0 hr e0 hbd (.cons rx (.cons ry .nil)) h) ?_)
  intro r s' hq
  cases r with
  | error e => exact hq.elim
  | ok fl =>
    cases fl with
    | ret w => exact I.after hq
    | next => exact False.elim hq
    | brk => exact False.elim hq
    | cont => exact False.elim hq
theorem op_eqO (F : FnOk X.prog X.w X.K X.mg X.base CX0 k f fd ps sp) (hr : Room k X.A) (c : EqCls X.K C f) (hb : Binds X.K fd ps []) :
    OpR X (compareOp .Eq) (rEqO C sp X.K) := by
  intro pins s σ H x y v u Q I rx ry hq
  obtain ⟨a, dx, fs, rfl, ha, hk, h⟩ := hq
  cases rx
  obtain ⟨tb, ht, hn⟩ := looks_kind I ry hk
  obtain ⟨mA, J, _⟩ := ins_get I.hok ha
  obtain ⟨od, J, _⟩ := J.look
  obtain ⟨m, hF⟩ := I.fr
  show wpAny (model X.prog X.w) X.A (richCompare .Eq (.ref a) u) (EP X pins σ Q) X.xe s
  refine PySem.W.cmp_K (op := .Eq) hr.units0 hF I.ok.mod.kin J (ht _) hn c.at_ c.fn ?_
  refine thn (run_eq F hr rfl hb I (x := .ref a) rfl ry h) ?_
  rintro w s' ⟨z, H', I', rz, b, ez, q⟩
  subst ez
  cases rz
  exact ⟨.bl b, H', I', rfl, q⟩
theorem op_neO (F : FnOk X.prog X.w X.K X.mg X.base CX0 k f fd ps sp) (hr : Room (k + 1) X.A) (c : EqCls X.K C f) (hb : Binds X.K fd ps []) :
    OpR X (compareOp .NotEq) (rNeO C sp) := by
  intro pins s σ H x y v u Q I rx ry hq
  obtain ⟨a, b, dx, dy, fs, gs, rfl, rfl, ha, hb', h⟩ := hq
  cases rx
  cases ry
  obtain ⟨nm, q, N, bs, hdct, sn, sub, ab, col, dd, k0, k1, k2, k3, k5, newId, hC, hN, he, hne⟩ := c.cls
  have KX := I.kIn
  obtain ⟨_, _, _, oa, _⟩ := I.hok a _ ha
  obtain ⟨_, _, _, ob, _⟩ := I.hok b _ hb'
  have hns : s.heap.Ns N (s.heap.nsMap N) := .of_isNs (PySem.W.isNs_of_in KX hN)
  have me : s.heap.nsMap N "__eq__" = some (.ref f) := by
    obtain ⟨o, es, ep, ho, hd, _, hf⟩ := hns
    have z := he
    unfold PySem.W.nsIn at z
    split at z
    · rename_i c' d' es' n' sl' q'
      have w := KX _ _ q'
      rw [ho] at w
      cases w
      cases hd
      split at z
      · rename_i e' he'
        rw [← hf]
        unfold nsFind findBy
        rw [← Array.find?_toList, he']
        exact (Option.some.inj z)
      · split at z <;> cases z
    · cases z
  have mn : s.heap.nsMap N "__ne__" = none := PySem.W.nsMap_none_of_in KX hN hne
  have hfo : ∃ of, s.heap.get? f = some of ∧ of.cls = .type "function" := by
    have z : (X.K.lookup f).map (·.cls) = some (Value.type "function") := beq_iff_eq.mp c.fn
    cases q : X.K.lookup f with
    | none =>
      rw [q] at z
      cases z
    | some o =>
      rw [q] at z
      exact ⟨o, KX _ _ q, Option.some.inj z⟩
  obtain ⟨of, hof, hoc⟩ := hfo
  have OE : s.heap.OwnEqNoNe a C f "object" [.type "object"] :=
    ⟨_, of, nm, q, N, bs, hdct, sn, sub, ab, col, dd, k0, k1, k2, k3, k5, newId, _, _, oa, rfl, KX _ _ hC, hns, me, hof, hoc, PySem.F.cmp_object.mro, PySem.F.cmp_object.eq.lookup, mn⟩
  obtain ⟨hh, g, d, t, os⟩ := s
  refine compareOp_ne_ownEq PySem.F.cmp_object OE ob rfl (by have := hr.un; omega) ?_
  refine wpAny_mono (run_eq F hr.in1 rfl hb I (x := .ref a) (y := .ref b) rfl rfl h) ?_ (fun _ _ e => e)
  rintro w s' ⟨z, H', I', rz, c', ez, q'⟩
  subst ez
  cases rz
  exact ⟨c', rfl, .bl _, H', I', rfl, q'⟩
end
end Ask

set_option Elab.async false
set_option linter.all false
set_option maxRecDepth 100000
set_option maxHeartbeats 2000000
/-! what the written part holds of a def, a method, a class -/
namespace Ask
open PySem L2
open PyProof.Rows
def kinds : List String := ["NoneType", "bool", "int", "str", "list", "tuple", "dict"]
/-- what isinstance asks of the class of an instance, and of other kinds beside it -/
structure InsTy (K : PySem.W.Frag) (C : Addr) : Prop where
  ha : PySem.W.findIn K (.ref C) "__class__" = some (some (.builtin "object.__class__"))
  hn : PySem.W.specialIn K (.builtin "object.__class__") "__get__" = some (some (.builtin "getset_descriptor.__get__"))
  ht : PySem.W.takesIn K (.builtin "object.__class__") = some true
  hm : PySem.W.mroIn K C (.type "object") = some true
  kt : ∀ t ∈ kinds, PySem.W.kitOne K (.type t) (.ref C) = some false
theorem InsTy.of {K : PySem.W.Frag} {C a dx : Addr} {fs : List (Str × V)} {H : Hp} (i : InsTy K C) (c : Cls K C) (e : H a = some (.ins C dx fs)) :
    TyX K H (.ref a) (.ref C) := .base (.ins e c i.ha i.hn i.ht i.hm)
theorem pe_gi {X : Cx} {x : Str} {pos : Pos} {v : V} (hg : Gl X x) (h : ∃ u, X.mg x = some u ∧ RelV v u)
    (hd : (x == ("__debug__" : Str)) = false := by decide) : PE X (.Name x pos) (tC v) := by
  obtain ⟨u, hm, r⟩ := h
  exact pe_glob hg hm r hd
theorem nsOk_of {K : PySem.W.Frag} {N : Addr} {oc : Value} {od : Option Addr} {es : Array DictEntry} {n : Nat} {sl : Array (Option Value)}
    (l : K.lookup N = some ⟨oc, od, .dict es n, sl⟩) (r : (es.toList.all fun e => match e.key with | .str _ _ => true | _ => false) = true) : PySem.W.nsOkIn K N = true := by
  unfold PySem.W.nsOkIn
  rw [l]
  rw [Array.all_toList] at r
  exact r
theorem kit_not {K : PySem.W.Frag} {C : Addr} {t : String} (i : PySem.W.isClsIn K C = true) (ty : PySem.W.typeIn K (.ref C) = some (.type "type"))
    (s : PySem.W.subIn K (.type t) (.ref C) = some false) : PySem.W.kitOne K (.type t) (.ref C) = some false := by
  have i' : (PySem.W.clsIn K C).isSome = true := i
  unfold PySem.W.kitOne
  rw [if_neg (by simp)]
  show (if ((PySem.W.clsIn K C).isSome && PySem.W.typeIn K (.ref C) == some (.type "type")) = true then _ else _) = _
  rw [i', ty]
  exact s
theorem kit_self {K : PySem.W.Frag} {C : Addr} : PySem.W.kitOne K (.ref C) (.ref C) = some true := by
  unfold PySem.W.kitOne
  rw [if_pos (by simp)]
section
variable {K : PySem.W.Frag} {h : Heap} {mg : Str → Option Value} {x qual : Str} {st : Stmt} {f p C : Addr}
  {oc kV doc pm cdv ct mc : Value} {od an : Option Addr} {osl : Array (Option Value)} {rest : List Value}
/-- the def st, with no positional defaults, as the object of K -/
def DefAt (K : PySem.W.Frag) (x qual : Str) (st : Stmt) (f : Addr) (oc : Value) (od : Option Addr) (kV doc pm : Value)
    (an : Option Addr) (cdv ct : Value) (osl : Array (Option Value)) : Prop :=
  K.lookup f = some ⟨oc, od, .func (PySem.W.fnOf x qual (defArgs st) (defBody st) (defScope st) .none kV doc pm an cdv ct), osl⟩
theorem fun_get (X : K.In h) (G : h.Ns mainGlobals mg) (a : PySem.W.nsIn K mainGlobals x = some (some (.ref f)))
    (l : K.lookup f = some ⟨oc, od, .func (PySem.W.fnOf x qual (defArgs st) (defBody st) (defScope st) .none kV doc pm an cdv ct), osl⟩)
    (c : PySem.W.codeIn K cdv qual = true) (k : PySem.W.keepIn K (.ref f) = true) :
    ∃ f fd, Fun K x qual st f fd ∧ mg x = some (.ref f) := ⟨f, _, fun_mk l c k, PySem.W.mg_of X G a⟩
theorem meth_get (X : K.In h) (a : PySem.W.findIn K (.ref C) x = some (some (.ref f))) (i : PySem.W.isFn K (.ref f) = true)
    (l : K.lookup f = some ⟨oc, od, .func (PySem.W.fnOf x qual (defArgs st) (defBody st) (defScope st) .none kV doc pm an cdv ct), osl⟩)
    (c : PySem.W.codeIn K cdv qual = true) (k : PySem.W.keepIn K (.ref f) = true) :
    ∃ f fd, Fun K x qual st f fd ∧ Meth K C x f := ⟨f, _, fun_mk l c k, ⟨a, i, k⟩⟩
theorem prop_get (X : K.In h) (a : PySem.W.findIn K (.ref C) x = some (some (.ref p)))
    (g : PySem.W.specialIn K (.ref p) "__get__" = some (some (.builtin "property.__get__"))) (t : PySem.W.takesIn K (.ref p) = some true)
    (r : PySem.W.recIn K p "property" = some (.ref f :: rest))
    (l : K.lookup f = some ⟨oc, od, .func (PySem.W.fnOf x qual (defArgs st) (defBody st) (defScope st) .none kV doc pm an cdv ct), osl⟩)
    (c : PySem.W.codeIn K cdv qual = true) (k : PySem.W.keepIn K (.ref f) = true) :
    ∃ f fd p, Fun K x qual st f fd ∧ PropOf K C x p f := ⟨f, _, p, fun_mk l c k, ⟨a, g, t, rest, r⟩⟩
theorem stat_get (X : K.In h) (a : PySem.W.findCls K (.ref C) mc x = some (.get (.builtin "staticmethod.__get__") (.ref p) .none (.ref C)))
    (r : PySem.W.recIn K p "staticmethod" = some (.ref f :: rest))
    (l : K.lookup f = some ⟨oc, od, .func (PySem.W.fnOf x qual (defArgs st) (defBody st) (defScope st) .none kV doc pm an cdv ct), osl⟩)
    (c : PySem.W.codeIn K cdv qual = true) (k : PySem.W.keepIn K (.ref f) = true) :
    ∃ f fd p, Fun K x qual st f fd ∧ SMet K C mc x p f := ⟨f, _, p, fun_mk l c k, ⟨a, ⟨rest, r⟩, k⟩⟩
/-- __init__ with one keyword-only parameter of a default that is an int -/
theorem init_get {D : Addr} {y : Str} {i : Int} {t : Tok} (X : K.In h) (mk : PySem.W.makesIn K C = true) (kc : PySem.W.keepIn K (.ref C) = true)
    (a : PySem.W.findIn K (.ref C) "__init__" = some (some (.ref f))) (i1 : PySem.W.isFn K (.ref f) = true)
    (l : K.lookup f = some ⟨oc, od, .func (PySem.W.fnOf "__init__" qual (defArgs st) (defBody st) (defScope st) .none (.ref D) doc pm an cdv ct), osl⟩)
    (c : PySem.W.codeIn K cdv qual = true) (k : PySem.W.keepIn K (.ref f) = true)
    (q : PySem.W.nsIn K D y = some (some (.int i t))) :
    ∃ f fd, FunD K "__init__" qual (defArgs st) (defBody st) (defScope st) [] [(y, V.int i)] f fd ∧ Mk K C f := by
  refine ⟨f, _, ⟨⟨oc, od, .none, .ref D, doc, pm, an, cdv, ct, osl, rfl, l, c, .inl ⟨rfl, rfl⟩, .inr ⟨D, rfl, ?_⟩⟩, k⟩, ⟨mk, a, i1, kc⟩⟩
  intro z hz
  obtain rfl := List.mem_singleton.mp hz
  exact ⟨_, q, t, rfl⟩
theorem init_get0 (X : K.In h) (mk : PySem.W.makesIn K C = true) (kc : PySem.W.keepIn K (.ref C) = true)
    (a : PySem.W.findIn K (.ref C) "__init__" = some (some (.ref f))) (i1 : PySem.W.isFn K (.ref f) = true)
    (l : K.lookup f = some ⟨oc, od, .func (PySem.W.fnOf "__init__" qual (defArgs st) (defBody st) (defScope st) .none kV doc pm an cdv ct), osl⟩)
    (c : PySem.W.codeIn K cdv qual = true) (k : PySem.W.keepIn K (.ref f) = true) :
    ∃ f fd, Fun K "__init__" qual st f fd ∧ Mk K C f := ⟨f, _, fun_mk l c k, ⟨mk, a, i1, kc⟩⟩
theorem cls_get (X : K.In h) (G : h.Ns mainGlobals mg) (a : PySem.W.nsIn K mainGlobals x = some (some (.ref C)))
    (pg : PySem.W.plainGet K C Str.empty = true) (hd : PySem.W.hasDictIn K C = true) (po : PySem.W.plainOver K C = true)
    (sa : PySem.W.findIn K (.ref C) "__setattr__" = some (some (.builtin "object.__setattr__")))
    (rd : PySem.W.readsIn K C (.type "type") = true) (ga : PySem.W.specialIn K (.ref C) "__getattribute__" = some (some (.builtin "type.__getattribute__"))) :
    ∃ C, mg x = some (.ref C) ∧ Cls K C ∧ ClX.CRead K C (.type "type") ∧ PySem.W.nsIn K mainGlobals x = some (some (.ref C)) :=
  ⟨C, PySem.W.mg_of X G a, ⟨pg, hd, po, sa⟩, ⟨rd, ga⟩, a⟩
theorem eq_get {nm q : Str} {N : Addr} {bs : List Value} {hdct : Bool} {sn : List Str} {sub : List Value} {ab : Bool}
    {col : Option Bool} {dd : Option Addr} {k0 k1 k2 k3 k5 : Option Value} {newId : String}
    (l : K.lookup C = some (excClassObj nm q C N bs [.type "object"] hdct sn sub ab col dd k0 k1 k2 k3 k5 newId))
    (n : PySem.W.nsOkIn K N = true) (e : PySem.W.nsIn K N "__eq__" = some (some (.ref f))) (ne : PySem.W.nsIn K N "__ne__" = some none)
    (a : PySem.W.findIn K (.ref C) "__eq__" = some (some (.ref f))) (i : PySem.W.isFn K (.ref f) = true) : EqCls K C f :=
  ⟨⟨nm, q, N, bs, hdct, sn, sub, ab, col, dd, k0, k1, k2, k3, k5, newId, l, n, e, ne⟩, a, i⟩
theorem glob_get {v : V} {u : Value} (X : K.In h) (G : h.Ns mainGlobals mg) (a : PySem.W.nsIn K mainGlobals x = some (some u)) (r : RelV v u) :
    ∃ u, mg x = some u ∧ RelV v u := ⟨u, PySem.W.mg_of X G a, r⟩
/-- the globals that are not bound: built-in names -/
theorem blt_get (X : K.In h) (G : h.Ns mainGlobals mg) (a : PySem.W.nsIn K mainGlobals x = some none) : mg x = none := PySem.W.mg_none_of X G a
end
end Ask

set_option Elab.async false
set_option linter.all false
set_option maxRecDepth 100000
set_option maxHeartbeats 2000000
/-! the pen of a law: its promises; ints as data -/
namespace Ask
open PySem L2
open PyProof.Rows
/-! ### the pen: a list of a list of ints, a place and what is left of the last cell -/
/-- at p stands a pen over the list at l, that has been at i places -/
def Pen (H : Hp) (p : Addr) (n : Nat) : Prop :=
  ∃ (l : Addr) (i v : Int) (ns : List Int), H p = some (.lst [.ref l, .int i, .int v]) ∧
    H l = some (.lst (ns.map V.int)) ∧ 0 ≤ i ∧ i ≤ (n : Int) ∧ 0 ≤ v ∧ ns.length ≤ 100000

/-- all but what stands at p is as it was -/
def But (p : Addr) (H H' : Hp) : Prop := ∀ b o, b ≠ p → H b = some o → H' b = some o
theorem But.refl (p : Addr) (H : Hp) : But p H H := fun _ _ _ e => e
theorem But.trans {p : Addr} {H H1 H2 : Hp} (a : But p H H1) (b : But p H1 H2) : But p H H2 :=
  fun c o h e => b c o h (a c o h e)
theorem But.upd {p : Addr} {H : Hp} {o : HO} : But p H (upd H p o) := fun b u h e => by
  rw [upd_ne h]
  exact e
theorem But.new {p q : Addr} {H : Hp} {o : HO} (h : H q = none) : But p H (L2.upd H q o) := fun b u _ e => by
  rw [upd_ne (ne_of_none e h)]
  exact e
theorem But.seq {K : PySem.W.Frag} {p a : Addr} {H H' : Hp} {xs : List V} (e : But p H H') (hp : a ≠ p)
    (h : SqL K H a xs) : SqL K H' a xs := by
  rcases h with (h | ⟨o, h⟩) | h
  · exact .inl (.inl (e _ _ hp h))
  · exact .inl (.inr ⟨o, e _ _ hp h⟩)
  · exact .inr h

/-- _law_pen(script) -/
def spPen (K : PySem.W.Frag) : Sp := fun vs H Q _ => ∃ (a : Addr) (ns : List Int), vs = [.ref a] ∧
  SqL K H a (ns.map V.int) ∧ ns.length ≤ 63 ∧ ∀ p H', H p = none → But p H H' → Pen H' p 0 → Q (.ref p) H'
/-- _law_next(pen) -/
def spNext : Sp := fun vs H Q _ => ∃ (p : Addr) (n : Nat) (l : Addr) (i v : Int) (ns : List Int), vs = [.ref p] ∧
  H p = some (.lst [.ref l, .int i, .int v]) ∧ H l = some (.lst (ns.map V.int)) ∧ 0 ≤ i ∧ i ≤ (n : Int) ∧ n ≤ 1000000 ∧ ns.length ≤ 100000 ∧
  ∀ z : Int, 0 ≤ z → ∀ H', But p H H' → H' p = some (.lst [.ref l, .int (i + 1), .int v]) → Q (.int z) H'
/-- _law_draw(pen, below) -/
def spDraw : Sp := fun vs H Q _ => ∃ (p : Addr) (n : Nat) (b : Int), vs = [.ref p, .int b] ∧ Pen H p n ∧ n ≤ 1000000 ∧
  0 < b ∧ b < 2 ^ 200 ∧ ∀ (z : Int) H', 0 ≤ z → z < b → But p H H' → Pen H' p (n + 1) → Q (.int z) H'

theorem cut_ints (ns : List Int) (k : Nat) : cutV (ns.map V.int) none (some (k : Int)) = (ns.take k).map V.int := by
  unfold cutV
  rw [HT.sIx_none, HT.sIx_nat, List.drop_zero, List.length_map, Nat.sub_zero, ← List.map_take]
  congr 1
  by_cases h : k ≤ ns.length
  · rw [Nat.min_eq_left h]
  · rw [Nat.min_eq_right (by omega), List.take_of_length_le (Nat.le_refl _), List.take_of_length_le (by omega)]
theorem But.of {p q : Addr} {H H' : Hp} {o : HO} (h : But p H H') (n : H q = none) : But p H (L2.upd H' q o) := fun b u hb e => by
  rw [upd_ne (ne_of_none e n)]
  exact h b u hb e
theorem But.same {p : Addr} {H H' : Hp} (h : But p H H') (n : H p = none) : Same H H' := fun b u e => h b u (ne_of_none e n) e
theorem Same.new {q : Addr} {H : Hp} {o : HO} (h : H q = none) : Same H (L2.upd H q o) := fun b u e => by
  rw [upd_ne (ne_of_none e h)]
  exact e
theorem Same.of {q : Addr} {H H' : Hp} {o : HO} (h : Same H H') (n : H q = none) : Same H (L2.upd H' q o) := fun b u e => by
  rw [upd_ne (ne_of_none e n)]
  exact h b u e
theorem Same.grow {q : Addr} {H H' : Hp} {o : HO} (h : Same H H') (n : H' q = none) : Same H (L2.upd H' q o) := Same.of h (h.free n)
theorem Same.but {p : Addr} {H H' : Hp} (h : Same H H') : But p H H' := fun b u _ e => h b u e
theorem dp_ints {K : PySem.W.Frag} {H : Hp} : ∀ ns : List Int, DpAll K H (ns.map V.int) (ns.map PyData.int)
  | [] => .nil
  | n :: ns => .cons (.int n) (dp_ints ns)
theorem lay_ints : ∀ ns : List Int, PyData.canLayAll0 (ns.map PyData.int) = true
  | [] => rfl
  | n :: ns => by
    rw [List.map_cons]
    unfold PyData.canLayAll0
    rw [lay_ints ns]
    rfl
theorem dep_ints : ∀ ns : List Int, PyData.depthAll (ns.map PyData.int) ≤ 1
  | [] => by decide
  | n :: ns => by
    have := dep_ints ns
    rw [List.map_cons]
    unfold PyData.depthAll
    unfold PyData.depth
    omega
theorem shaped_ints (ns : List Int) : SeqAt.shaped (.list (ns.map PyData.int)) = true := by
  unfold SeqAt.shaped
  unfold PyData.canLay0
  rw [lay_ints]
  have := dep_ints ns
  unfold PyData.depth
  rw [decide_eq_true (by omega)]
  rfl
theorem ne_nil (ns : List Int) : (!PyData.eqv (.list (ns.map PyData.int)) (.list [])) = !ns.isEmpty := by
  cases ns with
  | nil => rfl
  | cons n ns => rfl
theorem ints_at {ns : List Int} {j : Nat} (h : j < ns.length) : ∃ c, (ns.map V.int)[j]? = some (.int c) :=
  ⟨ns[j], by rw [List.getElem?_map, List.getElem?_eq_getElem h]; rfl⟩
theorem mod_below (i : Int) {n : Nat} (hn : 0 < n) : ∃ j : Nat, i % (n : Int) = (j : Int) ∧ j < n := by
  have h1 := Int.emod_nonneg i (show (n : Int) ≠ 0 by omega)
  have h2 := Int.emod_lt_of_pos i (show (0 : Int) < (n : Int) by omega)
  exact ⟨(i % (n : Int)).toNat, by omega, by omega⟩

theorem rd_ixL {K : PySem.W.Frag} {H : Hp} {p : Addr} {xs : List V} {v : V} {R : V → Prop} (j : Nat) (h : H p = some (.lst xs)) (hx : xs[j]? = some v) (k : R v) :
    ∃ p' xs' i v', V.ref p = V.ref p' ∧ V.int (j : Int) = V.int i ∧ SqL K H p' xs' ∧ atI xs' i = some v' ∧ R v' :=
  ⟨p, xs, _, v, rfl, rfl, SqL.of h, atI_nat hx, k⟩
end Ask

set_option Elab.async false
set_option linter.all false
set_option maxRecDepth 100000
set_option maxHeartbeats 2000000
/-! data whose text is short -/
namespace Ask
open PySem L2
open PyProof.Rows
/-- data that can be shown, with a text of at most n signs -/
structure Shows (n : Nat) (d : PyData) : Prop where
  can : d.showable = true
  nod : d.hasDict = false
  dep : d.depth ≤ 20
  len : d.shown.length ≤ n
theorem showAll : ∀ ds : List PyData, (∀ d ∈ ds, d.showable = true) → PyData.showableAll ds = true
  | [], _ => rfl
  | d :: ds, h => by
    unfold PyData.showableAll
    rw [h d List.mem_cons_self, showAll ds fun x hx => h x (List.mem_cons_of_mem _ hx)]
    rfl
theorem nodAll : ∀ ds : List PyData, (∀ d ∈ ds, d.hasDict = false) → PyData.hasDictAll ds = false
  | [], _ => rfl
  | d :: ds, h => by
    unfold PyData.hasDictAll
    rw [h d List.mem_cons_self, nodAll ds fun x hx => h x (List.mem_cons_of_mem _ hx)]
    rfl
theorem depAll {k : Nat} : ∀ ds : List PyData, (∀ d ∈ ds, d.depth ≤ k) → PyData.depthAll ds ≤ k
  | [], _ => by
    unfold PyData.depthAll
    exact Nat.zero_le _
  | d :: ds, h => by
    have h1 := h d List.mem_cons_self
    have h2 := depAll ds fun x hx => h x (List.mem_cons_of_mem _ hx)
    unfold PyData.depthAll
    omega
theorem lenAll {n : Nat} : ∀ ds : List PyData, (∀ d ∈ ds, d.shown.length ≤ n) → ((PyData.shownAll ds).map (·.length)).sum ≤ n * ds.length ∧ (PyData.shownAll ds).length = ds.length
  | [], _ => by
    unfold PyData.shownAll
    exact ⟨Nat.zero_le _, rfl⟩
  | d :: ds, h => by
    have h1 := h d List.mem_cons_self
    have h2 := lenAll ds fun x hx => h x (List.mem_cons_of_mem _ hx)
    unfold PyData.shownAll
    rw [List.map_cons, List.sum_cons, List.length_cons, List.length_cons, Nat.mul_succ]
    exact ⟨by omega, by omega⟩
/-- a list of such -/
theorem shows_list {n k : Nat} {ds : List PyData} (h : ∀ d ∈ ds, Shows n d) (hd : ∀ d ∈ ds, d.depth ≤ 18) (hn : ds.length ≤ k) : Shows (n * k + 2 * k + 3) (.list ds) where
  can := by
    unfold PyData.showable
    exact showAll ds fun d hx => (h d hx).can
  nod := by
    unfold PyData.hasDict
    exact nodAll ds fun d hx => (h d hx).nod
  dep := by
    have z := depAll ds hd
    unfold PyData.depth
    omega
  len := by
    have z := lenAll ds fun d hx => (h d hx).len
    have y := listText_len_le (PyData.shownAll ds)
    have m : n * ds.length ≤ n * k := Nat.mul_le_mul_left n hn
    unfold PyData.shown
    omega
theorem shows_bool (b : Bool) : Shows 5 (.bool b) := by
  refine ⟨rfl, rfl, ?_, ?_⟩
  · unfold PyData.depth
    omega
  · cases b <;> decide +kernel
theorem dp_bls {K : PySem.W.Frag} {H : Hp} : ∀ bs : List Bool, DpAll K H (bs.map V.bl) (bs.map PyData.bool)
  | [] => .nil
  | b :: bs => .cons (.bl b) (dp_bls bs)
theorem dep_bools (bs : List Bool) : ∀ d ∈ bs.map PyData.bool, d.depth ≤ 18 := fun d hd => by
  obtain ⟨b, _, rfl⟩ := List.mem_map.mp hd
  unfold PyData.depth
  omega
theorem shows_bools {k : Nat} (bs : List Bool) (h : bs.length ≤ k) : Shows (5 * k + 2 * k + 3) (.list (bs.map PyData.bool)) :=
  shows_list (fun d hd => by
    obtain ⟨b, _, rfl⟩ := List.mem_map.mp hd
    exact shows_bool b) (dep_bools bs) (by rw [List.length_map]; exact h)
/-- repr of such, as a call asks it -/
theorem repr_ask {K : PySem.W.Frag} {H : Hp} {v : V} {d : PyData} {n : Nat} {Q : VK} (s : Shows n d) (hn : n ≤ sizeLine) (h : Dp K H v d) (q : Q (.str d.shown) H) : rRepr K [v] H Q :=
  ⟨v, d, rfl, h, s.can, s.nod, Nat.le_trans s.dep (by decide), Nat.le_trans s.len hn, q⟩
theorem repr_bools {K : PySem.W.Frag} {H : Hp} {t : Addr} {xs : List V} {R : PyData → Prop} (bs : List Bool) (h : H t = some (.lst xs)) (e : xs = bs.map V.bl) (n : bs.length ≤ 100)
    (q : R (PyData.list (bs.map PyData.bool))) :
    ∃ (v : V) (d : PyData), [V.ref t] = [v] ∧ Dp K H v d ∧ d.showable = true ∧ d.hasDict = false ∧ d.depth ≤ 60 ∧ d.shown.length ≤ sizeLine ∧ R d := by
  subst e
  have s := shows_bools bs n
  exact ⟨_, _, rfl, .lst (SqL.of h) (dp_bls bs), s.can, s.nod, Nat.le_trans s.dep (by decide), Nat.le_trans s.len (by decide), q⟩
end Ask

set_option Elab.async false
set_option linter.all false
set_option maxRecDepth 100000
set_option maxHeartbeats 2000000
/-! a class that a local name holds, made; a classmethod called by keywords -/
namespace Ask
open PySem L2
open PyProof.Rows
/-- the i-th slot holds the class at C -/
def tMakeL (i : Nat) (C : Addr) (sp : Sp) (dvs : List V) (E : XK) (t : TA) : TE := fun σ H Q =>
  σ[i]? = some (some (.ref C)) ∧ tMake C sp dvs E t σ H Q
section
variable {X : Cx} {CX : CXT} {k i : Nat} {C f p q g : Addr} {fd : FuncData} {ps ks : List Str} {sp : Sp} {dvs : List V}
  {ds : List Value} {E : XK} {x m : Str} {pos apos : Pos} {ppos : Pos} {e o : Expr} {es : List Expr} {t tk : TA} {ta : TE}
  {kws : List Keyword} {mc : Value} {pl : Sem Bool} {gg : List Value → List Value → List Value} {gV : List V → List V → List V}
theorem pe_makeL (M : Mk X.K C f) (F : FnOk X.prog X.w X.K X.mg X.base CX k f fd ps sp) (hr : Room (k + 1) X.A)
    (hN : X.N[i]? = some x) (hv : Vis X.env.scope x) (hb : Binds X.K fd ps ds) (hd : Vals dvs ds) (hx : Passes CX X E)
    (ha : PA X (e :: es) t) (hdb : (x == ("__debug__" : Str)) = false := by decide)
    (hcd : (x == ("__classdict__" : Str)) = false := by decide)
    (he : starEach (e :: es) X.env = (false, eval e X.env) :: starEach es X.env := by rfl)
    (hpl : (backTo pos (starEach es X.env)).any (·.1) = false := by rfl) :
    PE X (.Call (.Name x ppos) (e :: es) [] pos) (tMakeL i C sp dvs E t) := by
  refine ⟨fun pins s σ H Q I h => ?_⟩
  obtain ⟨hs, ht⟩ := h
  have hv' := (pe_var (pos := ppos) hN hv hdb hcd).run pins s σ H (fun v H1 => v = .ref C ∧ H1 = H) I ⟨.ref C, hs, rfl, rfl⟩
  refine wpAny_Call_Name_kw (thn hv' ?_)
  rintro u s1 ⟨v, H1, I1, r1, rfl, rfl⟩
  cases r1
  refine PySem.W.callWith_K (h₀ := X.base) I.ok.mod.kin M.kp (thn (ha.run pos pins s1 σ _ _ I1 ht) ?_) he hpl
  rintro us s2 ⟨vs, H2, I2, r, q⟩
  exact ⟨I2.kIn, run_make M F hr hb hd hx I2 r q⟩

/-- o.m(k = v, ..), m a classmethod of the class at C, by keywords alone -/
def tCMethK (C : Addr) (n : Nat) (sp : Sp) (gV : List V → List V → List V) (E : XK) (ta : TE) (tk : TA) : TE := fun σ H Q =>
  ta σ H fun x H1 => x = .ref C ∧ tk σ H1 fun zs H2 => zs.length = n ∧ sp (gV [.ref C] zs) H2 Q E
theorem pe_cmethK (he : PE X o ta) (r : ClX.CRead X.K C mc) (c : ClX.CMet X.K C mc m p g)
    (F : FnOk X.prog X.w X.K X.mg X.base CX k g fd ps sp) (hr : Room k X.A) (hb : KBn X.K fd ps 1 ks gg gV)
    (hx : Passes CX X E) (hkw : PK X kws tk)
    (hall : (backToKw pos (keywordEach kws X.env)).all (·.1.isSome) = true := by rfl)
    (hks : (backToKw pos (keywordEach kws X.env)).filterMap (·.1) = ks := by rfl)
    (hpl : ((backTo pos (starEach [] X.env)).any (·.1) || (backToKw pos (keywordEach kws X.env)).any (·.1.isNone)) = false := by rfl)
    (ht : eval (.Call (.Attribute o m apos) [] kws pos) X.env = (do
      let ov ← eval o X.env; standAt apos.atName
      let (f, first) ← holding [ov] (getMethod ov m pl)
      callWith pos f first (backTo pos (starEach [] X.env)) (backToKw pos (keywordEach kws X.env))) := by rfl) :
    PE X (.Call (.Attribute o m apos) [] kws pos) (tCMethK C ks.length sp gV E ta tk) := by
  refine ⟨fun pins s σ H Q I h => ?_⟩
  refine PySem.W.methodCall_KW (pl := pl) (thn (he.run pins s σ H _ I h) ?_) ht
  rintro u s1 ⟨x, H1, I1, rx, ex, q⟩
  subst ex
  obtain rfl : u = Value.ref C := rx
  refine ClX.getmethcm_ok I1 r c fun s2 I2 => ?_
  have hM : PySem.W.MethP X.K s1.heap.objs.size g (.ref C) s2.heap := ⟨ClX.pin_at I2, I2.kIn⟩
  refine PySem.W.callWith_of (P := PySem.W.MethP X.K s1.heap.objs.size g (.ref C)) hpl (PySem.W.keeps_M c.fi) (PyProof.Rows.evalArgs_kw2_nil hall (thn (hkw.run pos _ s2 σ H1 _ I2 q) ?_))
  rintro ws s3 ⟨zs, H2, I3, rz, l2, q2⟩
  refine ⟨⟨ClX.pin_at I3, I3.kIn⟩, ?_⟩
  rw [hks]
  have r2 : Vals (gV [.ref C] zs) (gg [.ref C] ws) := hb.rel (.cons rfl .nil) rz
  have run := F.run X.A X.stack s3 H2 ⟨[.ref C], ks.zip ws⟩ (gg [.ref C] ws) (gV [.ref C] zs) Q E hr I3.env0
    (hb.to s3 [.ref C] ws I3.kIn rfl (rz.length.symm.trans l2)) r2 q2
  refine wpAny_call (PySem.W.method_call (ClX.pin_at I3) (codeAny_mono run ?_))
  intro r s' hq
  have I4 := ClX.unpin I3
  cases r with
  | error e => exact hx pins σ H2 s3 e s' I4 hq
  | ok fl =>
    cases fl with
    | ret u => exact I4.after hq
    | next => exact False.elim hq
    | brk => exact False.elim hq
    | cont => exact False.elim hq
end
end Ask

set_option Elab.async false
set_option linter.all false
set_option maxRecDepth 100000
set_option maxHeartbeats 2000000
/-! the pen beside other objects; data whose text is short -/
namespace Ask
open PySem L2
open PyProof.Rows
theorem Pen.mono {H : Hp} {p : Addr} {n m : Nat} (h : Pen H p n) (e : n ≤ m) : Pen H p m := by
  obtain ⟨l, i, v, ns, h1, h2, h3, h4, h5⟩ := h
  exact ⟨l, i, v, ns, h1, h2, h3, by omega, h5⟩
/-- a new object beside the pen -/
theorem Pen.new {H : Hp} {p q : Addr} {n : Nat} {o : HO} (h : Pen H p n) (e : H q = none) : Pen (upd H q o) p n := by
  obtain ⟨l, i, v, ns, h1, h2, h3⟩ := h
  exact ⟨l, i, v, ns, by rw [upd_ne (ne_of_none h1 e)]; exact h1, by rw [upd_ne (ne_of_none h2 e)]; exact h2, h3⟩
/-- all kept -/
theorem Pen.same {H H' : Hp} {p : Addr} {n : Nat} (h : Pen H p n) (s : Same H H') : Pen H' p n := by
  obtain ⟨l, i, v, ns, h1, h2, h3⟩ := h
  exact ⟨l, i, v, ns, s _ _ h1, s _ _ h2, h3⟩
theorem Pen.ne {H : Hp} {p q : Addr} {n : Nat} {o : HO} (h : Pen H p n) (e : H q = some o) (ho : ∀ l i v, o ≠ .lst [.ref l, .int i, .int v]) : q ≠ p := by
  obtain ⟨l, i, v, ns, h1, _⟩ := h
  exact ne_of e h1 (ho l i v)
theorem Pen.ne0 {H : Hp} {p q : Addr} {n : Nat} (h : Pen H p n) (e : H q = none) : p ≠ q := by
  obtain ⟨l, i, v, ns, h1, _⟩ := h
  exact ne_of_none h1 e
/-- what stands where the pen does not, is where a new object cannot be -/
theorem But.free {H H' : Hp} {p q : Addr} {n : Nat} (h : But p H H') (hp : Pen H' p n) (e : H' q = none) : H q = none := by
  cases z : H q with
  | none => rfl
  | some o =>
    have y := h q o (Ne.symm (hp.ne0 e)) z
    rw [e] at y
    cases y
/-- an item of a written list at a drawn place -/
theorem at_drawn {xs : List V} {z : Int} {n : Int} (h0 : 0 ≤ z) (h1 : z < n) (hn : n = (xs.length : Int)) : ∃ v, atI xs z = some v ∧ v ∈ xs := by
  obtain ⟨j, rfl⟩ := Int.eq_ofNat_of_zero_le h0
  have hj : j < xs.length := by omega
  exact ⟨xs[j], atI_nat (List.getElem?_eq_getElem hj), List.getElem_mem hj⟩
/-- [e, ..][digit]: the list new at q, one draw, the digit's item -/
theorem Pen.pick {K : PySem.W.Frag} {H0 H H' : Hp} {p q : Addr} {n : Nat} {xs : List V} {z b : Int} (hp : Pen H p n) (hq : H q = none) (bb : But p (upd H q (.lst xs)) H')
    (z0 : 0 ≤ z) (z1 : z < b) (hb : b = (xs.length : Int)) (B : But p H0 H) : ∃ v, atI xs z = some v ∧ v ∈ xs ∧ SqL K H' q xs ∧ But p H0 H' := by
  obtain ⟨v, hv, hm⟩ := at_drawn z0 z1 hb
  exact ⟨v, hv, hm, SqL.of (bb q _ (Ne.symm (hp.ne0 hq)) upd_same), B.trans ((But.new hq).trans bb)⟩
theorem Shows.up {n m : Nat} {d : PyData} (s : Shows n d) (h : n ≤ m) : Shows m d := ⟨s.can, s.nod, s.dep, Nat.le_trans s.len h⟩
theorem shows_int {i : Int} (h : i.natAbs < 10 ^ 12) : Shows 13 (.int i) := by
  refine ⟨?_, rfl, ?_, PyData.shown_int_le h⟩
  · unfold PyData.showable
    exact decide_eq_true (Nat.lt_of_lt_of_le (PySem.Flt.log2_lt_of (by decide : 0 < 40) (Nat.lt_of_lt_of_le h (by decide))) (by decide))
  · unfold PyData.depth
    omega
theorem shows_none : Shows 4 .none := by
  refine ⟨rfl, rfl, ?_, by decide +kernel⟩
  unfold PyData.depth
  omega
/-- the data of a flat value -/
def flatD : V → PyData
  | .bl b => .bool b
  | .int i => .int i
  | .str x => .str x
  | _ => .none
def Flat : V → Prop
  | .non => True
  | .bl _ => True
  | .int i => i.natAbs < 10 ^ 12
  | .str x => Shows 20 (.str x)
  | _ => False
theorem Flat.shows : ∀ {v : V}, Flat v → Shows 20 (flatD v)
  | .non, _ => shows_none.up (by decide)
  | .bl b, _ => (shows_bool b).up (by decide)
  | .int i, h => (shows_int h).up (by decide)
  | .str x, h => h
theorem Flat.dep : ∀ {v : V}, Flat v → (flatD v).depth ≤ 18
  | .non, _ => by
    show PyData.depth _ ≤ 18
    unfold flatD PyData.depth
    omega
  | .bl b, _ => by
    unfold flatD PyData.depth
    omega
  | .int i, h => by
    unfold flatD PyData.depth
    omega
  | .str x, h => by
    unfold flatD PyData.depth
    omega
theorem Flat.dp {K : PySem.W.Frag} {H : Hp} : ∀ {v : V}, Flat v → Dp K H v (flatD v)
  | .non, _ => .non
  | .bl b, _ => .bl b
  | .int i, _ => .int i
  | .str x, _ => .str x
theorem dp_flats {K : PySem.W.Frag} {H : Hp} : ∀ {vs : List V}, (∀ v ∈ vs, Flat v) → DpAll K H vs (vs.map flatD)
  | [], _ => .nil
  | v :: vs, h => .cons (h v List.mem_cons_self).dp (dp_flats fun x hx => h x (List.mem_cons_of_mem _ hx))
theorem repr_flats {K : PySem.W.Frag} {H : Hp} {t : Addr} {R : PyData → Prop} {xs : List V} (h : H t = some (.lst xs)) (hf : ∀ v ∈ xs, Flat v) (n : xs.length ≤ 100)
    (q : R (PyData.list (xs.map flatD))) :
    ∃ (v : V) (d : PyData), [V.ref t] = [v] ∧ Dp K H v d ∧ d.showable = true ∧ d.hasDict = false ∧ d.depth ≤ 60 ∧ d.shown.length ≤ sizeLine ∧ R d := by
  have s := shows_list (n := 20) (k := 100) (ds := xs.map flatD) (fun d hd => by
    obtain ⟨v, hv, rfl⟩ := List.mem_map.mp hd
    exact (hf v hv).shows) (fun d hd => by
    obtain ⟨v, hv, rfl⟩ := List.mem_map.mp hd
    exact (hf v hv).dep) (by rw [List.length_map]; exact n)
  exact ⟨_, _, rfl, .lst (SqL.of h) (dp_flats hf), s.can, s.nod, Nat.le_trans s.dep (by decide), Nat.le_trans s.len (by decide), q⟩
/-- a call by keywords of a def without defaults -/
theorem Fun.kb {K : PySem.W.Frag} {x qual : Str} {st : Stmt} {f : Addr} {fd : FuncData} {ps : List Str} (F : L2.Fun K x qual st f fd) (n : Nat) (ks : List Str) (g : {α : Type} → List α → List α → List α)
    (hrel : ∀ {vs zs : List V} {us ws : List Value}, Vals vs us → Vals zs ws → Vals (g vs zs) (g us ws))
    (h : ∀ (kV doc pm : Value) (an : Option Addr) (cdv ct : Value) (us ws : List Value), us.length = n → ws.length = ks.length →
      bindArgs (PySem.W.fnOf x qual (defArgs st) (defBody st) (defScope st) .none kV doc pm an cdv ct) ⟨us, ks.zip ws⟩ = pure (ps.zip (g us ws))) :
    KBn K fd ps n ks (fun us ws => g us ws) (fun vs zs => g vs zs) := by
  obtain ⟨oc, od, kV, doc, pm, an, cdv, ct, osl, rfl, lk, hcd⟩ := F.ex
  exact ⟨fun s us ws X l1 l2 => BindsTo.of_looks fun M => PySem.W.Looks.of_pure (h kV doc pm an cdv ct us ws l1 l2), fun r1 r2 => hrel r1 r2⟩
theorem vals_drop : ∀ (j : Nat) {vs : List V} {us : List Value}, Vals vs us → Vals (vs.drop j) (us.drop j)
  | 0, _, _, h => h
  | _ + 1, _, _, .nil => .nil
  | j + 1, _, _, .cons _ h => vals_drop j h
theorem vals_take : ∀ (j : Nat) {vs : List V} {us : List Value}, Vals vs us → Vals (vs.take j) (us.take j)
  | 0, _, _, _ => .nil
  | _ + 1, _, _, .nil => .nil
  | j + 1, _, _, .cons a h => .cons a (vals_take j h)
end Ask

set_option Elab.async false
set_option linter.all false
set_option maxRecDepth 100000
set_option maxHeartbeats 4000000
namespace Ask
open PySem L2
open PyProof.Rows
def top (i : Nat) : Stmt := PySem.Challenge.pw_askranges_k02_items_made.main.body.getD i (.Pass ⟨0, 0, 0, 0⟩)
abbrev s__wall : Stmt := top 0
theorem sc__wall : FnScope ["k"] ["k"] (defScope s__wall) := ⟨rfl, rfl, rfl, by decide +kernel, rfl, by decide +kernel, by decide +kernel⟩
abbrev s_is_whole : Stmt := top 5
theorem sc_is_whole : FnScope ["thing"] ["thing"] (defScope s_is_whole) := ⟨rfl, rfl, rfl, by decide +kernel, rfl, by decide +kernel, by decide +kernel⟩
abbrev s_Item___init__ : Stmt := inClass (top 8) 1
theorem sc_Item___init__ : FnScope ["self", "name", "least", "greatest", "price"] ["self", "name", "least", "greatest", "price"] (defScope s_Item___init__) := ⟨rfl, rfl, rfl, by decide +kernel, rfl, by decide +kernel, by decide +kernel⟩
abbrev s_Item_exact : Stmt := inClass (top 8) 2
theorem sc_Item_exact : FnScope ["cls", "name", "value"] ["cls", "name", "value"] (defScope s_Item_exact) := ⟨rfl, rfl, rfl, by decide +kernel, rfl, by decide +kernel, by decide +kernel⟩
abbrev s_Item_is_name : Stmt := inClass (top 8) 3
theorem sc_Item_is_name : FnScope ["thing", "sign"] ["thing"] (defScope s_Item_is_name) := ⟨rfl, rfl, rfl, by decide +kernel, rfl, by decide +kernel, by decide +kernel⟩
abbrev s_Item_name : Stmt := inClass (top 8) 4
theorem sc_Item_name : FnScope ["self"] ["self"] (defScope s_Item_name) := ⟨rfl, rfl, rfl, by decide +kernel, rfl, by decide +kernel, by decide +kernel⟩
abbrev s_Item_least : Stmt := inClass (top 8) 5
theorem sc_Item_least : FnScope ["self"] ["self"] (defScope s_Item_least) := ⟨rfl, rfl, rfl, by decide +kernel, rfl, by decide +kernel, by decide +kernel⟩
abbrev s_Item_greatest : Stmt := inClass (top 8) 6
theorem sc_Item_greatest : FnScope ["self"] ["self"] (defScope s_Item_greatest) := ⟨rfl, rfl, rfl, by decide +kernel, rfl, by decide +kernel, by decide +kernel⟩
abbrev s_Item_price : Stmt := inClass (top 8) 7
theorem sc_Item_price : FnScope ["self"] ["self"] (defScope s_Item_price) := ⟨rfl, rfl, rfl, by decide +kernel, rfl, by decide +kernel, by decide +kernel⟩
abbrev s_Item_is_exact : Stmt := inClass (top 8) 8
theorem sc_Item_is_exact : FnScope ["self"] ["self"] (defScope s_Item_is_exact) := ⟨rfl, rfl, rfl, by decide +kernel, rfl, by decide +kernel, by decide +kernel⟩
abbrev s_Item_value : Stmt := inClass (top 8) 9
theorem sc_Item_value : FnScope ["self"] ["self"] (defScope s_Item_value) := ⟨rfl, rfl, rfl, by decide +kernel, rfl, by decide +kernel, by decide +kernel⟩
abbrev s_Item___eq__ : Stmt := inClass (top 8) 13
theorem sc_Item___eq__ : FnScope ["self", "other"] ["self", "other"] (defScope s_Item___eq__) := ⟨rfl, rfl, rfl, by decide +kernel, rfl, by decide +kernel, by decide +kernel⟩
abbrev s__law_pen : Stmt := top 10
theorem sc__law_pen : FnScope ["script"] ["script"] (defScope s__law_pen) := ⟨rfl, rfl, rfl, by decide +kernel, rfl, by decide +kernel, by decide +kernel⟩
abbrev s__law_next : Stmt := top 11
theorem sc__law_next : FnScope ["pen", "index", "cell", "low", "mid", "top"] ["pen"] (defScope s__law_next) := ⟨rfl, rfl, rfl, by decide +kernel, rfl, by decide +kernel, by decide +kernel⟩
abbrev s__law_draw : Stmt := top 12
theorem sc__law_draw : FnScope ["pen", "below", "digit"] ["pen", "below"] (defScope s__law_draw) := ⟨rfl, rfl, rfl, by decide +kernel, rfl, by decide +kernel, by decide +kernel⟩
abbrev s__law_shown : Stmt := top 13
theorem sc__law_shown : FnScope ["item"] ["item"] (defScope s__law_shown) := ⟨rfl, rfl, rfl, by decide +kernel, rfl, by decide +kernel, by decide +kernel⟩
abbrev s_law : Stmt := top 14
theorem sc_law : FnScope ["script", "pen", "turn", "nym", "spot", "size", "cost", "item", "due", "again", "plain", "exact"] ["script"] (defScope s_law) := ⟨rfl, rfl, rfl, by decide +kernel, rfl, by decide +kernel, by decide +kernel⟩
structure Ad where
  f__wall : Addr
  d__wall : FuncData
  f_is_whole : Addr
  d_is_whole : FuncData
  c_Item : Addr
  f_Item___init__ : Addr
  d_Item___init__ : FuncData
  f_Item_exact : Addr
  d_Item_exact : FuncData
  p_Item_exact : Addr
  f_Item_is_name : Addr
  d_Item_is_name : FuncData
  p_Item_is_name : Addr
  f_Item_name : Addr
  d_Item_name : FuncData
  p_Item_name : Addr
  f_Item_least : Addr
  d_Item_least : FuncData
  p_Item_least : Addr
  f_Item_greatest : Addr
  d_Item_greatest : FuncData
  p_Item_greatest : Addr
  f_Item_price : Addr
  d_Item_price : FuncData
  p_Item_price : Addr
  f_Item_is_exact : Addr
  d_Item_is_exact : FuncData
  p_Item_is_exact : Addr
  f_Item_value : Addr
  d_Item_value : FuncData
  p_Item_value : Addr
  f_Item___eq__ : Addr
  d_Item___eq__ : FuncData
  f__law_pen : Addr
  d__law_pen : FuncData
  f__law_next : Addr
  d__law_next : FuncData
  f__law_draw : Addr
  d__law_draw : FuncData
  f__law_shown : Addr
  d__law_shown : FuncData
  f_law : Addr
  d_law : FuncData
structure Txt (K : PySem.W.Frag) (mg : Str → Option Value) (a : Ad) : Prop where
  F__wall : Fun K "_wall" "_wall" s__wall a.f__wall a.d__wall
  g__wall : mg "_wall" = some (.ref a.f__wall)
  F_is_whole : Fun K "is_whole" "is_whole" s_is_whole a.f_is_whole a.d_is_whole
  g_is_whole : mg "is_whole" = some (.ref a.f_is_whole)
  g_Item : mg "Item" = some (.ref a.c_Item)
  cl_Item : Cls K a.c_Item
  rd_Item : ClX.CRead K a.c_Item (.type "type")
  co_Item_MOST : ∃ u, Con K a.c_Item "MOST" (.int 999) u
  cv_Item_MOST : ∃ u, ClX.CVal K a.c_Item (.type "type") "MOST" (.int 999) u
  mk_Item : Mk K a.c_Item a.f_Item___init__
  F_Item___init__ : FunD K "__init__" "Item.__init__" (defArgs s_Item___init__) (defBody s_Item___init__) (defScope s_Item___init__) [] [("price", V.int 1)] a.f_Item___init__ a.d_Item___init__
  F_Item_exact : Fun K "exact" "Item.exact" s_Item_exact a.f_Item_exact a.d_Item_exact
  m_Item_exact : ClX.CMet K a.c_Item (.type "type") "exact" a.p_Item_exact a.f_Item_exact
  i_Item_exact : ClX.CInst K a.c_Item "exact" a.p_Item_exact a.f_Item_exact
  F_Item_is_name : Fun K "is_name" "Item.is_name" s_Item_is_name a.f_Item_is_name a.d_Item_is_name
  m_Item_is_name : SMet K a.c_Item (.type "type") "is_name" a.p_Item_is_name a.f_Item_is_name
  F_Item_name : Fun K "name" "Item.name" s_Item_name a.f_Item_name a.d_Item_name
  m_Item_name : PropOf K a.c_Item "name" a.p_Item_name a.f_Item_name
  F_Item_least : Fun K "least" "Item.least" s_Item_least a.f_Item_least a.d_Item_least
  m_Item_least : PropOf K a.c_Item "least" a.p_Item_least a.f_Item_least
  F_Item_greatest : Fun K "greatest" "Item.greatest" s_Item_greatest a.f_Item_greatest a.d_Item_greatest
  m_Item_greatest : PropOf K a.c_Item "greatest" a.p_Item_greatest a.f_Item_greatest
  F_Item_price : Fun K "price" "Item.price" s_Item_price a.f_Item_price a.d_Item_price
  m_Item_price : PropOf K a.c_Item "price" a.p_Item_price a.f_Item_price
  F_Item_is_exact : Fun K "is_exact" "Item.is_exact" s_Item_is_exact a.f_Item_is_exact a.d_Item_is_exact
  m_Item_is_exact : PropOf K a.c_Item "is_exact" a.p_Item_is_exact a.f_Item_is_exact
  F_Item_value : Fun K "value" "Item.value" s_Item_value a.f_Item_value a.d_Item_value
  m_Item_value : PropOf K a.c_Item "value" a.p_Item_value a.f_Item_value
  F_Item___eq__ : Fun K "__eq__" "Item.__eq__" s_Item___eq__ a.f_Item___eq__ a.d_Item___eq__
  m_Item___eq__ : Meth K a.c_Item "__eq__" a.f_Item___eq__
  eq_Item : EqCls K a.c_Item a.f_Item___eq__
  n_Item__name : NoAttr K a.c_Item "_name"
  n_Item__least : NoAttr K a.c_Item "_least"
  n_Item__greatest : NoAttr K a.c_Item "_greatest"
  n_Item__price : NoAttr K a.c_Item "_price"
  ty_Item : InsTy K a.c_Item
  kd_Item : ∀ t ∈ kinds, PySem.W.notFirst K a.c_Item (.type t) = true
  F__law_pen : Fun K "_law_pen" "_law_pen" s__law_pen a.f__law_pen a.d__law_pen
  g__law_pen : mg "_law_pen" = some (.ref a.f__law_pen)
  F__law_next : Fun K "_law_next" "_law_next" s__law_next a.f__law_next a.d__law_next
  g__law_next : mg "_law_next" = some (.ref a.f__law_next)
  F__law_draw : Fun K "_law_draw" "_law_draw" s__law_draw a.f__law_draw a.d__law_draw
  g__law_draw : mg "_law_draw" = some (.ref a.f__law_draw)
  F__law_shown : Fun K "_law_shown" "_law_shown" s__law_shown a.f__law_shown a.d__law_shown
  g__law_shown : mg "_law_shown" = some (.ref a.f__law_shown)
  F_law : Fun K "law" "law" s_law a.f_law a.d_law
  g_law : mg "law" = some (.ref a.f_law)
  g_LONGEST_NAME : ∃ u, mg "LONGEST_NAME" = some u ∧ RelV (.int 8) u
  b_len : mg "len" = none
  b_list : mg "list" = none
  b_isinstance : mg "isinstance" = none
  b_str : mg "str" = none
  b_int : mg "int" = none
  b_bool : mg "bool" = none
  b_range : mg "range" = none
  b_repr : mg "repr" = none
  b_all : mg "all" = none
theorem Txt.b__wall {K : PySem.W.Frag} {mg : Str → Option Value} {a : Ad} (T : Txt K mg a) : Binds K a.d__wall ["k"] [] := T.F__wall.binds fun _ _ _ _ _ _ us hl => match us, hl with | [_], _ => rfl
theorem Txt.b_is_whole {K : PySem.W.Frag} {mg : Str → Option Value} {a : Ad} (T : Txt K mg a) : Binds K a.d_is_whole ["thing"] [] := T.F_is_whole.binds fun _ _ _ _ _ _ us hl => match us, hl with | [_], _ => rfl
theorem Txt.b_Item_exact {K : PySem.W.Frag} {mg : Str → Option Value} {a : Ad} (T : Txt K mg a) : Binds K a.d_Item_exact ["cls", "name", "value"] [] := T.F_Item_exact.binds fun _ _ _ _ _ _ us hl => match us, hl with | [_, _, _], _ => rfl
theorem Txt.b_Item_is_name {K : PySem.W.Frag} {mg : Str → Option Value} {a : Ad} (T : Txt K mg a) : Binds K a.d_Item_is_name ["thing"] [] := T.F_Item_is_name.binds fun _ _ _ _ _ _ us hl => match us, hl with | [_], _ => rfl
theorem Txt.b_Item_name {K : PySem.W.Frag} {mg : Str → Option Value} {a : Ad} (T : Txt K mg a) : Binds K a.d_Item_name ["self"] [] := T.F_Item_name.binds fun _ _ _ _ _ _ us hl => match us, hl with | [_], _ => rfl
theorem Txt.b_Item_least {K : PySem.W.Frag} {mg : Str → Option Value} {a : Ad} (T : Txt K mg a) : Binds K a.d_Item_least ["self"] [] := T.F_Item_least.binds fun _ _ _ _ _ _ us hl => match us, hl with | [_], _ => rfl
theorem Txt.b_Item_greatest {K : PySem.W.Frag} {mg : Str → Option Value} {a : Ad} (T : Txt K mg a) : Binds K a.d_Item_greatest ["self"] [] := T.F_Item_greatest.binds fun _ _ _ _ _ _ us hl => match us, hl with | [_], _ => rfl
theorem Txt.b_Item_price {K : PySem.W.Frag} {mg : Str → Option Value} {a : Ad} (T : Txt K mg a) : Binds K a.d_Item_price ["self"] [] := T.F_Item_price.binds fun _ _ _ _ _ _ us hl => match us, hl with | [_], _ => rfl
theorem Txt.b_Item_is_exact {K : PySem.W.Frag} {mg : Str → Option Value} {a : Ad} (T : Txt K mg a) : Binds K a.d_Item_is_exact ["self"] [] := T.F_Item_is_exact.binds fun _ _ _ _ _ _ us hl => match us, hl with | [_], _ => rfl
theorem Txt.b_Item_value {K : PySem.W.Frag} {mg : Str → Option Value} {a : Ad} (T : Txt K mg a) : Binds K a.d_Item_value ["self"] [] := T.F_Item_value.binds fun _ _ _ _ _ _ us hl => match us, hl with | [_], _ => rfl
theorem Txt.b_Item___eq__ {K : PySem.W.Frag} {mg : Str → Option Value} {a : Ad} (T : Txt K mg a) : Binds K a.d_Item___eq__ ["self", "other"] [] := T.F_Item___eq__.binds fun _ _ _ _ _ _ us hl => match us, hl with | [_, _], _ => rfl
theorem Txt.b__law_pen {K : PySem.W.Frag} {mg : Str → Option Value} {a : Ad} (T : Txt K mg a) : Binds K a.d__law_pen ["script"] [] := T.F__law_pen.binds fun _ _ _ _ _ _ us hl => match us, hl with | [_], _ => rfl
theorem Txt.b__law_next {K : PySem.W.Frag} {mg : Str → Option Value} {a : Ad} (T : Txt K mg a) : Binds K a.d__law_next ["pen"] [] := T.F__law_next.binds fun _ _ _ _ _ _ us hl => match us, hl with | [_], _ => rfl
theorem Txt.b__law_draw {K : PySem.W.Frag} {mg : Str → Option Value} {a : Ad} (T : Txt K mg a) : Binds K a.d__law_draw ["pen", "below"] [] := T.F__law_draw.binds fun _ _ _ _ _ _ us hl => match us, hl with | [_, _], _ => rfl
theorem Txt.b__law_shown {K : PySem.W.Frag} {mg : Str → Option Value} {a : Ad} (T : Txt K mg a) : Binds K a.d__law_shown ["item"] [] := T.F__law_shown.binds fun _ _ _ _ _ _ us hl => match us, hl with | [_], _ => rfl
theorem Txt.b_law {K : PySem.W.Frag} {mg : Str → Option Value} {a : Ad} (T : Txt K mg a) : Binds K a.d_law ["script"] [] := T.F_law.binds fun _ _ _ _ _ _ us hl => match us, hl with | [_], _ => rfl
theorem txt_get {K : PySem.W.Frag} {h : Heap} {mg : Str → Option Value} (X : K.In h) (G : h.Ns mainGlobals mg)
    {f1 : Addr} {oc2 : Value} {dc3 : Value} {pm4 : Value} {cd5 : Value} {ct6 : Value} {kV7 : Value} {od8 : Option Addr}
    {an9 : Option Addr} {sl10 : Array (Option Value)} {f15 : Addr} {oc16 : Value} {dc17 : Value} {pm18 : Value} {cd19 : Value} {ct20 : Value}
    {kV21 : Value} {od22 : Option Addr} {an23 : Option Addr} {sl24 : Array (Option Value)} {C29 : Addr} {t37 : Tok} {D41 : Addr} {f42 : Addr}
    {oc43 : Value} {dc44 : Value} {pm45 : Value} {cd46 : Value} {ct47 : Value} {od48 : Option Addr} {an49 : Option Addr} {sl50 : Array (Option Value)}
    {t58 : Tok} {f60 : Addr} {oc61 : Value} {dc62 : Value} {pm63 : Value} {cd64 : Value} {ct65 : Value} {kV66 : Value}
    {od67 : Option Addr} {an68 : Option Addr} {sl69 : Array (Option Value)} {p70 : Addr} {r71 : List Value} {f84 : Addr} {oc85 : Value} {dc86 : Value}
    {pm87 : Value} {cd88 : Value} {ct89 : Value} {kV90 : Value} {od91 : Option Addr} {an92 : Option Addr} {sl93 : Array (Option Value)} {p94 : Addr}
    {r95 : List Value} {f101 : Addr} {oc102 : Value} {dc103 : Value} {pm104 : Value} {cd105 : Value} {ct106 : Value} {kV107 : Value}
    {od108 : Option Addr} {an109 : Option Addr} {sl110 : Array (Option Value)} {p111 : Addr} {r112 : List Value} {f120 : Addr} {oc121 : Value} {dc122 : Value}
    {pm123 : Value} {cd124 : Value} {ct125 : Value} {kV126 : Value} {od127 : Option Addr} {an128 : Option Addr} {sl129 : Array (Option Value)} {p130 : Addr}
    {r131 : List Value} {f139 : Addr} {oc140 : Value} {dc141 : Value} {pm142 : Value} {cd143 : Value} {ct144 : Value} {kV145 : Value}
    {od146 : Option Addr} {an147 : Option Addr} {sl148 : Array (Option Value)} {p149 : Addr} {r150 : List Value} {f158 : Addr} {oc159 : Value} {dc160 : Value}
    {pm161 : Value} {cd162 : Value} {ct163 : Value} {kV164 : Value} {od165 : Option Addr} {an166 : Option Addr} {sl167 : Array (Option Value)} {p168 : Addr}
    {r169 : List Value} {f177 : Addr} {oc178 : Value} {dc179 : Value} {pm180 : Value} {cd181 : Value} {ct182 : Value} {kV183 : Value}
    {od184 : Option Addr} {an185 : Option Addr} {sl186 : Array (Option Value)} {p187 : Addr} {r188 : List Value} {f196 : Addr} {oc197 : Value} {dc198 : Value}
    {pm199 : Value} {cd200 : Value} {ct201 : Value} {kV202 : Value} {od203 : Option Addr} {an204 : Option Addr} {sl205 : Array (Option Value)} {p206 : Addr}
    {r207 : List Value} {f215 : Addr} {oc216 : Value} {dc217 : Value} {pm218 : Value} {cd219 : Value} {ct220 : Value} {kV221 : Value}
    {od222 : Option Addr} {an223 : Option Addr} {sl224 : Array (Option Value)} {N230 : Addr} {e231 : Str} {e232 : Str} {e233 : List Value} {e234 : Bool}
    {e235 : List Str} {e236 : List Value} {e237 : Bool} {e238 : Option Bool} {e239 : Option Addr} {e240 : Option Value} {e241 : Option Value} {e242 : Option Value}
    {e243 : Option Value} {e244 : Option Value} {e245 : String} {f260 : Addr} {oc261 : Value} {dc262 : Value} {pm263 : Value} {cd264 : Value}
    {ct265 : Value} {kV266 : Value} {od267 : Option Addr} {an268 : Option Addr} {sl269 : Array (Option Value)} {f274 : Addr} {oc275 : Value} {dc276 : Value}
    {pm277 : Value} {cd278 : Value} {ct279 : Value} {kV280 : Value} {od281 : Option Addr} {an282 : Option Addr} {sl283 : Array (Option Value)} {f288 : Addr}
    {oc289 : Value} {dc290 : Value} {pm291 : Value} {cd292 : Value} {ct293 : Value} {kV294 : Value} {od295 : Option Addr} {an296 : Option Addr}
    {sl297 : Array (Option Value)} {f302 : Addr} {oc303 : Value} {dc304 : Value} {pm305 : Value} {cd306 : Value} {ct307 : Value} {kV308 : Value}
    {od309 : Option Addr} {an310 : Option Addr} {sl311 : Array (Option Value)} {f316 : Addr} {oc317 : Value} {dc318 : Value} {pm319 : Value} {cd320 : Value}
    {ct321 : Value} {kV322 : Value} {od323 : Option Addr} {an324 : Option Addr} {sl325 : Array (Option Value)} {t330 : Tok}
    (a11 : PySem.W.nsIn K mainGlobals "_wall" = some (some (.ref f1)))
    (l12 : K.lookup f1 = some ⟨oc2, od8, .func (PySem.W.fnOf "_wall" "_wall" (defArgs s__wall) (defBody s__wall) (defScope s__wall) .none kV7 dc3 pm4 an9 cd5 ct6), sl10⟩)
    (c13 : PySem.W.codeIn K cd5 "_wall" = true)
    (k14 : PySem.W.keepIn K (.ref f1) = true)
    (a25 : PySem.W.nsIn K mainGlobals "is_whole" = some (some (.ref f15)))
    (l26 : K.lookup f15 = some ⟨oc16, od22, .func (PySem.W.fnOf "is_whole" "is_whole" (defArgs s_is_whole) (defBody s_is_whole) (defScope s_is_whole) .none kV21 dc17 pm18 an23 cd19 ct20), sl24⟩)
    (c27 : PySem.W.codeIn K cd19 "is_whole" = true)
    (k28 : PySem.W.keepIn K (.ref f15) = true)
    (a30 : PySem.W.nsIn K mainGlobals "Item" = some (some (.ref C29)))
    (pg31 : PySem.W.plainGet K C29 Str.empty = true)
    (hd32 : PySem.W.hasDictIn K C29 = true)
    (po33 : PySem.W.plainOver K C29 = true)
    (sa34 : PySem.W.findIn K (.ref C29) "__setattr__" = some (some (.builtin "object.__setattr__")))
    (rd35 : PySem.W.readsIn K C29 (.type "type") = true)
    (ga36 : PySem.W.specialIn K (.ref C29) "__getattribute__" = some (some (.builtin "type.__getattribute__")))
    (fa38 : PySem.W.findIn K (.ref C29) "MOST" = some (some (.int 999 t37)))
    (gt39 : PySem.W.specialIn K (.int 999 t37) "__get__" = some none)
    (cv40 : PySem.W.findCls K (.ref C29) (.type "type") "MOST" = some (.val (.int 999 t37)))
    (a51 : PySem.W.findIn K (.ref C29) "__init__" = some (some (.ref f42)))
    (i52 : PySem.W.isFn K (.ref f42) = true)
    (mk53 : PySem.W.makesIn K C29 = true)
    (kc54 : PySem.W.keepIn K (.ref C29) = true)
    (l55 : K.lookup f42 = some ⟨oc43, od48, .func (PySem.W.fnOf "__init__" "Item.__init__" (defArgs s_Item___init__) (defBody s_Item___init__) (defScope s_Item___init__) .none (.ref D41) dc44 pm45 an49 cd46 ct47), sl50⟩)
    (c56 : PySem.W.codeIn K cd46 "Item.__init__" = true)
    (k57 : PySem.W.keepIn K (.ref f42) = true)
    (q59 : PySem.W.nsIn K D41 "price" = some (some (.int 1 t58)))
    (a72 : PySem.W.findCls K (.ref C29) (.type "type") "exact" = some (.get (.builtin "classmethod.__get__") (.ref p70) .none (.ref C29)))
    (rc73 : PySem.W.recIn K p70 "classmethod" = some (.ref f60 :: r71))
    (l74 : K.lookup f60 = some ⟨oc61, od67, .func (PySem.W.fnOf "exact" "Item.exact" (defArgs s_Item_exact) (defBody s_Item_exact) (defScope s_Item_exact) .none kV66 dc62 pm63 an68 cd64 ct65), sl69⟩)
    (c75 : PySem.W.codeIn K cd64 "Item.exact" = true)
    (k76 : PySem.W.keepIn K (.ref f60) = true)
    (fi77 : PySem.W.fnIn K f60 = true)
    (pg78 : PySem.W.plainGet K C29 Str.empty = true)
    (ic79 : PySem.W.isClsIn K C29 = true)
    (a80 : PySem.W.findIn K (.ref C29) "exact" = some (some (.ref p70)))
    (ty81 : PySem.W.typeIn K (.ref p70) = some (.type "classmethod"))
    (gt82 : PySem.W.specialIn K (.ref p70) "__get__" = some (some (.builtin "classmethod.__get__")))
    (tk83 : PySem.W.takesIn K (.ref p70) = some false)
    (a96 : PySem.W.findCls K (.ref C29) (.type "type") "is_name" = some (.get (.builtin "staticmethod.__get__") (.ref p94) .none (.ref C29)))
    (rc97 : PySem.W.recIn K p94 "staticmethod" = some (.ref f84 :: r95))
    (l98 : K.lookup f84 = some ⟨oc85, od91, .func (PySem.W.fnOf "is_name" "Item.is_name" (defArgs s_Item_is_name) (defBody s_Item_is_name) (defScope s_Item_is_name) .none kV90 dc86 pm87 an92 cd88 ct89), sl93⟩)
    (c99 : PySem.W.codeIn K cd88 "Item.is_name" = true)
    (k100 : PySem.W.keepIn K (.ref f84) = true)
    (a113 : PySem.W.findIn K (.ref C29) "name" = some (some (.ref p111)))
    (gt114 : PySem.W.specialIn K (.ref p111) "__get__" = some (some (.builtin "property.__get__")))
    (tk115 : PySem.W.takesIn K (.ref p111) = some true)
    (rc116 : PySem.W.recIn K p111 "property" = some (.ref f101 :: r112))
    (l117 : K.lookup f101 = some ⟨oc102, od108, .func (PySem.W.fnOf "name" "Item.name" (defArgs s_Item_name) (defBody s_Item_name) (defScope s_Item_name) .none kV107 dc103 pm104 an109 cd105 ct106), sl110⟩)
    (c118 : PySem.W.codeIn K cd105 "Item.name" = true)
    (k119 : PySem.W.keepIn K (.ref f101) = true)
    (a132 : PySem.W.findIn K (.ref C29) "least" = some (some (.ref p130)))
    (gt133 : PySem.W.specialIn K (.ref p130) "__get__" = some (some (.builtin "property.__get__")))
    (tk134 : PySem.W.takesIn K (.ref p130) = some true)
    (rc135 : PySem.W.recIn K p130 "property" = some (.ref f120 :: r131))
    (l136 : K.lookup f120 = some ⟨oc121, od127, .func (PySem.W.fnOf "least" "Item.least" (defArgs s_Item_least) (defBody s_Item_least) (defScope s_Item_least) .none kV126 dc122 pm123 an128 cd124 ct125), sl129⟩)
    (c137 : PySem.W.codeIn K cd124 "Item.least" = true)
    (k138 : PySem.W.keepIn K (.ref f120) = true)
    (a151 : PySem.W.findIn K (.ref C29) "greatest" = some (some (.ref p149)))
    (gt152 : PySem.W.specialIn K (.ref p149) "__get__" = some (some (.builtin "property.__get__")))
    (tk153 : PySem.W.takesIn K (.ref p149) = some true)
    (rc154 : PySem.W.recIn K p149 "property" = some (.ref f139 :: r150))
    (l155 : K.lookup f139 = some ⟨oc140, od146, .func (PySem.W.fnOf "greatest" "Item.greatest" (defArgs s_Item_greatest) (defBody s_Item_greatest) (defScope s_Item_greatest) .none kV145 dc141 pm142 an147 cd143 ct144), sl148⟩)
    (c156 : PySem.W.codeIn K cd143 "Item.greatest" = true)
    (k157 : PySem.W.keepIn K (.ref f139) = true)
    (a170 : PySem.W.findIn K (.ref C29) "price" = some (some (.ref p168)))
    (gt171 : PySem.W.specialIn K (.ref p168) "__get__" = some (some (.builtin "property.__get__")))
    (tk172 : PySem.W.takesIn K (.ref p168) = some true)
    (rc173 : PySem.W.recIn K p168 "property" = some (.ref f158 :: r169))
    (l174 : K.lookup f158 = some ⟨oc159, od165, .func (PySem.W.fnOf "price" "Item.price" (defArgs s_Item_price) (defBody s_Item_price) (defScope s_Item_price) .none kV164 dc160 pm161 an166 cd162 ct163), sl167⟩)
    (c175 : PySem.W.codeIn K cd162 "Item.price" = true)
    (k176 : PySem.W.keepIn K (.ref f158) = true)
    (a189 : PySem.W.findIn K (.ref C29) "is_exact" = some (some (.ref p187)))
    (gt190 : PySem.W.specialIn K (.ref p187) "__get__" = some (some (.builtin "property.__get__")))
    (tk191 : PySem.W.takesIn K (.ref p187) = some true)
    (rc192 : PySem.W.recIn K p187 "property" = some (.ref f177 :: r188))
    (l193 : K.lookup f177 = some ⟨oc178, od184, .func (PySem.W.fnOf "is_exact" "Item.is_exact" (defArgs s_Item_is_exact) (defBody s_Item_is_exact) (defScope s_Item_is_exact) .none kV183 dc179 pm180 an185 cd181 ct182), sl186⟩)
    (c194 : PySem.W.codeIn K cd181 "Item.is_exact" = true)
    (k195 : PySem.W.keepIn K (.ref f177) = true)
    (a208 : PySem.W.findIn K (.ref C29) "value" = some (some (.ref p206)))
    (gt209 : PySem.W.specialIn K (.ref p206) "__get__" = some (some (.builtin "property.__get__")))
    (tk210 : PySem.W.takesIn K (.ref p206) = some true)
    (rc211 : PySem.W.recIn K p206 "property" = some (.ref f196 :: r207))
    (l212 : K.lookup f196 = some ⟨oc197, od203, .func (PySem.W.fnOf "value" "Item.value" (defArgs s_Item_value) (defBody s_Item_value) (defScope s_Item_value) .none kV202 dc198 pm199 an204 cd200 ct201), sl205⟩)
    (c213 : PySem.W.codeIn K cd200 "Item.value" = true)
    (k214 : PySem.W.keepIn K (.ref f196) = true)
    (a225 : PySem.W.findIn K (.ref C29) "__eq__" = some (some (.ref f215)))
    (i226 : PySem.W.isFn K (.ref f215) = true)
    (l227 : K.lookup f215 = some ⟨oc216, od222, .func (PySem.W.fnOf "__eq__" "Item.__eq__" (defArgs s_Item___eq__) (defBody s_Item___eq__) (defScope s_Item___eq__) .none kV221 dc217 pm218 an223 cd219 ct220), sl224⟩)
    (c228 : PySem.W.codeIn K cd219 "Item.__eq__" = true)
    (k229 : PySem.W.keepIn K (.ref f215) = true)
    (lc246 : K.lookup C29 = some (excClassObj e231 e232 C29 N230 e233 [.type "object"] e234 e235 e236 e237 e238 e239 e240 e241 e242 e243 e244 e245))
    (no247 : PySem.W.nsOkIn K N230 = true)
    (ee248 : PySem.W.nsIn K N230 "__eq__" = some (some (.ref f215)))
    (en249 : PySem.W.nsIn K N230 "__ne__" = some none)
    (na250 : PySem.W.findIn K (.ref C29) "_name" = some none)
    (na251 : PySem.W.findIn K (.ref C29) "_least" = some none)
    (na252 : PySem.W.findIn K (.ref C29) "_greatest" = some none)
    (na253 : PySem.W.findIn K (.ref C29) "_price" = some none)
    (ha254 : PySem.W.findIn K (.ref C29) "__class__" = some (some (.builtin "object.__class__")))
    (hn255 : PySem.W.specialIn K (.builtin "object.__class__") "__get__" = some (some (.builtin "getset_descriptor.__get__")))
    (ht256 : PySem.W.takesIn K (.builtin "object.__class__") = some true)
    (hm257 : PySem.W.mroIn K C29 (.type "object") = some true)
    (kt258 : ∀ t ∈ kinds, PySem.W.kitOne K (.type t) (.ref C29) = some false)
    (kd259 : ∀ t ∈ kinds, PySem.W.notFirst K C29 (.type t) = true)
    (a270 : PySem.W.nsIn K mainGlobals "_law_pen" = some (some (.ref f260)))
    (l271 : K.lookup f260 = some ⟨oc261, od267, .func (PySem.W.fnOf "_law_pen" "_law_pen" (defArgs s__law_pen) (defBody s__law_pen) (defScope s__law_pen) .none kV266 dc262 pm263 an268 cd264 ct265), sl269⟩)
    (c272 : PySem.W.codeIn K cd264 "_law_pen" = true)
    (k273 : PySem.W.keepIn K (.ref f260) = true)
    (a284 : PySem.W.nsIn K mainGlobals "_law_next" = some (some (.ref f274)))
    (l285 : K.lookup f274 = some ⟨oc275, od281, .func (PySem.W.fnOf "_law_next" "_law_next" (defArgs s__law_next) (defBody s__law_next) (defScope s__law_next) .none kV280 dc276 pm277 an282 cd278 ct279), sl283⟩)
    (c286 : PySem.W.codeIn K cd278 "_law_next" = true)
    (k287 : PySem.W.keepIn K (.ref f274) = true)
    (a298 : PySem.W.nsIn K mainGlobals "_law_draw" = some (some (.ref f288)))
    (l299 : K.lookup f288 = some ⟨oc289, od295, .func (PySem.W.fnOf "_law_draw" "_law_draw" (defArgs s__law_draw) (defBody s__law_draw) (defScope s__law_draw) .none kV294 dc290 pm291 an296 cd292 ct293), sl297⟩)
    (c300 : PySem.W.codeIn K cd292 "_law_draw" = true)
    (k301 : PySem.W.keepIn K (.ref f288) = true)
    (a312 : PySem.W.nsIn K mainGlobals "_law_shown" = some (some (.ref f302)))
    (l313 : K.lookup f302 = some ⟨oc303, od309, .func (PySem.W.fnOf "_law_shown" "_law_shown" (defArgs s__law_shown) (defBody s__law_shown) (defScope s__law_shown) .none kV308 dc304 pm305 an310 cd306 ct307), sl311⟩)
    (c314 : PySem.W.codeIn K cd306 "_law_shown" = true)
    (k315 : PySem.W.keepIn K (.ref f302) = true)
    (a326 : PySem.W.nsIn K mainGlobals "law" = some (some (.ref f316)))
    (l327 : K.lookup f316 = some ⟨oc317, od323, .func (PySem.W.fnOf "law" "law" (defArgs s_law) (defBody s_law) (defScope s_law) .none kV322 dc318 pm319 an324 cd320 ct321), sl325⟩)
    (c328 : PySem.W.codeIn K cd320 "law" = true)
    (k329 : PySem.W.keepIn K (.ref f316) = true)
    (a331 : PySem.W.nsIn K mainGlobals "LONGEST_NAME" = some (some (.int 8 t330)))
    (z332 : PySem.W.nsIn K mainGlobals "len" = some none)
    (z333 : PySem.W.nsIn K mainGlobals "list" = some none)
    (z334 : PySem.W.nsIn K mainGlobals "isinstance" = some none)
    (z335 : PySem.W.nsIn K mainGlobals "str" = some none)
    (z336 : PySem.W.nsIn K mainGlobals "int" = some none)
    (z337 : PySem.W.nsIn K mainGlobals "bool" = some none)
    (z338 : PySem.W.nsIn K mainGlobals "range" = some none)
    (z339 : PySem.W.nsIn K mainGlobals "repr" = some none)
    (z340 : PySem.W.nsIn K mainGlobals "all" = some none)
    : ∃ a : Ad, Txt K mg a := ⟨{ f__wall := f1, d__wall := _, f_is_whole := f15, d_is_whole := _, c_Item := C29, f_Item___init__ := f42, d_Item___init__ := _, f_Item_exact := f60, d_Item_exact := _, p_Item_exact := p70, f_Item_is_name := f84, d_Item_is_name := _, p_Item_is_name := p94, f_Item_name := f101, d_Item_name := _, p_Item_name := p111, f_Item_least := f120, d_Item_least := _, p_Item_least := p130, f_Item_greatest := f139, d_Item_greatest := _, p_Item_greatest := p149, f_Item_price := f158, d_Item_price := _, p_Item_price := p168, f_Item_is_exact := f177, d_Item_is_exact := _, p_Item_is_exact := p187, f_Item_value := f196, d_Item_value := _, p_Item_value := p206, f_Item___eq__ := f215, d_Item___eq__ := _, f__law_pen := f260, d__law_pen := _, f__law_next := f274, d__law_next := _, f__law_draw := f288, d__law_draw := _, f__law_shown := f302, d__law_shown := _, f_law := f316, d_law := _ },
  { F__wall := fun_mk l12 c13 k14
    g__wall := PySem.W.mg_of X G a11
    F_is_whole := fun_mk l26 c27 k28
    g_is_whole := PySem.W.mg_of X G a25
    g_Item := PySem.W.mg_of X G a30
    cl_Item := ⟨pg31, hd32, po33, sa34⟩
    rd_Item := ⟨rd35, ga36⟩
    co_Item_MOST := ⟨_, fa38, ⟨_, rfl⟩, gt39, by decide⟩
    cv_Item_MOST := ⟨_, cv40, ⟨_, rfl⟩⟩
    mk_Item := ⟨mk53, a51, i52, kc54⟩
    F_Item___init__ := ⟨⟨_, _, .none, _, _, _, _, _, _, _, rfl, l55, c56, .inl ⟨rfl, rfl⟩, .inr ⟨_, rfl, fun z hz => by obtain rfl := List.mem_singleton.mp hz; exact ⟨_, q59, _, rfl⟩⟩⟩, k57⟩
    F_Item_exact := fun_mk l74 c75 k76
    m_Item_exact := ⟨a72, ⟨_, rc73⟩, fi77⟩
    i_Item_exact := ⟨pg78, ic79, a80, ty81, gt82, tk83, by decide, ⟨_, rc73⟩, fi77⟩
    F_Item_is_name := fun_mk l98 c99 k100
    m_Item_is_name := ⟨a96, ⟨_, rc97⟩, k100⟩
    F_Item_name := fun_mk l117 c118 k119
    m_Item_name := ⟨a113, gt114, tk115, _, rc116⟩
    F_Item_least := fun_mk l136 c137 k138
    m_Item_least := ⟨a132, gt133, tk134, _, rc135⟩
    F_Item_greatest := fun_mk l155 c156 k157
    m_Item_greatest := ⟨a151, gt152, tk153, _, rc154⟩
    F_Item_price := fun_mk l174 c175 k176
    m_Item_price := ⟨a170, gt171, tk172, _, rc173⟩
    F_Item_is_exact := fun_mk l193 c194 k195
    m_Item_is_exact := ⟨a189, gt190, tk191, _, rc192⟩
    F_Item_value := fun_mk l212 c213 k214
    m_Item_value := ⟨a208, gt209, tk210, _, rc211⟩
    F_Item___eq__ := fun_mk l227 c228 k229
    m_Item___eq__ := ⟨a225, i226, k229⟩
    eq_Item := ⟨⟨_, _, _, _, _, _, _, _, _, _, _, _, _, _, _, _, lc246, no247, ee248, en249⟩, a225, i226⟩
    n_Item__name := na250
    n_Item__least := na251
    n_Item__greatest := na252
    n_Item__price := na253
    ty_Item := ⟨ha254, hn255, ht256, hm257, kt258⟩
    kd_Item := kd259
    F__law_pen := fun_mk l271 c272 k273
    g__law_pen := PySem.W.mg_of X G a270
    F__law_next := fun_mk l285 c286 k287
    g__law_next := PySem.W.mg_of X G a284
    F__law_draw := fun_mk l299 c300 k301
    g__law_draw := PySem.W.mg_of X G a298
    F__law_shown := fun_mk l313 c314 k315
    g__law_shown := PySem.W.mg_of X G a312
    F_law := fun_mk l327 c328 k329
    g_law := PySem.W.mg_of X G a326
    g_LONGEST_NAME := ⟨_, PySem.W.mg_of X G a331, _, rfl⟩
    b_len := PySem.W.mg_none_of X G z332
    b_list := PySem.W.mg_none_of X G z333
    b_isinstance := PySem.W.mg_none_of X G z334
    b_str := PySem.W.mg_none_of X G z335
    b_int := PySem.W.mg_none_of X G z336
    b_bool := PySem.W.mg_none_of X G z337
    b_range := PySem.W.mg_none_of X G z338
    b_repr := PySem.W.mg_none_of X G z339
    b_all := PySem.W.mg_none_of X G z340 }⟩
end Ask

set_option Elab.async false
set_option linter.all false
set_option maxRecDepth 100000
set_option maxHeartbeats 4000000
namespace Ask
open PySem L2
open PyProof.Rows
local macro_rules | `(tactic| walk_at "h") => `(tactic| first
  | assumption | exact upd_same
  | (refine Eq.trans (upd_ne (by first | assumption | exact Ne.symm (by assumption) | exact ne_of_none (by walk_at "h") (by assumption))) ?_; walk_at "h"))
local macro_rules | `(tactic| walk_at "rd") => `(tactic| repeat (first
  | (refine ⟨_, rfl, ?_⟩) | (refine ⟨_, _, rfl, rfl, ?_⟩)
  | (apply rd_ixL 0; walk_at "h"; exact rfl)
  | (apply rd_ixL 1; walk_at "h"; exact rfl)
  | (apply rd_ixL 2; walk_at "h"; exact rfl)
  | (refine ⟨by show (0 : Int) < _; decide, ?_⟩)
  | (refine ⟨.inr ⟨by decide, by decide⟩, ?_⟩)
  | (refine iteT ?_) | (refine iteF ?_)))
section
variable {P : Program} {w : World} {K : PySem.W.Frag} {mg : Str → Option Value} {base : Heap} {a : Ad}
theorem ok_pen (T : Txt K mg a) :
    FnOk P w K mg base CX0 1 a.f__law_pen a.d__law_pen ["script"] (spPen K) := by
  refine T.F__law_pen.ok sc__law_pen (fun vs H Q E h => ?_) (fun cdv A outer s H vs Q E hr h => ?_)
  · obtain ⟨a, ns, rfl, _⟩ := h
    rfl
  · obtain ⟨a, ns, rfl, hS, hl, k⟩ := h
    refine ⟨_, (pss_one (ps_ret (pe_lst (pa_cons (pe_callTy call_list_of (by rfl) T.b_list (by decide +kernel) (pa_cons (pe_slice sl_list (pv 0) po_none (po_some pe_int)) pa_nil)) (pa_cons pe_int (pa_cons pe_int pa_nil)))))), ?_⟩
    refine ⟨_, rfl, _, rfl, a, _, rfl, hS, fun q hq => ?_⟩
    refine ⟨q, _, rfl, .inl (SqL.of upd_same), fun l hl' => ?_⟩
    refine ⟨by show 3 ≤ sizeLine; decide, fun p hp => ?_⟩
    have nlq : l ≠ q := fun z => by
      rw [z, upd_same] at hl'
      cases hl'
    have npl : p ≠ l := fun z => by
      rw [z, upd_same] at hp
      cases hp
    have npq : p ≠ q := fun z => by
      rw [z, upd_ne nlq.symm, upd_same] at hp
      cases hp
    have hl0 : H l = none := by
      rw [upd_ne nlq] at hl'
      exact hl'
    have hp0 : H p = none := by
      rw [upd_ne npl, upd_ne npq] at hp
      exact hp
    refine k p _ hp0 ?_ ⟨l, 0, 0, ns.take 60, upd_same, ?_, by omega, by omega, by omega, ?_⟩
    · intro b o hb e
      rw [upd_ne hb, upd_ne (ne_of_none e hl0), upd_ne (ne_of_none e hq)]
      exact e
    · rw [upd_ne npl.symm, upd_same]
      rw [show (60 : Int) = ((60 : Nat) : Int) from rfl, cut_ints]
    · rw [List.length_take]
      omega
theorem ok_next (T : Txt K mg a) :
    FnOk P w K mg base CX0 1 a.f__law_next a.d__law_next ["pen"] spNext := by
  refine T.F__law_next.ok sc__law_next (fun vs H Q E h => ?_) (fun cdv A outer s H vs Q E hr h => ?_)
  · obtain ⟨p, n, l, i, v, ns, rfl, _⟩ := h
    rfl
  · obtain ⟨p, n, l, i, v, ns, rfl, hp, hl, i0, i1, n1, hns, k⟩ := h
    have nd := sc__law_next.nd
    have npl : l ≠ p := ne_of hl hp (by
      intro q
      have q2 := HO.lst.inj q
      cases ns with
      | nil => cases q2
      | cons a r => cases q2)
    refine ⟨_, (pss_cons (ps_set (i := 1) nd rfl (Or.inl rfl) (pe_ix ix_list (pv 0) pe_int (fun _ _ => rfl)))
  (pss_cons (ps_asg (pe_op op_add (pv 1) pe_int) (pg_sub (pv 0) pe_int set_list))
  (pss_cons (ps_set (i := 2) nd rfl (Or.inl rfl) (pe_op op_add (pe_op op_mul (pv 1) pe_int) pe_int))
  (Evl.pss_cut (ps_if (pt_cmpR (op_neD hr.units) (pe_ix ix_list (pv 0) pe_int (fun _ _ => rfl)) (pe_lst pa_nil) (nomark _))
    (pss_one (ps_set (i := 2) nd rfl (Or.inl rfl) (pe_ix ix_list (pe_ix ix_list (pv 0) pe_int (fun _ _ => rfl)) (pe_op op_mod (pv 1) (pe_callB call_len_seq (by rfl) T.b_len PySem.boot_len (pa_cons (pe_ix ix_list (pv 0) pe_int (fun _ _ => rfl)) pa_nil))) (fun _ _ => rfl))))
    pss_nil)
  (Evl.pss_cut (ps_if (PW.pt (pw_and (pt_cmpR op_lt (pv 1) (pe_callB call_len_seq (by rfl) T.b_len PySem.boot_len (pa_cons (pe_ix ix_list (pv 0) pe_int (fun _ _ => rfl)) pa_nil)) (nomark _)) (pw_and1 (pt_cmpR op_ge (pv 2) (pe_op op_pow pe_int pe_int) (nomark _)))))
    (pss_one (ps_ret (pv 2)))
    pss_nil)
  (Evl.pss_cut (ps_set (i := 3) nd rfl (Or.inl rfl) (pe_op op_mod (pe_op op_add (pe_op op_add (pe_op op_mod (pv 2) pe_int) (pe_op op_mul (pv 1) pe_int)) pe_int) pe_int))
  (Evl.pss_cut (ps_set (i := 4) nd rfl (Or.inl rfl) (pe_op op_mod (pe_op op_add (pe_op op_add (pe_op op_mul (pv 3) (pv 3)) (pe_op op_mul (pv 1) pe_int)) pe_int) pe_int))
  (Evl.pss_cut (ps_set (i := 5) nd rfl (Or.inl rfl) (pe_op op_mod (pe_op op_add (pe_op op_add (pe_op op_mul (pv 4) (pv 4)) (pv 3)) (pe_op op_mul (pe_op op_mul (pv 1) (pv 1)) pe_int)) pe_int))
  (pss_one (ps_ret (pe_op op_add (pe_op op_mul (pe_op op_add (pe_op op_mul (pv 5) pe_int) (pv 4)) pe_int) (pv 3)))))))))))), ?_⟩
    walk_at "rd"
    refine ⟨p, _, _, 1, rfl, rfl, hp, rfl, ?_⟩
    walk_at "rd"
    have hp' : upd H p (.lst [.ref l, .int (i + 1), .int v]) p = some (.lst [.ref l, .int (i + 1), .int v]) := upd_same
    have hl' : upd H p (.lst [.ref l, .int (i + 1), .int v]) l = some (.lst (ns.map V.int)) := by
      rw [upd_ne npl]
      exact hl
    show Evl.tCut _ _ _ _ _
    refine ⟨fun σ' H' => ∃ c : Int, σ' = [some (.ref p), some (.int i), some (.int c), none, none, none] ∧
      H' p = some (.lst [.ref l, .int (i + 1), .int v]) ∧ H' l = some (.lst (ns.map V.int)) ∧ (∀ z : Int, 0 ≤ z → Q (.int z) H'), ?_, ?_⟩
    · walk_at "rd"
      refine ⟨Nat.zero_le _, fun q hq => ?_⟩
      have nql : l ≠ q := ne_of_none hl' hq
      have nqp : p ≠ q := ne_of_none hp' hq
      have hp3 : upd (upd H p (.lst [.ref l, .int (i + 1), .int v])) q (.lst []) p = some (.lst [.ref l, .int (i + 1), .int v]) := by
        rw [upd_ne nqp]
        exact hp'
      have hl3 : upd (upd H p (.lst [.ref l, .int (i + 1), .int v])) q (.lst []) l = some (.lst (ns.map V.int)) := by
        rw [upd_ne nql]
        exact hl'
      refine ⟨_, _, .lst (SqL.of hl3) (dp_ints ns), .lst (SqL.of upd_same) .nil, shaped_ints ns, rfl, _, rfl, ?_⟩
      rw [ne_nil]
      have k3 : ∀ z : Int, 0 ≤ z → Q (.int z) (upd (upd H p (.lst [.ref l, .int (i + 1), .int v])) q (.lst [])) := fun z hz => k z hz _ (But.trans But.upd (But.new hq)) hp3
      cases ns with
      | nil => exact iteF ⟨_, rfl, hp3, hl3, k3⟩
      | cons a r =>
        refine iteT ?_
        walk_at "rd"
        refine ⟨_, _, rfl, .inl (SqL.of (by walk_at "h")), ?_⟩
        walk_at "rd"
        obtain ⟨j, ej, hj⟩ := mod_below i (n := (List.map V.int (a :: r)).length) (by rw [List.length_map]; exact Nat.succ_pos _)
        obtain ⟨c, hc⟩ := ints_at (ns := a :: r) (j := j) (by rw [List.length_map] at hj; exact hj)
        refine ⟨by rw [List.length_map]; show (0 : Int) < ((r.length + 1 : Nat) : Int); omega, ?_⟩
        refine ⟨l, _, _, .int c, rfl, rfl, SqL.of (by walk_at "h"), by rw [ej]; exact atI_nat hc, ?_⟩
        exact ⟨c, rfl, hp3, hl3, k3⟩
    · rintro σ' H' ⟨c, rfl, hp2, hl2, k2⟩
      have hi : -(2 ^ 64) < i ∧ i < 2 ^ 64 := ⟨by omega, by omega⟩
      refine ⟨fun σ' H2 => σ' = [some (.ref p), some (.int i), some (.int c), none, none, none] ∧ H2 = H', ?_, ?_⟩
      · walk_at "rd"
        refine ⟨_, _, rfl, .inl (SqL.of (by walk_at "h")), ?_⟩
        walk_at "rd"
        refine ite2 (fun hc => ?_) (fun hc => ?_)
        · walk_at "rd"
          refine ⟨⟨by decide, by decide, by decide⟩, ?_⟩
          walk_at "rd"
          refine ite2 (fun hd => ?_) (fun hd => ?_)
          · walk_at "rd"
            refine k2 c ?_
            have h := of_decide_eq_true hd
            have e : (10 : Int) ^ (18 : Int).toNat = 1000000000000000000 := by decide
            rw [e] at h
            omega
          · exact ⟨rfl, rfl⟩
        · exact iteF ⟨rfl, rfl⟩
      · rintro σ' H2' ⟨rfl, rfl⟩
        refine ⟨fun σ' H2 => ∃ low : Int, (0 ≤ low ∧ low < 2147483587) ∧ σ' = [some (.ref p), some (.int i), some (.int c), some (.int low), none, none] ∧ H2 = H2', ?_, ?_⟩
        · walk_at "rd"
          exact ⟨_, ⟨Int.emod_nonneg _ (by decide), Int.emod_lt_of_pos _ (by decide)⟩, rfl, rfl⟩
        · rintro σ' H2 ⟨low, ⟨l0, l1⟩, rfl, rfl⟩
          refine ⟨fun σ' H3 => ∃ mid : Int, (0 ≤ mid ∧ mid < 2147483563) ∧ σ' = [some (.ref p), some (.int i), some (.int c), some (.int low), some (.int mid), none] ∧ H3 = H2, ?_, ?_⟩
          · walk_at "rd"
            refine ⟨.inl ⟨by omega, by omega⟩, ?_⟩
            walk_at "rd"
            exact ⟨_, ⟨Int.emod_nonneg _ (by decide), Int.emod_lt_of_pos _ (by decide)⟩, rfl, rfl⟩
          · rintro σ' H3 ⟨mid, ⟨m0, m1⟩, rfl, rfl⟩
            refine ⟨fun σ' H4 => ∃ top : Int, (0 ≤ top ∧ top < 2147483549) ∧ σ' = [some (.ref p), some (.int i), some (.int c), some (.int low), some (.int mid), some (.int top)] ∧ H4 = H3, ?_, ?_⟩
            · walk_at "rd"
              refine ⟨.inl ⟨by omega, by omega⟩, ?_⟩
              walk_at "rd"
              refine ⟨.inl hi, ?_⟩
              walk_at "rd"
              exact ⟨_, ⟨Int.emod_nonneg _ (by decide), Int.emod_lt_of_pos _ (by decide)⟩, rfl, rfl⟩
            · rintro σ' H4 ⟨top, ⟨t0, t1⟩, rfl, rfl⟩
              walk_at "rd"
              exact k2 _ (by omega)
end
section
variable {P : Program} {w : World} {K : PySem.W.Frag} {mg : Str → Option Value} {base : Heap} {a : Ad}
theorem ok_draw (T : Txt K mg a) : FnOk P w K mg base CX0 2 a.f__law_draw a.d__law_draw ["pen", "below"] spDraw := by
  have G_law_next : FnOk P w K mg base CX0 1 a.f__law_next a.d__law_next ["pen"] spNext := ok_next T
  refine T.F__law_draw.ok sc__law_draw (fun vs H Q E h => ?_) (fun cdv A outer s H vs Q E hr h => ?_)
  · obtain ⟨p, n, b, rfl, _⟩ := h
    rfl
  · obtain ⟨p, n, b, rfl, ⟨l, i, v, ns, hp, hl, i0, i1, v0, hns⟩, n1, b0, b1, k⟩ := h
    have nd := sc__law_draw.nd
    refine ⟨_, (Evl.pss_cut (ps_if (pt_cmpR op_lt (pe_ix ix_list (pv 0) pe_int (fun _ _ => rfl)) (pv 1) (nomark _))
    (pss_one (ps_asg (pe_call G_law_next (hr.mono (by decide)) rfl T.g__law_next T.F__law_next.kp T.b__law_next .nil pass0 (pa_cons (pv 0) pa_nil)) (pg_sub (pv 0) pe_int set_list)))
    pss_nil)
  (pss_cons (ps_set (i := 2) nd rfl (Or.inl rfl) (pe_op op_mod (pe_ix ix_list (pv 0) pe_int (fun _ _ => rfl)) (pv 1)))
  (pss_cons (ps_asg (pe_op op_fdivW (pe_ix ix_list (pv 0) pe_int (fun _ _ => rfl)) (pv 1)) (pg_sub (pv 0) pe_int set_list))
  (pss_one (ps_ret (pv 2)))))), ?_⟩
    refine ⟨fun σ' H' => ∃ j u : Int, σ' = [some (.ref p), some (.int b), none] ∧ H' p = some (.lst [.ref l, .int j, .int u]) ∧
      0 ≤ j ∧ j ≤ i + 1 ∧ 0 ≤ u ∧ But p H H', ?_, ?_⟩
    · walk_at "rd"
      refine ite2 (fun hc => ?_) (fun hc => ?_)
      · walk_at "rd"
        refine ⟨p, n, l, i, v, ns, rfl, hp, hl, i0, i1, n1, hns, fun z hz H' hb' hp' => ?_⟩
        walk_at "rd"
        refine ⟨p, _, _, 2, rfl, rfl, hp', rfl, ?_⟩
        exact ⟨i + 1, z, rfl, upd_same, by omega, by omega, hz, But.trans hb' But.upd⟩
      · exact ⟨i, v, rfl, hp, i0, by omega, v0, But.refl p H⟩
    · rintro σ' H' ⟨j, u, rfl, hp', j0, j1, u0, hb'⟩
      walk_at "rd"
      refine ⟨b0, ?_⟩
      walk_at "rd"
      refine ⟨⟨b0, Nat.lt_of_lt_of_le (PySem.Flt.log2_lt_of (by decide : 0 < 200) (by omega)) (by decide)⟩, ?_⟩
      walk_at "rd"
      refine ⟨p, _, _, 2, rfl, rfl, hp', rfl, ?_⟩
      walk_at "rd"
      have nlp : l ≠ p := by
        refine ne_of hl hp ?_
        intro q
        have q2 := HO.lst.inj q
        cases ns with
        | nil => cases q2
        | cons a r => cases q2
      refine k _ _ (Int.emod_nonneg _ (by omega)) (Int.emod_lt_of_pos _ b0) (But.trans hb' But.upd) ⟨l, j, _, ns, upd_same, ?_, j0, by omega, ?_, hns⟩
      · rw [upd_ne nlp]
        exact hb' _ _ nlp hl
      · exact Int.ediv_nonneg u0 (by omega)
end
end Ask

set_option Elab.async false
set_option linter.all false
set_option maxRecDepth 100000
set_option maxHeartbeats 4000000
namespace Ask
open PySem L2
open PyProof.Rows
section
variable {P : Program} {w : World} {K : PySem.W.Frag} {mg : Str → Option Value} {base : Heap} {a : Ad}

/-- any object of a built-in kind -/
def Obj' (K : PySem.W.Frag) (H : Hp) (v : V) (t : String) : Prop := TyX K H v (.type t) ∧ t ∈ kinds
def spWhole (K : PySem.W.Frag) : Sp := fun vs H Q _ => ∃ v t, vs = [v] ∧ Obj' K H v t ∧ Q (.bl (t == "int")) H
theorem ok_whole (T : Txt K mg a) : FnOk P w K mg base CX0 1 a.f_is_whole a.d_is_whole ["thing"] (spWhole K) := by
  refine T.F_is_whole.ok sc_is_whole (fun vs H Q E h => ?_) (fun cdv A outer s H vs Q E hr h => ?_)
  · obtain ⟨v, t, rfl, _⟩ := h
    rfl
  · obtain ⟨v, t, rfl, ⟨ty, ht⟩, q⟩ := h
    refine ⟨_, (pss_one (ps_ret (pe_and (pe_callB call_isi (by rfl) T.b_isinstance (by decide +kernel) (pa_cons (pv 0) (pa_cons (pe_bltn (v := .ty "int") (by rfl) T.b_int (by decide +kernel) rfl) pa_nil))) (pe_one (pe_not (pe_callB call_isi (by rfl) T.b_isinstance (by decide +kernel) (pa_cons (pv 0) (pa_cons (pe_bltn (v := .ty "bool") (by rfl) T.b_bool (by decide +kernel) rfl) pa_nil)))))))), ?_⟩
    refine ⟨v, rfl, ?_⟩
    simp only [kinds, List.mem_cons, List.not_mem_nil, or_false] at ht
    rcases ht with rfl | rfl | rfl | rfl | rfl | rfl | rfl
    · exact ⟨v, .ty "int", _, _, false, rfl, .ty _, ty, kit_ty (by decide +kernel), false, rfl, iteF q⟩
    · refine ⟨v, .ty "int", _, _, true, rfl, .ty _, ty, kit_ty (by decide +kernel), true, rfl, iteT ?_⟩
      exact ⟨v, rfl, v, .ty "bool", _, _, true, rfl, .ty _, ty, kit_ty (by decide +kernel), true, rfl, q⟩
    · refine ⟨v, .ty "int", _, _, true, rfl, .ty _, ty, kit_ty (by decide +kernel), true, rfl, iteT ?_⟩
      exact ⟨v, rfl, v, .ty "bool", _, _, false, rfl, .ty _, ty, kit_ty (by decide +kernel), false, rfl, q⟩
    · exact ⟨v, .ty "int", _, _, false, rfl, .ty _, ty, kit_ty (by decide +kernel), false, rfl, iteF q⟩
    · exact ⟨v, .ty "int", _, _, false, rfl, .ty _, ty, kit_ty (by decide +kernel), false, rfl, iteF q⟩
    · exact ⟨v, .ty "int", _, _, false, rfl, .ty _, ty, kit_ty (by decide +kernel), false, rfl, iteF q⟩
    · exact ⟨v, .ty "int", _, _, false, rfl, .ty _, ty, kit_ty (by decide +kernel), false, rfl, iteF q⟩

/-- the name's signs, the name's length -/
def signB (c : Nat) : Bool := decide (97 ≤ c) && decide (c ≤ 122)
def nameB (x : Str) : Bool := decide (1 ≤ x.length) && decide (x.length ≤ 8) && x.cps.toList.all signB
def spIsName (K : PySem.W.Frag) : Sp := fun vs H Q _ => ∃ v t, vs = [v] ∧ Obj' K H v t ∧
  ((t ≠ "str" ∧ Q (.bl false) H) ∨ ∃ x, v = .str x ∧ x.length ≤ sizeLine ∧ ∀ H', Same H H' → Q (.bl (nameB x)) H')
theorem lt_one (c d : Nat) : decide ((⟨#[c]⟩ : Str).cps.toList < (⟨#[d]⟩ : Str).cps.toList) = decide (c < d) := by
  congr 1
  apply propext
  constructor
  · intro h
    cases h with
    | rel h => exact h
    | cons h => cases h
  · intro h
    exact List.Lex.rel h
theorem lt_a (c : Nat) : decide ((⟨#[c]⟩ : Str).cps.toList < (Str.ofString "a").cps.toList) = decide (c < 97) := by
  rw [show Str.ofString "a" = ⟨#[97]⟩ from by decide +kernel]
  exact lt_one c 97
theorem lt_z (c : Nat) : decide ((Str.ofString "z").cps.toList < (⟨#[c]⟩ : Str).cps.toList) = decide (122 < c) := by
  rw [show Str.ofString "z" = ⟨#[122]⟩ from by decide +kernel]
  exact lt_one 122 c
theorem ok_is_name (T : Txt K mg a) : FnOk P w K mg base CX0 1 a.f_Item_is_name a.d_Item_is_name ["thing"] (spIsName K) := by
  refine T.F_Item_is_name.ok sc_Item_is_name (fun vs H Q E h => ?_) (fun cdv A outer s H vs Q E hr h => ?_)
  · obtain ⟨v, t, rfl, _⟩ := h
    rfl
  · obtain ⟨v, t, rfl, ⟨ty, ht⟩, q⟩ := h
    have nd := sc_Item_is_name.nd
    refine ⟨_, (pss_cons (ps_if (PW.pt (pw_or (pt_not (pt_val (pe_callB call_isi (by rfl) T.b_isinstance (by decide +kernel) (pa_cons (pv 0) (pa_cons (pe_bltn (v := .ty "str") (by rfl) T.b_str (by decide +kernel) rfl) pa_nil))))) (pw_or1 (pt_not (pt_chain op_le op_le pe_int (pe_callB call_len_str (by rfl) T.b_len PySem.boot_len (pa_cons (pv 0) pa_nil)) (pe_gi rfl T.g_LONGEST_NAME))))))
    (pss_one (ps_ret pe_bl))
    pss_nil)
  (pss_one (ps_ret (pe_callB (cr_all rfl) (by rfl) T.b_all (by decide +kernel) (pa_cons (pe_lc (own := [("sign", 1)]) (g := gName 1) (tt := tYes) rfl nd (pi_str (pv 0)) (blkOk_by (N := ["thing", "sign"]) (sc := defScope s_Item_is_name) (by decide +kernel)) (fun _ _ _ _ _ => (pg_name (i := 1) nd rfl (Or.inl rfl))) (fun _ _ _ _ _ => pts_nil) (fun _ _ _ _ _ => (pe_chain op_le_str op_le_str pe_str (pv 1) pe_str))) pa_nil))))), ?_⟩
    refine ⟨v, rfl, ?_⟩
    rcases q with ⟨hn, q⟩ | ⟨x, rfl, hx, q⟩
    · refine ⟨v, .ty "str", _, _, false, rfl, .ty _, ty, kit_ty ?_, false, rfl, iteT (iteT q)⟩
      simp only [kinds, List.mem_cons, List.not_mem_nil, or_false] at ht
      rcases ht with rfl | rfl | rfl | rfl | rfl | rfl | rfl
      all_goals first | decide +kernel | exact absurd rfl hn
    · refine ⟨.str x, .ty "str", _, _, true, rfl, .ty _, .base (.str x), kit_ty (by decide +kernel), true, rfl, iteF ?_⟩
      refine ⟨_, rfl, x, rfl, hx, _, _, rfl, rfl, _, rfl, ?_⟩
      have hlen : x.cps.toList.length = x.length := by simp [Str.length]
      by_cases h1 : (1 : Int) ≤ ((x.length : Nat) : Int)
      · rw [decide_eq_true h1]
        refine iteT ⟨_, _, rfl, rfl, _, rfl, ?_⟩
        by_cases h8 : ((x.length : Nat) : Int) ≤ 8
        · rw [decide_eq_true h8]
          refine iteF ?_
          refine ⟨_, rfl, x, rfl, fun D hD => ?_⟩
          refine lc_it (walk_str (z := x)) (fun i H' => Same H H' ∧ H' D = some (.lst (((x.cps.toList.take i).map signB).map V.bl))) ⟨Same.new hD, upd_same⟩ (fun _ _ _ _ => trivial) ?_ ?_
          · rintro i z H1 H2 hi ⟨b1, b2⟩ ⟨rfl, c, hc, rfl⟩
            have hc' : x.cps.toList[i]? = some c := by rw [Array.getElem?_toList]; exact hc
            have step : x.cps.toList.take (i + 1) = x.cps.toList.take i ++ [c] := by
              rw [List.take_add_one, hc']
              rfl
            have fin : ∀ y, y = V.bl (signB c) → ∃ acc, H2 D = some (.lst acc) ∧ acc.length < sizeLine ∧
                (Same H (upd H2 D (.lst (acc ++ [y]))) ∧ upd H2 D (.lst (acc ++ [y])) D = some (.lst (((x.cps.toList.take (i + 1)).map signB).map V.bl))) := by
              rintro y rfl
              refine ⟨_, b2, ?_, Same.of b1 hD, ?_⟩
              · rw [List.length_map, List.length_map, List.length_take]
                exact Nat.lt_of_le_of_lt (show _ ≤ 8 by omega) (by decide)
              · rw [upd_same, step, List.map_append, List.map_append]
                rfl
            refine ⟨rfl, ?_⟩
            refine ⟨_, rfl, _, _, rfl, rfl, _, rfl, ?_⟩
            rw [lt_a]
            by_cases ha : 97 ≤ c
            · rw [decide_eq_false (show ¬ c < 97 by omega)]
              refine iteT ⟨_, _, rfl, rfl, ?_⟩
              rw [lt_z]
              refine fin _ ?_
              unfold signB
              rw [decide_eq_true ha, Bool.true_and]
              congr 1
              by_cases hz : c ≤ 122
              · rw [decide_eq_true hz, decide_eq_false (by omega)]
                rfl
              · rw [decide_eq_false hz, decide_eq_true (by omega)]
                rfl
            · rw [decide_eq_true (show c < 97 by omega)]
              refine iteF (fin _ ?_)
              unfold signB
              rw [decide_eq_false ha]
              rfl
          · rintro H1 ⟨b1, b2⟩
            refine ⟨D, _, rfl, SqL.of b2, ?_⟩
            have e : nameB x = (List.map signB (x.cps.toList.take x.cps.size)).all id := by
              unfold nameB
              rw [decide_eq_true (show 1 ≤ x.length by omega), decide_eq_true (show x.length ≤ 8 by omega), Bool.true_and, Bool.true_and]
              rw [List.take_of_length_le (by rw [Array.length_toList]; exact Nat.le_refl _), List.all_map]
              rfl
            rw [← e]
            exact q H1 b1
        · rw [decide_eq_false h8]
          refine iteT ?_
          have e : nameB x = false := by
            unfold nameB
            rw [decide_eq_false (show ¬ x.length ≤ 8 by omega), Bool.and_false, Bool.false_and]
          rw [← e]
          exact q H (Same.refl H)
      · rw [decide_eq_false h1]
        refine iteF ⟨_, rfl, ?_⟩
        have e : nameB x = false := by
          unfold nameB
          rw [decide_eq_false (show ¬ 1 ≤ x.length by omega), Bool.false_and, Bool.false_and]
        have q2 := q H (Same.refl H)
        rw [e] at q2
        exact q2
end
end Ask

set_option Elab.async false
set_option linter.all false
set_option maxRecDepth 100000
set_option maxHeartbeats 4000000
namespace Ask
open PySem L2
open PyProof.Rows
section
variable {P : Program} {w : World} {K : PySem.W.Frag} {mg : Str → Option Value} {base : Heap} {a : Ad}
def itF (nm : Str) (lo hi pr : Int) : List (Str × V) := [("_name", .str nm), ("_least", .int lo), ("_greatest", .int hi), ("_price", .int pr)]
theorem itF_put (nm : Str) (lo hi pr : Int) : putF "_price" (.int pr) (putF "_greatest" (.int hi) (putF "_least" (.int lo) (putF "_name" (.str nm) []))) = itF nm lo hi pr := by
  with_unfolding_all rfl
/-- what a new item's price is -/
def prI (lo hi pr : Int) : Int := if lo = hi then 0 else pr
/-- __init__, arguments that form an item -/
def spInit (C : Addr) : Sp := fun vs H Q _ => ∃ (x dx : Addr) (nm : Str) (lo hi pr : Int), vs = [.ref x, .str nm, .int lo, .int hi, .int pr] ∧
  H x = some (.ins C dx []) ∧ nameB nm = true ∧ lo ≤ hi ∧ 1 ≤ pr ∧ pr ≤ 999 ∧
  ∀ H', But x H H' → H' x = some (.ins C dx (itF nm lo hi (prI lo hi pr))) → Q .non H'
theorem name_len {nm : Str} (h : nameB nm = true) : nm.length ≤ 8 := by
  unfold nameB at h
  rw [Bool.and_eq_true, Bool.and_eq_true] at h
  exact of_decide_eq_true h.1.2
theorem ok_init (T : Txt K mg a) : FnOk P w K mg base CX0 3 a.f_Item___init__ a.d_Item___init__ ["self", "name", "least", "greatest", "price"] (spInit a.c_Item) := by
  have G_is_name : FnOk P w K mg base CX0 1 a.f_Item_is_name a.d_Item_is_name ["thing"] (spIsName K) := ok_is_name T
  have Gis_whole : FnOk P w K mg base CX0 1 a.f_is_whole a.d_is_whole ["thing"] (spWhole K) := ok_whole T
  refine T.F_Item___init__.ok sc_Item___init__ (fun vs H Q E h => ?_) (fun cdv A outer s H vs Q E hr h => ?_)
  · obtain ⟨x, dx, nm, lo, hi, pr, rfl, _⟩ := h
    rfl
  · obtain ⟨x, dx, nm, lo, hi, pr, rfl, hx, hn, hlh, p1, p2, k⟩ := h
    have nd := sc_Item___init__.nd
    have hl := name_len hn
    have oS : ∀ H, Obj' K H (.str nm) "str" := fun H => ⟨.base (.str nm), by decide⟩
    have oI : ∀ H (i : Int), Obj' K H (.int i) "int" := fun H i => ⟨.base (.int i), by decide⟩
    refine ⟨_, (pss_cons (ps_if (pt_not (pt_val (pe_smeth (pe_glob (v := .ref a.c_Item) rfl T.g_Item rfl) T.rd_Item T.m_Item_is_name G_is_name (hr.mono (by decide)) T.b_Item_is_name pass0 (pa_cons (pv 1) pa_nil))))
    (pss_one ps_never)
    pss_nil)
  (pss_cons (ps_if (PW.pt (pw_or (pt_not (pt_val (pe_call Gis_whole (hr.mono (by decide)) rfl T.g_is_whole T.F_is_whole.kp T.b_is_whole .nil pass0 (pa_cons (pv 2) pa_nil)))) (pw_or1 (pt_not (pt_val (pe_call Gis_whole (hr.mono (by decide)) rfl T.g_is_whole T.F_is_whole.kp T.b_is_whole .nil pass0 (pa_cons (pv 3) pa_nil)))))))
    (pss_one ps_never)
    pss_nil)
  (pss_cons (ps_if (pt_cmpR op_gt (pv 2) (pv 3) (nomark _))
    (pss_one ps_never)
    pss_nil)
  (pss_cons (ps_if (PW.pt (pw_or (pt_not (pt_val (pe_call Gis_whole (hr.mono (by decide)) rfl T.g_is_whole T.F_is_whole.kp T.b_is_whole .nil pass0 (pa_cons (pv 4) pa_nil)))) (pw_or1 (pt_not (pt_chain op_le op_le pe_int (pv 4) (ClX.pe_cval (pe_glob (v := .ref a.c_Item) rfl T.g_Item rfl)))))))
    (pss_one ps_never)
    pss_nil)
  (pss_cons (ps_fld (pv 0) (pv 1) rfl)
  (pss_cons (ps_fld (pv 0) (pv 2) rfl)
  (pss_cons (ps_fld (pv 0) (pv 3) rfl)
  (pss_one (ps_fld (pv 0) (pe_ifExp (pt_cmpR op_eq (pv 2) (pv 3) (nomark _)) pe_int (pv 4)) rfl))))))))), ?_⟩
    refine ⟨rfl, _, rfl, .str nm, "str", rfl, oS H, .inr ⟨nm, rfl, Nat.le_trans hl (by decide), fun H1 s1 => ?_⟩⟩
    rw [hn]
    have hx1 := s1 _ _ hx
    refine ⟨_, rfl, iteF ?_⟩
    -- the ends of the range
    refine ⟨_, rfl, _, "int", rfl, oI H1 lo, _, rfl, iteF ?_⟩
    refine ⟨_, rfl, _, "int", rfl, oI H1 hi, _, rfl, iteF ?_⟩
    refine ⟨_, rfl, _, rfl, _, _, rfl, rfl, _, rfl, ?_⟩
    rw [decide_eq_false (show ¬ hi < lo by omega)]
    refine iteF ?_
    -- the price
    refine ⟨_, rfl, _, "int", rfl, oI H1 pr, _, rfl, iteF ?_⟩
    refine ⟨_, rfl, _, _, rfl, rfl, _, rfl, ?_⟩
    rw [decide_eq_true p1]
    obtain ⟨u, cv⟩ := T.cv_Item_MOST
    refine iteT ⟨_, _, _, u, rfl, T.rd_Item, cv, _, _, rfl, rfl, _, rfl, ?_⟩
    rw [decide_eq_true p2]
    refine iteF ?_
    -- the fields
    refine ⟨_, rfl, _, rfl, x, _, dx, _, rfl, hx1, T.cl_Item, T.n_Item__name, (by show 0 < 1000; decide), ?_⟩
    refine ⟨_, rfl, _, rfl, x, _, dx, _, rfl, upd_same, T.cl_Item, T.n_Item__least, (by show 1 < 1000; decide), ?_⟩
    refine ⟨_, rfl, _, rfl, x, _, dx, _, rfl, upd_same, T.cl_Item, T.n_Item__greatest, (by show 2 < 1000; decide), ?_⟩
    refine ⟨_, rfl, _, rfl, rfl, _, rfl, ?_⟩
    have fin : ∀ z, z = prI lo hi pr → Q .non (upd (upd (upd (upd H1 x (.ins a.c_Item dx (putF "_name" (.str nm) []))) x (.ins a.c_Item dx (putF "_least" (.int lo) (putF "_name" (.str nm) [])))) x
        (.ins a.c_Item dx (putF "_greatest" (.int hi) (putF "_least" (.int lo) (putF "_name" (.str nm) []))))) x (.ins a.c_Item dx (putF "_price" (.int z) (putF "_greatest" (.int hi) (putF "_least" (.int lo) (putF "_name" (.str nm) [])))))) := by
      rintro z rfl
      refine k _ ?_ ?_
      · intro b o hb e
        rw [upd_ne hb, upd_ne hb, upd_ne hb, upd_ne hb]
        exact s1 b o e
      · rw [upd_same, itF_put]
    by_cases e : lo = hi
    · rw [decide_eq_true (congrArg V.int e)]
      refine iteT ?_
      refine ⟨_, rfl, x, _, dx, _, rfl, upd_same, T.cl_Item, T.n_Item__price, (by show 3 < 1000; decide), ?_⟩
      exact fin 0 (by unfold prI; rw [if_pos e])
    · rw [decide_eq_false (fun q => e (V.int.inj q))]
      refine iteF ?_
      refine ⟨_, rfl, _, rfl, x, _, dx, _, rfl, upd_same, T.cl_Item, T.n_Item__price, (by show 3 < 1000; decide), ?_⟩
      exact fin pr (by unfold prI; rw [if_neg e])
end
end Ask

set_option Elab.async false
set_option linter.all false
set_option maxRecDepth 100000
set_option maxHeartbeats 4000000
namespace Ask
open PySem L2
open PyProof.Rows
section
variable {P : Program} {w : World} {K : PySem.W.Frag} {mg : Str → Option Value} {base : Heap} {a : Ad}
/-- the item (nm, lo, hi, pr) stands at x -/
def ItemAt (C : Addr) (H : Hp) (x : Addr) (nm : Str) (lo hi pr : Int) : Prop := ∃ dx, H x = some (.ins C dx (itF nm lo hi pr))
theorem l_name {nm : Str} {lo hi pr : Int} : (itF nm lo hi pr).lookup (Str.ofString "_name") = some (.str nm) := by with_unfolding_all rfl
theorem l_least {nm : Str} {lo hi pr : Int} : (itF nm lo hi pr).lookup (Str.ofString "_least") = some (.int lo) := by with_unfolding_all rfl
theorem l_greatest {nm : Str} {lo hi pr : Int} : (itF nm lo hi pr).lookup (Str.ofString "_greatest") = some (.int hi) := by with_unfolding_all rfl
theorem l_price {nm : Str} {lo hi pr : Int} : (itF nm lo hi pr).lookup (Str.ofString "_price") = some (.int pr) := by with_unfolding_all rfl
theorem dV_int (i j : Int) : decide (V.int i = V.int j) = decide (i = j) := by
  by_cases h : i = j
  · rw [decide_eq_true h, decide_eq_true (congrArg V.int h)]
  · rw [decide_eq_false h, decide_eq_false (fun q => h (V.int.inj q))]
theorem dV_str (i j : Str) : decide (V.str i = V.str j) = decide (i = j) := by
  by_cases h : i = j
  · rw [decide_eq_true h, decide_eq_true (congrArg V.str h)]
  · rw [decide_eq_false h, decide_eq_false (fun q => h (V.str.inj q))]
/-- a property: what it tells of the item's parts -/
def spPart (C : Addr) (g : Str → Int → Int → Int → V) : Sp := fun vs H Q _ => ∃ x nm lo hi pr, vs = [.ref x] ∧ ItemAt C H x nm lo hi pr ∧ Q (g nm lo hi pr) H
abbrev spName (C : Addr) : Sp := spPart C fun nm _ _ _ => .str nm
abbrev spLeast (C : Addr) : Sp := spPart C fun _ lo _ _ => .int lo
abbrev spGreatest (C : Addr) : Sp := spPart C fun _ _ hi _ => .int hi
abbrev spPrice (C : Addr) : Sp := spPart C fun _ _ _ pr => .int pr
abbrev spIsExact (C : Addr) : Sp := spPart C fun _ lo hi _ => .bl (decide (lo = hi))
def valV (lo hi : Int) : V := if lo = hi then .int lo else .non
abbrev spValue (C : Addr) : Sp := spPart C fun _ lo hi _ => valV lo hi
theorem ok_name (T : Txt K mg a) : FnOk P w K mg base CX0 1 a.f_Item_name a.d_Item_name ["self"] (spName a.c_Item) := by
  refine T.F_Item_name.ok sc_Item_name (fun vs H Q E h => ?_) (fun cdv A outer s H vs Q E hr h => ?_)
  · obtain ⟨x, nm, lo, hi, pr, rfl, _⟩ := h
    rfl
  · obtain ⟨x, nm, lo, hi, pr, rfl, ⟨dx, hx⟩, q⟩ := h
    exact ⟨_, (pss_one (ps_ret (pe_fld (pv 0) rfl))), _, rfl, x, _, dx, _, _, rfl, hx, T.cl_Item, T.n_Item__name, l_name, q⟩
theorem ok_least (T : Txt K mg a) : FnOk P w K mg base CX0 1 a.f_Item_least a.d_Item_least ["self"] (spLeast a.c_Item) := by
  refine T.F_Item_least.ok sc_Item_least (fun vs H Q E h => ?_) (fun cdv A outer s H vs Q E hr h => ?_)
  · obtain ⟨x, nm, lo, hi, pr, rfl, _⟩ := h
    rfl
  · obtain ⟨x, nm, lo, hi, pr, rfl, ⟨dx, hx⟩, q⟩ := h
    exact ⟨_, (pss_one (ps_ret (pe_fld (pv 0) rfl))), _, rfl, x, _, dx, _, _, rfl, hx, T.cl_Item, T.n_Item__least, l_least, q⟩
theorem ok_greatest (T : Txt K mg a) : FnOk P w K mg base CX0 1 a.f_Item_greatest a.d_Item_greatest ["self"] (spGreatest a.c_Item) := by
  refine T.F_Item_greatest.ok sc_Item_greatest (fun vs H Q E h => ?_) (fun cdv A outer s H vs Q E hr h => ?_)
  · obtain ⟨x, nm, lo, hi, pr, rfl, _⟩ := h
    rfl
  · obtain ⟨x, nm, lo, hi, pr, rfl, ⟨dx, hx⟩, q⟩ := h
    exact ⟨_, (pss_one (ps_ret (pe_fld (pv 0) rfl))), _, rfl, x, _, dx, _, _, rfl, hx, T.cl_Item, T.n_Item__greatest, l_greatest, q⟩
theorem ok_price (T : Txt K mg a) : FnOk P w K mg base CX0 1 a.f_Item_price a.d_Item_price ["self"] (spPrice a.c_Item) := by
  refine T.F_Item_price.ok sc_Item_price (fun vs H Q E h => ?_) (fun cdv A outer s H vs Q E hr h => ?_)
  · obtain ⟨x, nm, lo, hi, pr, rfl, _⟩ := h
    rfl
  · obtain ⟨x, nm, lo, hi, pr, rfl, ⟨dx, hx⟩, q⟩ := h
    exact ⟨_, (pss_one (ps_ret (pe_fld (pv 0) rfl))), _, rfl, x, _, dx, _, _, rfl, hx, T.cl_Item, T.n_Item__price, l_price, q⟩
theorem ok_is_exact (T : Txt K mg a) : FnOk P w K mg base CX0 1 a.f_Item_is_exact a.d_Item_is_exact ["self"] (spIsExact a.c_Item) := by
  refine T.F_Item_is_exact.ok sc_Item_is_exact (fun vs H Q E h => ?_) (fun cdv A outer s H vs Q E hr h => ?_)
  · obtain ⟨x, nm, lo, hi, pr, rfl, _⟩ := h
    rfl
  · obtain ⟨x, nm, lo, hi, pr, rfl, ⟨dx, hx⟩, q⟩ := h
    refine ⟨_, (pss_one (ps_ret (pe_cmpR op_eq (pe_fld (pv 0) rfl) (pe_fld (pv 0) rfl) (nomark _)))), _, rfl, x, _, dx, _, _, rfl, hx, T.cl_Item, T.n_Item__least, l_least, _, rfl, x, _, dx, _, _, rfl, hx, T.cl_Item, T.n_Item__greatest, l_greatest, rfl, ?_⟩
    rw [dV_int]
    exact q
theorem ok_value (T : Txt K mg a) : FnOk P w K mg base CX0 3 a.f_Item_value a.d_Item_value ["self"] (spValue a.c_Item) := by
  have G_is_exact : FnOk P w K mg base CX0 1 a.f_Item_is_exact a.d_Item_is_exact ["self"] (spIsExact a.c_Item) := ok_is_exact T
  refine T.F_Item_value.ok sc_Item_value (fun vs H Q E h => ?_) (fun cdv A outer s H vs Q E hr h => ?_)
  · obtain ⟨x, nm, lo, hi, pr, rfl, _⟩ := h
    rfl
  · obtain ⟨x, nm, lo, hi, pr, rfl, ⟨dx, hx⟩, q⟩ := h
    refine ⟨_, (pss_one (ps_ret (pe_ifExp (pt_val (pe_prop (pv 0) T.cl_Item T.m_Item_is_exact G_is_exact (hr.mono (by decide)) T.b_Item_is_exact .nil pass0 rfl)) (pe_fld (pv 0) rfl) pe_non))), _, rfl, x, dx, _, rfl, hx, x, _, _, _, _, rfl, ⟨dx, hx⟩, _, rfl, ?_⟩
    by_cases e : lo = hi
    · rw [decide_eq_true e]
      refine iteT ⟨_, rfl, x, _, dx, _, _, rfl, hx, T.cl_Item, T.n_Item__least, l_least, ?_⟩
      have z : valV lo hi = .int lo := by
        unfold valV
        rw [if_pos e]
      exact z ▸ q
    · rw [decide_eq_false e]
      refine iteF ?_
      have z : valV lo hi = .non := by
        unfold valV
        rw [if_neg e]
      exact z ▸ q
/-- the item made of a name and a value -/
def spExact (C : Addr) : Sp := fun vs H Q _ => ∃ nm v, vs = [.ref C, .str nm, .int v] ∧ nameB nm = true ∧
  ∀ x H', H x = none → Same H H' → ItemAt C H' x nm v v 0 → Q (.ref x) H'
theorem init_d (T : Txt K mg a) : ∃ ds, Vals [V.int 1] ds ∧ Binds K a.d_Item___init__ ["self", "name", "least", "greatest", "price"] ds := by
  refine T.F_Item___init__.binds0 (ps := ["self", "name", "least", "greatest", "price"]) 4 (by simp) rfl ?_
  intro D doc pm an cdv ct us ks l1 l2
  match us, ks, l1, l2 with
  | [_, _, _, _], [_], _, _ => exact ⟨_, _, _, _, _, _, rfl, rfl, rfl⟩
theorem ok_exact (T : Txt K mg a) : FnOk P w K mg base CX0 5 a.f_Item_exact a.d_Item_exact ["cls", "name", "value"] (spExact a.c_Item) := by
  have G_init : FnOk P w K mg base CX0 3 a.f_Item___init__ a.d_Item___init__ ["self", "name", "least", "greatest", "price"] (spInit a.c_Item) := ok_init T
  obtain ⟨ds, hdv, hbn⟩ := init_d T
  refine T.F_Item_exact.ok sc_Item_exact (fun vs H Q E h => ?_) (fun cdv A outer s H vs Q E hr h => ?_)
  · obtain ⟨nm, v, rfl, _⟩ := h
    rfl
  · obtain ⟨nm, v, rfl, hn, k⟩ := h
    refine ⟨_, (pss_one (ps_ret (pe_makeL (i := 0) T.mk_Item G_init (hr.mono (by decide)) rfl (Or.inl rfl) hbn hdv pass0 (pa_cons (pv 1) (pa_cons (pv 2) (pa_cons (pv 2) pa_nil)))))), rfl, ?_⟩
    refine ⟨_, rfl, _, rfl, _, rfl, fun x dx hx hdx ne => ?_⟩
    refine ⟨x, dx, nm, v, v, 1, rfl, upd_same, hn, by omega, by decide, by decide, fun H' hb' hx' => ⟨rfl, ?_⟩⟩
    have e0 : prI v v 1 = 0 := by
      unfold prI
      rw [if_pos rfl]
    rw [e0] at hx'
    refine k x H' hx ?_ ⟨dx, hx'⟩
    intro b o e
    refine hb' b o (ne_of_none e hx) ?_
    rw [upd_ne (ne_of_none e hx), upd_ne (ne_of_none e hdx)]
    exact e
end
end Ask

set_option Elab.async false
set_option linter.all false
set_option maxRecDepth 100000
set_option maxHeartbeats 4000000
namespace Ask
open PySem L2
open PyProof.Rows
section
variable {P : Program} {w : World} {K : PySem.W.Frag} {mg : Str → Option Value} {base : Heap} {a : Ad}
/-- == : what is at the right -/
def eqI (C : Addr) (K : PySem.W.Frag) (H : Hp) (nm : Str) (lo hi pr : Int) (v : V) (b : Bool) : Prop :=
  (∃ t, Obj' K H v t ∧ b = false) ∨
  ∃ y nm' lo' hi' pr', v = .ref y ∧ ItemAt C H y nm' lo' hi' pr' ∧ b = (decide (nm = nm') && decide (lo = lo') && decide (hi = hi') && decide (pr = pr'))
def spEqI (C : Addr) (K : PySem.W.Frag) : Sp := fun vs H Q _ => ∃ x nm lo hi pr v b, vs = [.ref x, v] ∧ ItemAt C H x nm lo hi pr ∧ eqI C K H nm lo hi pr v b ∧ Q (.bl b) H
theorem ok_eq (T : Txt K mg a) : FnOk P w K mg base CX0 1 a.f_Item___eq__ a.d_Item___eq__ ["self", "other"] (spEqI a.c_Item K) := by
  refine T.F_Item___eq__.ok sc_Item___eq__ (fun vs H Q E h => ?_) (fun cdv A outer s H vs Q E hr h => ?_)
  · obtain ⟨x, nm, lo, hi, pr, v, b, rfl, _⟩ := h
    rfl
  · obtain ⟨x, nm, lo, hi, pr, v, b, rfl, ⟨dx, hx⟩, hv, q⟩ := h
    refine ⟨_, (pss_one (ps_ret (pe_and (pe_callB call_isi (by rfl) T.b_isinstance (by decide +kernel) (pa_cons (pv 1) (pa_cons (pe_glob (v := .ref a.c_Item) rfl T.g_Item rfl) pa_nil))) (pe_and (pe_cmpR op_eq (pe_fld (pv 0) rfl) (pe_fld (pv 1) rfl) (nomark _)) (pe_and (pe_cmpR op_eq (pe_fld (pv 0) rfl) (pe_fld (pv 1) rfl) (nomark _)) (pe_and (pe_cmpR op_eq (pe_fld (pv 0) rfl) (pe_fld (pv 1) rfl) (nomark _)) (pe_one (pe_cmpR op_eq (pe_fld (pv 0) rfl) (pe_fld (pv 1) rfl) (nomark _))))))))), v, rfl, ?_⟩
    rcases hv with ⟨t, ⟨ty, ht⟩, rfl⟩ | ⟨y, nm', lo', hi', pr', rfl, ⟨dy, hy⟩, rfl⟩
    · exact ⟨v, .ref a.c_Item, _, _, false, rfl, .own _, ty, T.ty_Item.kt t ht, false, rfl, iteF q⟩
    · refine ⟨.ref y, .ref a.c_Item, _, _, true, rfl, .own _, T.ty_Item.of T.cl_Item hy, kit_self, true, rfl, iteT ?_⟩
      refine ⟨_, rfl, x, _, dx, _, _, rfl, hx, T.cl_Item, T.n_Item__name, l_name, _, rfl, y, _, dy, _, _, rfl, hy, T.cl_Item, T.n_Item__name, l_name, rfl, _, rfl, ?_⟩
      rw [dV_str]
      by_cases e1 : nm = nm'
      · rw [decide_eq_true e1] at q ⊢
        refine iteT ⟨_, rfl, x, _, dx, _, _, rfl, hx, T.cl_Item, T.n_Item__least, l_least, _, rfl, y, _, dy, _, _, rfl, hy, T.cl_Item, T.n_Item__least, l_least, rfl, _, rfl, ?_⟩
        rw [dV_int]
        by_cases e2 : lo = lo'
        · rw [decide_eq_true e2] at q ⊢
          refine iteT ⟨_, rfl, x, _, dx, _, _, rfl, hx, T.cl_Item, T.n_Item__greatest, l_greatest, _, rfl, y, _, dy, _, _, rfl, hy, T.cl_Item, T.n_Item__greatest, l_greatest, rfl, _, rfl, ?_⟩
          rw [dV_int]
          by_cases e3 : hi = hi'
          · rw [decide_eq_true e3] at q ⊢
            refine iteT ⟨_, rfl, x, _, dx, _, _, rfl, hx, T.cl_Item, T.n_Item__price, l_price, _, rfl, y, _, dy, _, _, rfl, hy, T.cl_Item, T.n_Item__price, l_price, rfl, ?_⟩
            rw [dV_int]
            exact q
          · rw [decide_eq_false e3] at q ⊢
            exact iteF q
        · rw [decide_eq_false e2] at q ⊢
          exact iteF q
      · rw [decide_eq_false e1] at q ⊢
        exact iteF q

def shownV (nm : Str) (lo hi pr : Int) : List V := [.str nm, .int lo, .int hi, .int pr, .bl (decide (lo = hi)), valV lo hi]
/-- the properties, in a new list -/
def spShown (C : Addr) : Sp := fun vs H Q _ => ∃ x nm lo hi pr, vs = [.ref x] ∧ ItemAt C H x nm lo hi pr ∧
  ∀ q, H q = none → Q (.ref q) (upd H q (.lst (shownV nm lo hi pr)))
theorem ok_shown (T : Txt K mg a) : FnOk P w K mg base CX0 5 a.f__law_shown a.d__law_shown ["item"] (spShown a.c_Item) := by
  have G_name : FnOk P w K mg base CX0 1 a.f_Item_name a.d_Item_name ["self"] (spName a.c_Item) := ok_name T
  have G_least : FnOk P w K mg base CX0 1 a.f_Item_least a.d_Item_least ["self"] (spLeast a.c_Item) := ok_least T
  have G_greatest : FnOk P w K mg base CX0 1 a.f_Item_greatest a.d_Item_greatest ["self"] (spGreatest a.c_Item) := ok_greatest T
  have G_price : FnOk P w K mg base CX0 1 a.f_Item_price a.d_Item_price ["self"] (spPrice a.c_Item) := ok_price T
  have G_is_exact : FnOk P w K mg base CX0 1 a.f_Item_is_exact a.d_Item_is_exact ["self"] (spIsExact a.c_Item) := ok_is_exact T
  have G_value : FnOk P w K mg base CX0 3 a.f_Item_value a.d_Item_value ["self"] (spValue a.c_Item) := ok_value T
  refine T.F__law_shown.ok sc__law_shown (fun vs H Q E h => ?_) (fun cdv A outer s H vs Q E hr h => ?_)
  · obtain ⟨x, nm, lo, hi, pr, rfl, _⟩ := h
    rfl
  · obtain ⟨x, nm, lo, hi, pr, rfl, ix, k⟩ := h
    obtain ⟨dx, hx⟩ := id ix
    refine ⟨_, (pss_one (ps_ret (pe_lst (pa_cons (pe_prop (pv 0) T.cl_Item T.m_Item_name G_name (hr.mono (by decide)) T.b_Item_name .nil pass0 rfl) (pa_cons (pe_prop (pv 0) T.cl_Item T.m_Item_least G_least (hr.mono (by decide)) T.b_Item_least .nil pass0 rfl) (pa_cons (pe_prop (pv 0) T.cl_Item T.m_Item_greatest G_greatest (hr.mono (by decide)) T.b_Item_greatest .nil pass0 rfl) (pa_cons (pe_prop (pv 0) T.cl_Item T.m_Item_price G_price (hr.mono (by decide)) T.b_Item_price .nil pass0 rfl) (pa_cons (pe_prop (pv 0) T.cl_Item T.m_Item_is_exact G_is_exact (hr.mono (by decide)) T.b_Item_is_exact .nil pass0 rfl) (pa_cons (pe_prop (pv 0) T.cl_Item T.m_Item_value G_value (hr.mono (by decide)) T.b_Item_value .nil pass0 rfl) pa_nil))))))))), ?_⟩
    refine ⟨_, rfl, x, dx, _, rfl, hx, x, _, _, _, _, rfl, ix, ?_⟩
    refine ⟨_, rfl, x, dx, _, rfl, hx, x, _, _, _, _, rfl, ix, ?_⟩
    refine ⟨_, rfl, x, dx, _, rfl, hx, x, _, _, _, _, rfl, ix, ?_⟩
    refine ⟨_, rfl, x, dx, _, rfl, hx, x, _, _, _, _, rfl, ix, ?_⟩
    refine ⟨_, rfl, x, dx, _, rfl, hx, x, _, _, _, _, rfl, ix, ?_⟩
    refine ⟨_, rfl, x, dx, _, rfl, hx, x, _, _, _, _, rfl, ix, ?_⟩
    exact ⟨by show 6 ≤ sizeLine; decide, fun q hq => k q hq⟩
theorem init_kw (T : Txt K mg a) : ∃ mv : List Value, KBn K a.d_Item___init__ ["self", "name", "least", "greatest", "price"] 4 ["price"] (fun us ws => us ++ ws) (fun vs zs => vs ++ zs) := by
  refine T.F_Item___init__.kbinds0 (ps := ["self", "name", "least", "greatest", "price"]) 4 ["price"] [] (fun us _ ws => us ++ ws) (by simp) (by simp) (fun h1 _ h3 => h1.append h3) ?_
  intro D doc pm an cdv ct us mv ws l1 l2 l3
  match us, mv, ws, l1, l2, l3 with
  | [_, _, _, _], [], [_], _, _, _ => rfl
theorem init_kw0 (T : Txt K mg a) : ∃ mv : List Value, KBn K a.d_Item___init__ ["self", "name", "least", "greatest", "price"] 1 ["greatest", "name", "least"] (fun us ws => us ++ ((ws.drop 1 ++ ws.take 1) ++ mv)) (fun vs zs => vs ++ ((zs.drop 1 ++ zs.take 1) ++ [.int 1])) := by
  refine T.F_Item___init__.kbinds0 (ps := ["self", "name", "least", "greatest", "price"]) 1 ["greatest", "name", "least"] [("price", .int 1)] (fun us mz ws => us ++ ((ws.drop 1 ++ ws.take 1) ++ mz)) (by simp) (by simp) (fun h1 h2 h3 => h1.append (((vals_drop 1 h3).append (vals_take 1 h3)).append h2)) ?_
  intro D doc pm an cdv ct us mv ws l1 l2 l3
  match us, mv, ws, l1, l2, l3 with
  | [_], [_], [_, _, _], _, _, _ => exact ⟨_, _, _, _, _, _, rfl, rfl, rfl⟩
theorem exact_kw (T : Txt K mg a) : KBn K a.d_Item_exact ["cls", "name", "value"] 1 ["value", "name"] (fun us ws => us ++ (ws.drop 1 ++ ws.take 1)) (fun vs zs => vs ++ (zs.drop 1 ++ zs.take 1)) := by
  refine Fun.kb T.F_Item_exact 1 ["value", "name"] (fun us ws => us ++ (ws.drop 1 ++ ws.take 1)) (fun h1 h3 => h1.append ((vals_drop 1 h3).append (vals_take 1 h3))) ?_
  intro kV doc pm an cdv ct us ws l1 l2
  match us, ws, l1, l2 with
  | [_], [_, _], _, _ => rfl
end
end Ask

set_option Elab.async false
set_option linter.all false
set_option maxRecDepth 100000
set_option maxHeartbeats 8000000
namespace Ask
open PySem L2
open PyProof.Rows
section
variable {P : Program} {w : World} {K : PySem.W.Frag} {mg : Str → Option Value} {base : Heap} {a : Ad}
theorem made {H H' : Hp} {C x dx : Addr} (hx : H x = none) (hdx : H dx = none) (hb : But x (upd (upd H dx (.own x)) x (.ins C dx [])) H') : Same H H' := by
  intro b o e
  refine hb b o (ne_of_none e hx) ?_
  rw [upd_ne (ne_of_none e hx), upd_ne (ne_of_none e hdx)]
  exact e
theorem not_self {K : PySem.W.Frag} {C : Addr} : PySem.W.notFirst K C (.ref C) = true := by
  unfold PySem.W.notFirst
  simp
theorem ok_law (T : Txt K mg a) : GOk P w K mg base CX0 8 a.f_law a.d_law ["script"] (spLaw K) := by
  have G_law_pen : FnOk P w K mg base CX0 1 a.f__law_pen a.d__law_pen ["script"] (spPen K) := ok_pen T
  have G_law_draw : FnOk P w K mg base CX0 2 a.f__law_draw a.d__law_draw ["pen", "below"] spDraw := ok_draw T
  have G_law_shown : FnOk P w K mg base CX0 5 a.f__law_shown a.d__law_shown ["item"] (spShown a.c_Item) := ok_shown T
  have G_init : FnOk P w K mg base CX0 3 a.f_Item___init__ a.d_Item___init__ ["self", "name", "least", "greatest", "price"] (spInit a.c_Item) := ok_init T
  have G_exact : FnOk P w K mg base CX0 5 a.f_Item_exact a.d_Item_exact ["cls", "name", "value"] (spExact a.c_Item) := ok_exact T
  have G_price : FnOk P w K mg base CX0 1 a.f_Item_price a.d_Item_price ["self"] (spPrice a.c_Item) := ok_price T
  have G_eq : FnOk P w K mg base CX0 1 a.f_Item___eq__ a.d_Item___eq__ ["self", "other"] (spEqI a.c_Item K) := ok_eq T
  obtain ⟨mv, hkb⟩ := init_kw T
  obtain ⟨mw, hk0⟩ := init_kw0 T
  refine gok_fun T.F_law sc_law (fun vs H Q E h => ?_) (fun cdv A outer s H vs Q E hr hgd h => ?_)
  · obtain ⟨sc, ns, rfl, _⟩ := h
    rfl
  · obtain ⟨sc, ns, rfl, hS, hns, k⟩ := h
    have nd := sc_law.nd
    refine ⟨_, (pss_cons (ps_set (i := 1) nd rfl (Or.inl rfl) (pe_call G_law_pen (hr.mono (by decide)) rfl T.g__law_pen T.F__law_pen.kp T.b__law_pen .nil pass0 (pa_cons (pv 0) pa_nil)))
  (pss_cons (ps_for PassesOwn.never rfl (pi_range1 rfl T.b_range (pa_cons pe_int pa_nil)) (pg_name (i := 2) nd rfl (Or.inl rfl))
    (pss_cons (ps_set (i := 3) nd rfl (Or.inl rfl) (pe_ix ix_list (pe_lst (pa_cons pe_str (pa_cons pe_str (pa_cons pe_str (pa_cons pe_str pa_nil))))) (pe_call G_law_draw (hr.mono (by decide)) rfl T.g__law_draw T.F__law_draw.kp T.b__law_draw .nil pass0 (pa_cons (pv 1) (pa_cons pe_int pa_nil))) (fun _ _ => rfl)))
  (pss_cons (ps_set (i := 4) nd rfl (Or.inl rfl) (pe_ix ix_list (pe_lst (pa_cons pe_int (pa_cons (pe_un un_neg pe_int) (pa_cons pe_int (pa_cons (pe_op op_sub (pe_op op_pow pe_int pe_int) pe_int) (pa_cons (pe_op op_sub pe_int (pe_op op_pow pe_int pe_int)) (pa_cons (pe_op op_sub (pe_call G_law_draw (hr.mono (by decide)) rfl T.g__law_draw T.F__law_draw.kp T.b__law_draw .nil pass0 (pa_cons (pv 1) (pa_cons pe_int pa_nil))) pe_int) pa_nil))))))) (pe_call G_law_draw (hr.mono (by decide)) rfl T.g__law_draw T.F__law_draw.kp T.b__law_draw .nil pass0 (pa_cons (pv 1) (pa_cons pe_int pa_nil))) (fun _ _ => rfl)))
  (pss_cons (ps_set (i := 5) nd rfl (Or.inl rfl) (pe_ix ix_list (pe_lst (pa_cons pe_int (pa_cons pe_int (pa_cons pe_int (pa_cons (pe_call G_law_draw (hr.mono (by decide)) rfl T.g__law_draw T.F__law_draw.kp T.b__law_draw .nil pass0 (pa_cons (pv 1) (pa_cons pe_int pa_nil))) pa_nil))))) (pe_call G_law_draw (hr.mono (by decide)) rfl T.g__law_draw T.F__law_draw.kp T.b__law_draw .nil pass0 (pa_cons (pv 1) (pa_cons pe_int pa_nil))) (fun _ _ => rfl)))
  (pss_cons (ps_set (i := 6) nd rfl (Or.inl rfl) (pe_ix ix_list (pe_lst (pa_cons pe_int (pa_cons pe_int (pa_cons pe_int (pa_cons (pe_op op_add pe_int (pe_call G_law_draw (hr.mono (by decide)) rfl T.g__law_draw T.F__law_draw.kp T.b__law_draw .nil pass0 (pa_cons (pv 1) (pa_cons pe_int pa_nil)))) pa_nil))))) (pe_call G_law_draw (hr.mono (by decide)) rfl T.g__law_draw T.F__law_draw.kp T.b__law_draw .nil pass0 (pa_cons (pv 1) (pa_cons pe_int pa_nil))) (fun _ _ => rfl)))
  (pss_cons (ps_set (i := 7) nd rfl (Or.inl rfl) (pe_makeK T.mk_Item G_init (hr.mono (by decide)) rfl T.g_Item hkb pass0 (pa_cons (pv 3) (pa_cons (pv 4) (pa_cons (pe_op op_add (pv 4) (pv 5)) pa_nil))) (pk_cons (pv 6) pk_nil)))
  (Evl.pss_cut (ps_set (i := 8) nd rfl (Or.inl rfl) (pe_ifExp (pt_cmpR op_gt (pv 5) pe_int (nomark _)) (pe_lst (pa_cons (pv 3) (pa_cons (pv 4) (pa_cons (pe_op op_add (pv 4) (pv 5)) (pa_cons (pv 6) (pa_cons pe_bl (pa_cons pe_non pa_nil))))))) (pe_lst (pa_cons (pv 3) (pa_cons (pv 4) (pa_cons (pv 4) (pa_cons pe_int (pa_cons pe_bl (pa_cons (pv 4) pa_nil)))))))))
  (pss_cons (ps_for PassesOwn.never rfl (pi_range1 rfl T.b_range (pa_cons pe_int pa_nil)) (pg_name (i := 9) nd rfl (Or.inl rfl))
    (pss_one (ps_if (pt_cmpR op_ne (pe_callB (cr_repr hgd hr.units) (by rfl) T.b_repr (by decide +kernel) (pa_cons (pe_call G_law_shown (hr.mono (by decide)) rfl T.g__law_shown T.F__law_shown.kp T.b__law_shown .nil pass0 (pa_cons (pv 7) pa_nil)) pa_nil)) (pe_callB (cr_repr hgd hr.units) (by rfl) T.b_repr (by decide +kernel) (pa_cons (pv 8) pa_nil)) (nomark _))
    (pss_one (ps_ret pe_bl))
    pss_nil)))
  (pss_cons (ps_set (i := 10) nd rfl (Or.inl rfl) (pe_makeK0 T.mk_Item G_init (hr.mono (by decide)) rfl T.g_Item hk0 pass0 (pk_cons (pe_op op_add (pv 4) (pv 5)) (pk_cons (pv 3) (pk_cons (pv 4) pk_nil)))))
  (Evl.pss_cut (ps_if (PW.pt (pw_or (pt_cmpR op_ne (pe_prop (pv 10) T.cl_Item T.m_Item_price G_price (hr.mono (by decide)) T.b_Item_price .nil pass0 rfl) (pe_ifExp (pt_cmpR op_gt (pv 5) pe_int (nomark _)) pe_int pe_int) (nomark _)) (pw_or1 (pt_cmpR op_ne (pe_cmpR (op_eqO G_eq (hr.mono (by decide)) T.eq_Item T.b_Item___eq__) (pv 10) (pv 7) (nomark _)) (pe_or (pe_cmpR op_eq (pv 5) pe_int (nomark _)) (pe_one (pe_cmpR op_eq (pv 6) pe_int (nomark _)))) (nomark _)))))
    (pss_one (ps_ret pe_bl))
    pss_nil)
  (pss_cons (ps_set (i := 11) nd rfl (Or.inl rfl) (ClX.pe_cmeth (pe_glob (v := .ref a.c_Item) rfl T.g_Item rfl) T.rd_Item T.m_Item_exact (G_exact.raw T.b_Item_exact .nil) (hr.mono (by decide)) pass0 (pa_cons (pv 3) (pa_cons (pv 4) pa_nil))))
  (Evl.pss_cut (ps_if (PW.pt (pw_or (pt_cmpR op_ne (pe_callB (cr_repr hgd hr.units) (by rfl) T.b_repr (by decide +kernel) (pa_cons (pe_call G_law_shown (hr.mono (by decide)) rfl T.g__law_shown T.F__law_shown.kp T.b__law_shown .nil pass0 (pa_cons (pv 11) pa_nil)) pa_nil)) (pe_callB (cr_repr hgd hr.units) (by rfl) T.b_repr (by decide +kernel) (pa_cons (pe_lst (pa_cons (pv 3) (pa_cons (pv 4) (pa_cons (pv 4) (pa_cons pe_int (pa_cons pe_bl (pa_cons (pv 4) pa_nil))))))) pa_nil)) (nomark _)) (pw_or1 (pt_cmpR op_ne (pe_cmpR (op_eqO G_eq (hr.mono (by decide)) T.eq_Item T.b_Item___eq__) (pv 11) (pv 7) (nomark _)) (pe_cmpR op_eq (pv 5) pe_int (nomark _)) (nomark _)))))
    (pss_one (ps_ret pe_bl))
    pss_nil)
  (pss_one (ps_if (PW.pt (pw_or (pt_cmpR (op_neO G_eq (hr.mono (by decide)) T.eq_Item T.b_Item___eq__) (pe_cmethK (pe_glob (v := .ref a.c_Item) rfl T.g_Item rfl) T.rd_Item T.m_Item_exact G_exact (hr.mono (by decide)) (exact_kw T) pass0 (pk_cons (pv 4) (pk_cons (pv 3) pk_nil))) (pv 11) (nomark _)) (pw_or (pt_cmpR (op_neO G_eq (hr.mono (by decide)) T.eq_Item T.b_Item___eq__) (ClX.pe_imethD (pv 7) T.i_Item_exact (G_exact.raw T.b_Item_exact .nil) (hr.mono (by decide)) pass0 (pa_cons (pv 3) (pa_cons (pv 4) pa_nil))) (pv 11) (nomark _)) (pw_or1 (pt_cmpR op_ne (pe_con (pv 7) rfl) pe_int (nomark _))))))
    (pss_one (ps_ret pe_bl))
    pss_nil))))))))))))))
  (pss_one (ps_ret (pe_cmpR op_eq (ClX.pe_cval (pe_glob (v := .ref a.c_Item) rfl T.g_Item rfl)) pe_int (nomark _)))))), ?_⟩
    refine ⟨_, rfl, sc, ns, rfl, hS, hns, fun p H1 hp0 b1 hp1 => ?_⟩
    refine ⟨20, rfl, by decide, by decide, for_range (lo := 0) (n := 20) (fun i σ H' => ∃ v2 v3 v4 v5 v6 v7 v8 v9 v10 v11 : Option V,
      σ = [some (.ref sc), some (.ref p), v2, v3, v4, v5, v6, v7, v8, v9, v10, v11] ∧ Pen H' p (i * 7)) ⟨none, none, none, none, none, none, none, none, none, none, rfl, hp1⟩ ?_ ?_⟩
    · rintro i σ H2 hi ⟨v2, v3, v4, v5, v6, v7, v8, v9, v10, v11, rfl, hp2⟩
      -- nym
      refine ⟨by show 4 ≤ sizeLine; decide, fun q1 hq1 => ?_⟩
      refine ⟨_, rfl, p, _, 4, rfl, hp2.new hq1, by omega, by decide, by decide, fun z1 H3 z0 z1 b3 hp3 => ?_⟩
      obtain ⟨v, hv, hm, hs, B3⟩ := Pen.pick (K := K) (H0 := H2) hp2 hq1 b3 z0 z1 rfl (But.refl p H2)
      refine ⟨q1, _, _, _, rfl, rfl, hs, hv, ?_⟩
      obtain ⟨nm, rfl, hnm, hnf⟩ : ∃ nm, v = V.str nm ∧ nameB nm = true ∧ Flat (.str nm) := by
        simp only [List.mem_cons, List.not_mem_nil, or_false] at hm
        rcases hm with rfl | rfl | rfl | rfl
        all_goals exact ⟨_, rfl, by decide +kernel, ⟨rfl, rfl, by decide +kernel, by decide +kernel⟩⟩
      clear hm hv hs
      -- spot
      refine ⟨_, rfl, ?_⟩
      refine ⟨_, _, rfl, rfl, ⟨by decide, by decide, by decide⟩, _, _, rfl, rfl, ?_⟩
      refine ⟨_, _, rfl, rfl, ⟨by decide, by decide, by decide⟩, _, _, rfl, rfl, ?_⟩
      refine ⟨_, rfl, p, _, 100, rfl, hp3, by omega, by decide, by decide, fun w1 H4 w0 w2 b4 hp4 => ?_⟩
      refine ⟨_, _, rfl, rfl, ?_⟩
      refine ⟨by show 6 ≤ sizeLine; decide, fun q2 hq2 => ?_⟩
      refine ⟨_, rfl, p, _, 6, rfl, hp4.new hq2, by omega, by decide, by decide, fun z2 H5 z0 z1 b5 hp5 => ?_⟩
      obtain ⟨v, hv, hm, hs, B5⟩ := Pen.pick (K := K) (H0 := H2) hp4 hq2 b5 z0 z1 rfl (B3.trans b4)
      refine ⟨q2, _, _, _, rfl, rfl, hs, hv, ?_⟩
      obtain ⟨lo, rfl, lo0, lo1⟩ : ∃ lo : Int, v = V.int lo ∧ -100000000000 ≤ lo ∧ lo ≤ 999999998000 := by
        simp only [List.mem_cons, List.not_mem_nil, or_false] at hm
        rcases hm with rfl | rfl | rfl | rfl | rfl | rfl
        · exact ⟨_, rfl, by decide, by decide⟩
        · exact ⟨_, rfl, by decide, by decide⟩
        · exact ⟨_, rfl, by decide, by decide⟩
        · exact ⟨_, rfl, by decide, by decide⟩
        · exact ⟨_, rfl, by decide, by decide⟩
        · exact ⟨_, rfl, by omega, by omega⟩
      clear hm hv hs
      -- size
      refine ⟨_, rfl, p, _, 1000, rfl, hp5, by omega, by decide, by decide, fun w3 H6 w4 w5 b6 hp6 => ?_⟩
      refine ⟨by show 4 ≤ sizeLine; decide, fun q3 hq3 => ?_⟩
      refine ⟨_, rfl, p, _, 4, rfl, hp6.new hq3, by omega, by decide, by decide, fun z3 H7 z0 z1 b7 hp7 => ?_⟩
      obtain ⟨v, hv, hm, hs, B7⟩ := Pen.pick (K := K) (H0 := H2) hp6 hq3 b7 z0 z1 rfl (B5.trans b6)
      refine ⟨q3, _, _, _, rfl, rfl, hs, hv, ?_⟩
      obtain ⟨sz, rfl, sz0, sz1⟩ : ∃ sz : Int, v = V.int sz ∧ 0 ≤ sz ∧ sz ≤ 999 := by
        simp only [List.mem_cons, List.not_mem_nil, or_false] at hm
        rcases hm with rfl | rfl | rfl | rfl
        · exact ⟨_, rfl, by decide, by decide⟩
        · exact ⟨_, rfl, by decide, by decide⟩
        · exact ⟨_, rfl, by decide, by decide⟩
        · exact ⟨_, rfl, by omega, by omega⟩
      clear hm hv hs
      -- cost
      refine ⟨_, rfl, p, _, 999, rfl, hp7, by omega, by decide, by decide, fun w6 H8 w7 w8 b8 hp8 => ?_⟩
      refine ⟨_, _, rfl, rfl, ?_⟩
      refine ⟨by show 4 ≤ sizeLine; decide, fun q4 hq4 => ?_⟩
      refine ⟨_, rfl, p, _, 4, rfl, hp8.new hq4, by omega, by decide, by decide, fun z4 H9 z0 z1 b9 hp9 => ?_⟩
      obtain ⟨v, hv, hm, hs, B9⟩ := Pen.pick (K := K) (H0 := H2) hp8 hq4 b9 z0 z1 rfl (B7.trans b8)
      refine ⟨q4, _, _, _, rfl, rfl, hs, hv, ?_⟩
      obtain ⟨co, rfl, co0, co1⟩ : ∃ co : Int, v = V.int co ∧ 1 ≤ co ∧ co ≤ 999 := by
        simp only [List.mem_cons, List.not_mem_nil, or_false] at hm
        rcases hm with rfl | rfl | rfl | rfl
        · exact ⟨_, rfl, by decide, by decide⟩
        · exact ⟨_, rfl, by decide, by decide⟩
        · exact ⟨_, rfl, by decide, by decide⟩
        · exact ⟨_, rfl, by omega, by omega⟩
      clear hm hv hs
      clear b3 b4 b5 b6 b7 b8 b9 hp3 hp4 hp5 hp6 hp7 hp8 B3 B5 B7 hq1 hq2 hq3 hq4
      -- item
      refine ⟨_, rfl, _, rfl, _, rfl, _, rfl, _, _, rfl, rfl, _, rfl, rfl, rfl, fun x dx hx hdx ne => ?_⟩
      refine ⟨x, dx, nm, lo, lo + sz, co, rfl, upd_same, hnm, by omega, co0, co1, fun H10 hb' hx' => ⟨rfl, ?_⟩⟩
      have S0 := made hx hdx hb'
      replace hp9 := hp9.same S0
      clear S0 hb' ne hdx hx
      -- due
      refine ⟨fun σ' H' => ∃ q w9 w10 w11, σ' = [some (.ref sc), some (.ref p), some (.int (0 + (i : Int))), some (.str nm), some (.int lo), some (.int sz), some (.int co), some (.ref x), some (.ref q), w9, w10, w11] ∧
        Same H10 H' ∧ H' q = some (.lst (shownV nm lo (lo + sz) (prI lo (lo + sz) co))), ?_, ?_⟩
      · refine ⟨_, rfl, _, _, rfl, rfl, _, rfl, ?_⟩
        by_cases e : sz > 0
        · rw [decide_eq_true e]
          refine iteT ⟨_, rfl, _, rfl, _, rfl, _, rfl, _, _, rfl, rfl, _, rfl, by show 6 ≤ sizeLine; decide, fun q hq => ?_⟩
          refine ⟨q, _, _, _, rfl, Same.new hq, ?_⟩
          rw [upd_same]
          have e1 : ¬ lo = lo + sz := by omega
          have e2 : prI lo (lo + sz) co = co := by
            unfold prI
            rw [if_neg e1]
          have e3 : valV lo (lo + sz) = .non := by
            unfold valV
            rw [if_neg e1]
          unfold shownV
          rw [e2, e3, decide_eq_false e1]
        · rw [decide_eq_false e]
          refine iteF ⟨_, rfl, _, rfl, _, rfl, _, rfl, by show 6 ≤ sizeLine; decide, fun q hq => ?_⟩
          refine ⟨q, _, _, _, rfl, Same.new hq, ?_⟩
          obtain rfl : sz = 0 := by omega
          rw [upd_same]
          have e1 : lo = lo + 0 := by omega
          have e2 : prI lo (lo + 0) co = 0 := by
            unfold prI
            rw [if_pos e1]
          have e3 : valV lo (lo + 0) = .int lo := by
            unfold valV
            rw [if_pos e1]
          unfold shownV
          rw [e2, e3, decide_eq_true e1, ← e1]
      · rintro σ' H11 ⟨q, w9, w10, w11, rfl, S11, hq⟩
        have hx11 := S11 _ _ hx'
        have hp11 := hp9.same S11
        clear hx' hp9 S11
        have fl : ∀ (l h pr : Int), -100000000000 ≤ l → l ≤ h → h ≤ 999999998999 → 0 ≤ pr → pr ≤ 999 → ∀ v ∈ shownV nm l h pr, Flat v := by
          intro l h pr l1 l2 l3 l4 l5 v hv
          unfold shownV at hv
          simp only [List.mem_cons, List.not_mem_nil, or_false] at hv
          rcases hv with rfl | rfl | rfl | rfl | rfl | rfl
          · exact hnf
          · show l.natAbs < 10 ^ 12
            omega
          · show h.natAbs < 10 ^ 12
            omega
          · show pr.natAbs < 10 ^ 12
            omega
          · trivial
          · unfold valV
            split
            · show l.natAbs < 10 ^ 12
              omega
            · trivial
        have pr0 : ∀ c : Int, 1 ≤ c → c ≤ 999 → 0 ≤ prI lo (lo + sz) c ∧ prI lo (lo + sz) c ≤ 999 := by
          intro c c0 c1
          unfold prI
          split <;> omega
        -- twice shown
        refine ⟨2, rfl, by decide, by decide, for_range (lo := 0) (n := 2) (fun _ σ H' => ∃ w9 w10 w11, σ = [some (.ref sc), some (.ref p), some (.int (0 + (i : Int))), some (.str nm), some (.int lo), some (.int sz), some (.int co), some (.ref x), some (.ref q), w9, w10, w11] ∧
          Same H11 H') ⟨_, _, _, rfl, Same.refl H11⟩ ?_ ?_⟩
        · rintro j σ H12 hj ⟨w9, w10, w11, rfl, S12⟩
          refine ⟨_, rfl, x, nm, lo, lo + sz, _, rfl, ⟨dx, S12 _ _ hx11⟩, fun q2 hq2 => ?_⟩
          have S13 := Same.grow S12 hq2 (o := .lst (shownV nm lo (lo + sz) (prI lo (lo + sz) co)))
          have f := fl lo (lo + sz) _ lo0 (by omega) (by omega) (pr0 co co0 co1).1 (pr0 co co0 co1).2
          refine repr_flats upd_same f (show 6 ≤ 100 by decide) ?_
          refine ⟨_, rfl, ?_⟩
          refine repr_flats (S13 _ _ hq) f (show 6 ≤ 100 by decide) ?_
          refine ⟨rfl, _, rfl, ?_⟩
          rw [decide_eq_true rfl]
          exact iteF ⟨_, _, _, rfl, S13⟩
        · rintro σ H12 ⟨w9, w10, w11, rfl, S12⟩
          have hx12 := S12 _ _ hx11
          have hp12 := hp11.same S12
          clear S12 hq hx11 hp11
          have IX : ∀ H', Same H12 H' → ItemAt a.c_Item H' x nm lo (lo + sz) (prI lo (lo + sz) co) := fun H' s => ⟨dx, s _ _ hx12⟩
          have KX : ∀ H', Same H12 H' → Kind K a.c_Item (.ref x) H' := fun H' s => .inr (.inr (.inr (.inr (.inr (.inr (.inr ⟨x, a.c_Item, dx, _, rfl, s _ _ hx12, not_self⟩))))))
          -- plain
          refine ⟨_, rfl, _, rfl, _, _, rfl, rfl, _, rfl, _, rfl, rfl, rfl, fun y dy hy hdy ne => ?_⟩
          refine ⟨y, dy, nm, lo, lo + sz, 1, rfl, upd_same, hnm, by omega, by decide, by decide, fun H13 hb' hy' => ⟨rfl, ?_⟩⟩
          have S13 := made hy hdy hb'
          have IY : ∀ H', Same H13 H' → ItemAt a.c_Item H' y nm lo (lo + sz) (prI lo (lo + sz) 1) := fun H' s => ⟨dy, s _ _ hy'⟩
          have hE : (decide (nm = nm) && decide (lo = lo) && decide (lo + sz = lo + sz) && decide (prI lo (lo + sz) 1 = prI lo (lo + sz) co)) = (decide (sz = 0) || decide (co = 1)) := by
            rw [decide_eq_true rfl, decide_eq_true rfl, decide_eq_true rfl, Bool.true_and, Bool.true_and, Bool.true_and]
            unfold prI
            by_cases e : sz = 0
            · rw [if_pos (by omega), if_pos (by omega), decide_eq_true e, decide_eq_true rfl, Bool.true_or]
            · rw [if_neg (by omega), if_neg (by omega), decide_eq_false e, Bool.false_or]
              congr 1
              exact propext eq_comm
          refine ⟨fun σ' H' => σ' = [some (.ref sc), some (.ref p), some (.int (0 + (i : Int))), some (.str nm), some (.int lo), some (.int sz), some (.int co), some (.ref x), some (.ref q), w9, some (.ref y), w11] ∧ H' = H13, ?_, ?_⟩
          · refine ⟨_, rfl, y, dy, _, rfl, hy', y, _, _, _, _, rfl, IY _ (Same.refl _), _, rfl, _, _, rfl, rfl, _, rfl, ?_⟩
            by_cases e : sz > 0
            case' pos =>
              rw [decide_eq_true e]
              refine iteT ⟨rfl, _, rfl, ?_⟩
              rw [show prI lo (lo + sz) 1 = 1 from by unfold prI; rw [if_neg (by omega)], decide_eq_true rfl]
            case' neg =>
              rw [decide_eq_false e]
              refine iteF ⟨rfl, _, rfl, ?_⟩
              rw [show prI lo (lo + sz) 1 = 0 from by unfold prI; rw [if_pos (by omega)], decide_eq_true rfl]
            all_goals
              refine iteF ?_
              refine ⟨_, rfl, _, rfl, y, dy, _, rfl, hy', KX _ S13, y, _, _, _, _, _, _, rfl, IY _ (Same.refl _), .inr ⟨x, _, _, _, _, rfl, IX _ S13, hE.symm⟩, _, rfl, ?_⟩
              refine ⟨_, rfl, rfl, _, rfl, ?_⟩
              rw [dV_int]
              by_cases h0 : sz = 0
              · rw [decide_eq_true h0, Bool.true_or]
                refine iteT ⟨rfl, _, rfl, ?_⟩
                rw [decide_eq_true rfl]
                exact iteF ⟨rfl, rfl⟩
              · rw [decide_eq_false h0, Bool.false_or]
                refine iteF ⟨_, rfl, rfl, rfl, _, rfl, ?_⟩
                rw [dV_int, decide_eq_true rfl]
                exact iteF ⟨rfl, rfl⟩
          · rintro σ' H' ⟨rfl, rfl⟩
            -- exact
            refine ⟨rfl, _, rfl, _, rfl, nm, lo, rfl, hnm, fun z H14 hz s14 iz => ?_⟩
            obtain ⟨dz, iz⟩ := iz
            have S14 := S13.trans s14
            have IZ : ∀ H', Same H14 H' → ItemAt a.c_Item H' z nm lo lo 0 := fun H' s => ⟨dz, s _ _ iz⟩
            have eS : shownV nm lo lo 0 = [.str nm, .int lo, .int lo, .int 0, .bl true, .int lo] := by
              unfold shownV valV
              rw [if_pos rfl, decide_eq_true rfl]
            have hE2 : (decide (nm = nm) && decide (lo = lo) && decide (lo = lo + sz) && decide (0 = prI lo (lo + sz) co)) = decide (sz = 0) := by
              rw [decide_eq_true rfl, decide_eq_true rfl, Bool.true_and, Bool.true_and]
              unfold prI
              by_cases e : sz = 0
              · rw [if_pos (by omega), decide_eq_true (show lo = lo + sz by omega), decide_eq_true e, decide_eq_true rfl, Bool.true_and]
              · rw [decide_eq_false (show ¬ lo = lo + sz by omega), decide_eq_false e, Bool.false_and]
            refine ⟨fun σ' H' => σ' = [some (.ref sc), some (.ref p), some (.int (0 + (i : Int))), some (.str nm), some (.int lo), some (.int sz), some (.int co), some (.ref x), some (.ref q), w9, some (.ref y), some (.ref z)] ∧ Same H14 H', ?_, ?_⟩
            · refine ⟨_, rfl, z, nm, lo, lo, 0, rfl, IZ _ (Same.refl _), fun q2 hq2 => ?_⟩
              have f := fl lo lo 0 lo0 (by omega) (by omega) (by decide) (by decide)
              have S15 := Same.grow (Same.refl H14) hq2 (o := .lst (shownV nm lo lo 0))
              refine repr_flats upd_same f (show 6 ≤ 100 by decide) ?_
              refine ⟨_, rfl, _, rfl, _, rfl, _, rfl, by show 6 ≤ sizeLine; decide, fun q3 hq3 => ?_⟩
              rw [eS] at f S15 hq3 ⊢
              have S16 := Same.grow S15 hq3 (o := .lst [.str nm, .int lo, .int lo, .int 0, .bl true, .int lo])
              refine repr_flats upd_same f (show 6 ≤ 100 by decide) ?_
              refine ⟨rfl, _, rfl, ?_⟩
              rw [decide_eq_true rfl]
              refine iteF ?_
              refine ⟨_, rfl, _, rfl, z, dz, _, rfl, S16 _ _ iz, KX _ (S14.trans S16), z, _, _, _, _, _, _, rfl, IZ _ S16, .inr ⟨x, _, _, _, _, rfl, IX _ (S14.trans S16), hE2.symm⟩, _, rfl, ?_⟩
              refine ⟨_, rfl, rfl, rfl, _, rfl, ?_⟩
              rw [dV_int, decide_eq_true rfl]
              exact iteF ⟨rfl, S16⟩
            · rintro σ' H15 ⟨rfl, s15⟩
              have S15 := S14.trans s15
              have eT : (decide (nm = nm) && decide (lo = lo) && decide (lo = lo) && decide ((0 : Int) = 0)) = true := by
                rw [decide_eq_true rfl, decide_eq_true rfl, decide_eq_true rfl]
                rfl
              refine ⟨rfl, _, rfl, _, rfl, rfl, nm, lo, rfl, hnm, fun u H16 hu s16 iu => ?_⟩
              obtain ⟨du, iu⟩ := iu
              have S16 := S15.trans s16
              refine ⟨_, rfl, u, z, du, dz, _, _, rfl, rfl, iu, s16 _ _ (s15 _ _ iz), u, _, _, _, _, _, _, rfl, ⟨du, iu⟩, .inr ⟨z, _, _, _, _, rfl, IZ _ (s15.trans s16), eT.symm⟩, _, rfl, _, rfl, ?_⟩
              refine iteF ?_
              obtain ⟨tk, con⟩ := T.co_Item_MOST
              refine ⟨_, rfl, x, dx, _, rfl, S16 _ _ hx12, by with_unfolding_all rfl, _, rfl, _, rfl, nm, lo, rfl, hnm, fun g H17 hg s17 ig => ?_⟩
              obtain ⟨dg, ig⟩ := ig
              have S17 := S16.trans s17
              refine ⟨_, rfl, g, z, dg, dz, _, _, rfl, rfl, ig, s17 _ _ (s16 _ _ (s15 _ _ iz)), g, _, _, _, _, _, _, rfl, ⟨dg, ig⟩, .inr ⟨z, _, _, _, _, rfl, IZ _ ((s15.trans s16).trans s17), eT.symm⟩, _, rfl, _, rfl, ?_⟩
              refine iteF ?_
              refine ⟨_, rfl, x, a.c_Item, dx, _, _, tk, rfl, S17 _ _ hx12, T.cl_Item, con, by with_unfolding_all rfl, rfl, _, rfl, ?_⟩
              rw [dV_int, decide_eq_true rfl]
              exact iteF ⟨_, _, _, _, _, _, _, _, _, _, rfl, (hp12.same S17).mono (by omega)⟩
    · rintro σ H2 ⟨v2, v3, v4, v5, v6, v7, v8, v9, v10, v11, rfl, hp2⟩
      obtain ⟨u, cv⟩ := T.cv_Item_MOST
      refine ⟨_, _, _, u, rfl, T.rd_Item, cv, rfl, ?_⟩
      rw [decide_eq_true rfl]
      exact k H2
end
end Ask

open PySem PySem.W PyProof.Rows
set_option Elab.async false
set_option linter.all false
set_option maxRecDepth 100000
set_option maxHeartbeats 0
theorem PySem.Challenge.cw_askranges_k02_items_made_holds : PySem.Challenge.rw_askranges_k02_items_made.Holds := by
  w_on; o_law; k_head; (case hw => w_witness2)
  k_fill
  refine Ask.walk_law (l := PySem.Challenge.rw_askranges_k02_items_made) (k := 8) rfl rfl ⟨rfl, by decide, by decide⟩ (fun w h Y => PySem.W.kIn_of Y) ?F
  case F =>
    intro w mg fa h KX G hmg
    obtain ⟨a, T⟩ : ∃ a, Ask.Txt _ mg a := by
      refine' Ask.txt_get KX G ?a11 ?l12 ?c13 ?k14 ?a25 ?l26 ?c27 ?k28 ?a30 ?pg31 ?hd32 ?po33 ?sa34 ?rd35 ?ga36 ?fa38 ?gt39 ?cv40 ?a51 ?i52 ?mk53 ?kc54 ?l55 ?c56 ?k57 ?q59 ?a72 ?rc73 ?l74 ?c75 ?k76 ?fi77 ?pg78 ?ic79 ?a80 ?ty81 ?gt82 ?tk83 ?a96 ?rc97 ?l98 ?c99 ?k100 ?a113 ?gt114 ?tk115 ?rc116 ?l117 ?c118 ?k119 ?a132 ?gt133 ?tk134 ?rc135 ?l136 ?c137 ?k138 ?a151 ?gt152 ?tk153 ?rc154 ?l155 ?c156 ?k157 ?a170 ?gt171 ?tk172 ?rc173 ?l174 ?c175 ?k176 ?a189 ?gt190 ?tk191 ?rc192 ?l193 ?c194 ?k195 ?a208 ?gt209 ?tk210 ?rc211 ?l212 ?c213 ?k214 ?a225 ?i226 ?l227 ?c228 ?k229 ?lc246 ?no247 ?ee248 ?en249 ?na250 ?na251 ?na252 ?na253 ?ha254 ?hn255 ?ht256 ?hm257 ?kt258 ?kd259 ?a270 ?l271 ?c272 ?k273 ?a284 ?l285 ?c286 ?k287 ?a298 ?l299 ?c300 ?k301 ?a312 ?l313 ?c314 ?k315 ?a326 ?l327 ?c328 ?k329 ?a331 ?z332 ?z333 ?z334 ?z335 ?z336 ?z337 ?z338 ?z339 ?z340
      (case a11 => k_is)
      (case l12 => k_is)
      (case c13 => k_is)
      (case k14 => k_is)
      (case a25 => k_is)
      (case l26 => k_is)
      (case c27 => k_is)
      (case k28 => k_is)
      (case a30 => k_is)
      (case pg31 => k_is)
      (case hd32 => k_is)
      (case po33 => k_is)
      (case sa34 => k_is)
      (case rd35 => k_is)
      (case ga36 => k_is)
      (case fa38 => k_is)
      (case gt39 => k_is)
      (case cv40 => k_is)
      (case a51 => k_is)
      (case i52 => k_is)
      (case mk53 => k_is)
      (case kc54 => k_is)
      (case l55 => k_is)
      (case c56 => k_is)
      (case k57 => k_is)
      (case q59 => k_is)
      (case a72 => k_is)
      (case rc73 => k_is)
      (case l74 => k_is)
      (case c75 => k_is)
      (case k76 => k_is)
      (case fi77 => k_is)
      (case pg78 => k_is)
      (case ic79 => k_is)
      (case a80 => k_is)
      (case ty81 => k_is)
      (case gt82 => k_is)
      (case tk83 => k_is)
      (case a96 => k_is)
      (case rc97 => k_is)
      (case l98 => k_is)
      (case c99 => k_is)
      (case k100 => k_is)
      (case a113 => k_is)
      (case gt114 => k_is)
      (case tk115 => k_is)
      (case rc116 => k_is)
      (case l117 => k_is)
      (case c118 => k_is)
      (case k119 => k_is)
      (case a132 => k_is)
      (case gt133 => k_is)
      (case tk134 => k_is)
      (case rc135 => k_is)
      (case l136 => k_is)
      (case c137 => k_is)
      (case k138 => k_is)
      (case a151 => k_is)
      (case gt152 => k_is)
      (case tk153 => k_is)
      (case rc154 => k_is)
      (case l155 => k_is)
      (case c156 => k_is)
      (case k157 => k_is)
      (case a170 => k_is)
      (case gt171 => k_is)
      (case tk172 => k_is)
      (case rc173 => k_is)
      (case l174 => k_is)
      (case c175 => k_is)
      (case k176 => k_is)
      (case a189 => k_is)
      (case gt190 => k_is)
      (case tk191 => k_is)
      (case rc192 => k_is)
      (case l193 => k_is)
      (case c194 => k_is)
      (case k195 => k_is)
      (case a208 => k_is)
      (case gt209 => k_is)
      (case tk210 => k_is)
      (case rc211 => k_is)
      (case l212 => k_is)
      (case c213 => k_is)
      (case k214 => k_is)
      (case a225 => k_is)
      (case i226 => k_is)
      (case l227 => k_is)
      (case c228 => k_is)
      (case k229 => k_is)
      (case lc246 => k_is)
      (case no247 => exact Ask.nsOk_of (by k_is) (by rfl))
      (case ee248 => k_is)
      (case en249 => k_is)
      (case na250 => k_is)
      (case na251 => k_is)
      (case na252 => k_is)
      (case na253 => k_is)
      (case ha254 => k_is)
      (case hn255 => k_is)
      (case ht256 => k_is)
      (case hm257 => k_is)
      (case kt258 => (intro t ht; simp only [Ask.kinds, List.mem_cons, List.not_mem_nil, or_false] at ht; rcases ht with rfl | rfl | rfl | rfl | rfl | rfl | rfl <;> exact Ask.kit_not (by k_is) (by k_is) (by k_is)))
      (case kd259 => (intro t ht; simp only [Ask.kinds, List.mem_cons, List.not_mem_nil, or_false] at ht; rcases ht with rfl | rfl | rfl | rfl | rfl | rfl | rfl <;> k_is))
      (case a270 => k_is)
      (case l271 => k_is)
      (case c272 => k_is)
      (case k273 => k_is)
      (case a284 => k_is)
      (case l285 => k_is)
      (case c286 => k_is)
      (case k287 => k_is)
      (case a298 => k_is)
      (case l299 => k_is)
      (case c300 => k_is)
      (case k301 => k_is)
      (case a312 => k_is)
      (case l313 => k_is)
      (case c314 => k_is)
      (case k315 => k_is)
      (case a326 => k_is)
      (case l327 => k_is)
      (case c328 => k_is)
      (case k329 => k_is)
      (case a331 => k_is)
      (case z332 => k_is)
      (case z333 => k_is)
      (case z334 => k_is)
      (case z335 => k_is)
      (case z336 => k_is)
      (case z337 => k_is)
      (case z338 => k_is)
      (case z339 => k_is)
      (case z340 => k_is)
    cases hmg.symm.trans T.g_law
    exact ⟨_, Ask.bind_script T.F_law fun _ _ _ _ _ _ _ => rfl, fun base _ _ => Ask.ok_law T⟩

