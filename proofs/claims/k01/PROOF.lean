import PyProof.Rows.All
import Wide.All
import OpenK.AllK
import Wide.FinOn
import HandS.ForMost
import HandS.Defaults
import HandS.IsInst
import HandS.Flow
import HandS.Codes
import HandS.TryOnly
import PyProof.ReprRoads
import PyProof.CallFns
import HandS.ExcInit
import HandS.ExcIs
import HandS.ExcField
import HandS.ExcValue
import KE.KExcIs
import HandS.MakeKwOnly
import HandS.HotCalls
import HandS.Walk
import HandS.TupLe
import HandS.WordsExc
import HandS.ForExc
import PySem.Challenge.RW_instances_k01_errors_each_of_its_own
set_option Elab.async false
set_option linter.all false
set_option maxRecDepth 100000
set_option maxHeartbeats 4000000
/-! A layer of our own over HandS: promises of defs that are kept where nothing is being shown (so that repr of data may be asked for in them). -/
namespace Q0
open PySem PySem.Spec PyProof.Rows L2

/-- nothing is being shown around -/
abbrev Qt (A : Around) : Prop := A.guards = some []

/-- a def's promise, kept where nothing is being shown -/
structure Fn (P : Program) (w : World) (K : PySem.W.Frag) (mg : Str → Option Value) (base : Heap)
    (CX : CXT) (k : Nat) (f : Addr) (fd : FuncData) (ps : List Str) (sp : Sp) : Prop where
  len : ∀ vs H Q E, sp vs H Q E → vs.length = ps.length
  run : ∀ (A : Around) (outer : List Env) (s : Shared) (H : Hp) (args : Args) (us : List Value)
    (vs : List V) (Q : VK) (E : XK), Room k A → Qt A → Env0 P w K mg base A outer s H →
    BindsTo s fd args (ps.zip us) → Vals vs us → sp vs H Q E →
    codeAny (model P w) A (.call (.ref f) args) (CR CX outer P w H s Q E) s

section
variable {P : Program} {w : World} {K : PySem.W.Frag} {mg : Str → Option Value} {base : Heap} {CX : CXT}
  {k j : Nat} {f : Addr} {fd : FuncData} {ps : List Str} {sp sp' : Sp}
theorem Fn.mono (F : Fn P w K mg base CX j f fd ps sp) (h : j ≤ k) : Fn P w K mg base CX k f fd ps sp :=
  ⟨F.len, fun A outer s H args us vs Q E hr hq => F.run A outer s H args us vs Q E (hr.mono h) hq⟩
theorem Fn.imp (F : Fn P w K mg base CX k f fd ps sp) (h : ∀ vs H Q E, sp' vs H Q E → sp vs H Q E) :
    Fn P w K mg base CX k f fd ps sp' :=
  ⟨fun vs H Q E q => F.len vs H Q E (h _ _ _ _ q), fun A outer s H args us vs Q E hr hq he hb hv hs =>
    F.run A outer s H args us vs Q E hr hq he hb hv (h _ _ _ _ hs)⟩

/-- a def by its body; an exception that leaves it is told by CX -/
theorem fun_qX {x qual : Str} {st : Stmt} {N : List Str} (F : Fun K x qual st f fd) (S : FnScope N ps (defScope st))
    (len : ∀ vs H Q E, sp vs H Q E → vs.length = ps.length)
    (hbody : ∀ (cdv : Value) (A : Around) (outer : List Env) (s : Shared) (H : Hp) (vs : List V) (Q : VK) (E : XK),
      Room k (A.deeper (envOfC qual (defScope st) s.heap.objs.size f cdv)) → Qt A → sp vs H Q E →
      ∃ t, PSs (cxOf CX P w K mg base N qual (defScope st) f cdv A outer s H E) (defBody st) t ∧
        t { nx := fun _ H' => Q .non H', rt := Q } (start N vs) H) :
    Fn P w K mg base CX (k + 1) f fd ps sp := by
  obtain ⟨oc, od, kV, doc, pm, an, cdv, ct, osl, rfl, lk, hcd⟩ := F.ex
  refine ⟨len, fun A outer s H args us vs Q E hr hq e0 hb r hsp => ?_⟩
  have old : ∀ b o, base.get? b = some o → s.heap.get? b = some o := fun b o e => (e0.bs b o e).1
  have KX : K.In s.heap := e0.mod.kin.keeps old
  have hkind : ∀ y ∈ ps.zip us, (defScope st).names.lookup y.1 = some .local ∨
      ((defScope st).names.lookup y.1 = some .cell ∧
        ((cellsFrom (s.heap.objs.size + 1) (defScope st).names []).lookup y.1).isSome = true) := by
    intro ⟨n, v⟩ hy
    cases S.par n (List.of_mem_zip hy).1 with
    | inl q => exact .inl q
    | inr q => exact .inr ⟨q, PySem.W.cellsFrom_some _ _ _ (.inl q)⟩
  refine codeAny_call_function hr.depth (KX _ _ lk) rfl S.co S.gen rfl (PySem.W.codeRec_of KX hcd) (hb _ _ _ _ ?_)
  refine wpAny_newFunctionEnv_cells S.kind hkind fun env he s1 x => ?_
  subst he
  refine ⟨(e0.mod.nolimit.keeps old).keeps x.toInCall.keep, codeAny_func ?_⟩
  obtain ⟨t, ht, ht2⟩ := hbody cdv A outer s H vs Q E (hr.deeper _) hq hsp
  have I := inv_start (CX := CX) (E := E) (qual := qual) (f := f) (cd := cdv) S hr.hd e0 (len _ _ _ _ hsp) r x
  refine wpAny_mono (ht.run [] s1 (start N vs) H _ I ht2) (fun fl s' hs => ?_) fun e s' hs => hs
  cases fl with
  | ret u =>
    obtain ⟨v, σ', H', J, rv, q⟩ := hs
    exact (⟨v, H', J.os, J.bare, J.base, J.hok, rv, q⟩ : CE outer P w H s Q u s')
  | next =>
    obtain ⟨σ', H', J, q⟩ := hs
    exact (⟨V.non, H', J.os, J.bare, J.base, J.hok, rfl, q⟩ : CE outer P w H s Q Value.none s')
  | brk => exact False.elim hs.choose_spec.choose_spec.2
  | cont => exact False.elim hs.choose_spec.choose_spec.2
/-- a def by its body; nothing is raised -/
theorem fun_q {x qual : Str} {st : Stmt} {N : List Str} (F : Fun K x qual st f fd) (S : FnScope N ps (defScope st))
    (len : ∀ vs H Q E, sp vs H Q E → vs.length = ps.length)
    (hbody : ∀ (cdv : Value) (A : Around) (outer : List Env) (s : Shared) (H : Hp) (vs : List V) (Q : VK) (E : XK),
      Room k (A.deeper (envOfC qual (defScope st) s.heap.objs.size f cdv)) → Qt A → sp vs H Q E →
      ∃ t, PSs (cxOf CX0 P w K mg base N qual (defScope st) f cdv A outer s H E).nox (defBody st) t ∧
        t { nx := fun _ H' => Q .non H', rt := Q } (start N vs) H) :
    Fn P w K mg base CX0 (k + 1) f fd ps sp :=
  fun_qX F S len fun cdv A outer s H vs Q E hr hq hsp =>
    let ⟨t, h, q⟩ := hbody cdv A outer s H vs Q E hr hq hsp
    ⟨t, h.nox, q⟩
end

/-! ### calls -/
section
variable {X : Cx} {CX : CXT} {k : Nat} {f : Addr} {fd : FuncData} {ps : List Str} {sp : Sp} {E : XK}
theorem run_q {pins : List (Addr × Obj)} {σ : L2.St} {H : Hp} {s : Shared} {Q : VK} {us : List Value} {vs : List V}
    (F : Fn X.prog X.w X.K X.mg X.base CX k f fd ps sp) (hr : Room k X.A) (hq : Qt X.A) (hb : Binds X.K fd ps [])
    (hx : Passes CX X E) (I : Inv X pins σ H s) (r : Vals vs us) (h : sp vs H Q E) :
    wpAny (model X.prog X.w) X.A (call (.ref f) us) (EP X pins σ Q) X.xe s := by
  have hl : (us ++ []).length = ps.length := by
    rw [List.append_nil, ← r.length]
    exact F.len _ _ _ _ h
  have bt := hb s us I.kIn hl
  rw [List.append_nil] at bt
  refine wpAny_call (codeAny_mono (F.run X.A X.stack s H ⟨us, []⟩ us vs Q E hr hq I.env0 bt r h) fun r s' hs => ?_)
  match r, hs with
  | .error e, hs => exact hx pins σ H s e s' I hs
  | .ok (.ret u), hs => exact I.after hs
end

/-- a def of the module, told by its name -/
structure Gd (P : Program) (w : World) (K : PySem.W.Frag) (mg : Str → Option Value) (base : Heap)
    (CX : CXT) (k : Nat) (x : Str) (ps : List Str) (sp : Sp) : Prop where
  ex : ∃ (f : Addr) (fd : FuncData), mg x = some (.ref f) ∧ PySem.W.keepIn K (.ref f) = true ∧ Binds K fd ps [] ∧
    Fn P w K mg base CX k f fd ps sp
theorem Gd.mono {P : Program} {w : World} {K : PySem.W.Frag} {mg : Str → Option Value} {base : Heap} {CX : CXT} {j k : Nat}
    {x : Str} {ps : List Str} {sp : Sp} (G : Gd P w K mg base CX j x ps sp) (h : j ≤ k) : Gd P w K mg base CX k x ps sp :=
  let ⟨f, fd, a, b, c, d⟩ := G.ex
  ⟨f, fd, a, b, c, d.mono h⟩

section
variable {X : Cx} {CX : CXT} {k : Nat} {ps : List Str} {sp : Sp} {E : XK} {x : Str} {p pos : Pos} {e : Expr} {es : List Expr} {t : TA}
theorem pe_gX (G : Gd X.prog X.w X.K X.mg X.base CX k x ps sp) (hr : Room k X.A) (hq : Qt X.A) (hx : Passes CX X E)
    (ha : PA X (e :: es) t) (hg : Gl X x := by rfl) (hdb : (x == ("__debug__" : Str)) = false := by decide)
    (he : starEach (e :: es) X.env = (false, eval e X.env) :: starEach es X.env := by rfl)
    (hpl : (backTo pos (starEach es X.env)).any (·.1) = false := by rfl) :
    PE X (.Call (.Name x p) (e :: es) [] pos) (tCall sp [] E t) := by
  obtain ⟨f, fd, hm, hk, hb, F⟩ := G.ex
  constructor
  intro pins s σ H Q I h
  refine wpAny_Call_Name_kw (ld_glob I hg hm ?_ hdb)
  refine PySem.W.callWith_K (h₀ := X.base) I.ok.mod.kin hk ?_ he hpl
  refine thn (ha.run pos pins s σ H _ I h) fun us s1 ⟨vs, H1, I1, r, q⟩ => ⟨I1.kIn, ?_⟩
  have q2 : sp (vs ++ []) H1 Q E := q
  rw [List.append_nil] at q2
  exact run_q F hr hq hb hx I1 r q2
/-- f(e, ..), a def that raises nothing -/
theorem pe_g (G : Gd X.prog X.w X.K X.mg X.base CX0 k x ps sp) (hr : Room k X.A) (hq : Qt X.A)
    (ha : PA X (e :: es) t) (hg : Gl X x := by rfl) (hdb : (x == ("__debug__" : Str)) = false := by decide)
    (he : starEach (e :: es) X.env = (false, eval e X.env) :: starEach es X.env := by rfl)
    (hpl : (backTo pos (starEach es X.env)).any (·.1) = false := by rfl) :
    PE X (.Call (.Name x p) (e :: es) [] pos) (tCall sp [] E0 t) := pe_gX G hr hq pass0 ha hg hdb he hpl
end

/-! ### the end -/
/-- what law(script) promises -/
def spLaw (K : PySem.W.Frag) : Sp := fun vs H Q _ => ∃ (a : Addr) (ns : List Int), vs = [.ref a] ∧ SqL K H a (ns.map V.int) ∧ ns.length ≤ 63 ∧ ∀ H', Q (.bl true) H'

theorem law_end {P : Program} {w : World} {K : PySem.W.Frag} {mg mb : Str → Option Value} {k : Nat} {fa a : Addr} {fd : FuncData} {x : Str} {s₁ : Shared} {vs : List Value} {ns : List Int}
    (KX : K.In s₁.heap) (hns : s₁.heap.Ns mainGlobals mg) (hb : s₁.heap.Ns builtinsNs mb)
    (hbb : ∀ x : Str, x ≠ "__name__" → mb x = bootBuiltins x) (hlim : s₁.heap.NoLimit) (hg : s₁.gens = #[])
    (ha : s₁.heap.get? a = some { cls := .type "list", data := .seq vs.toArray }) (hi : IntsAre vs ns) (hl : ns.length ≤ 63)
    (hr : Room k callerA)
    (F : ∀ base : Heap, K.In base → base.Ns mainGlobals mg → Fn P w K mg base CX0 k fa fd [x] (spLaw K))
    (hbind : ∀ (s : Shared) (u : Value), BindsTo s fd ⟨[u], []⟩ [(x, u)]) :
    codeAny (model P w) callerA (.call (.ref fa) ⟨[.ref a], []⟩)
      (fun r s' => r = .ok (.ret (.bool true)) ∧ OldK s₁.heap s'.heap ∧ s'.os = s₁.os ∧ AllBare s'.gens) s₁ := by
  have rv := vals_ints hi
  have hz : ns.length ≤ sizeLine := Nat.le_trans hl (by decide)
  -- what holds from a heap in which nothing but the script is tracked
  have core : ∀ H : Hp, (∀ b, H b ≠ none → b = a ∧ K.lookup a = none) → (∀ b u, H b = some u → ∃ ob xs, u = .frz ob (.lst xs)) →
      SqL K H a (ns.map V.int) → HOk P w H s₁.heap →
      codeAny (model P w) callerA (.call (.ref fa) ⟨[.ref a], []⟩)
        (fun r s' => r = .ok (.ret (.bool true)) ∧ OldK s₁.heap s'.heap ∧ s'.os = s₁.os ∧ AllBare s'.gens) s₁ := by
    intro H hA hO hS hok
    have none_of : ∀ {b : Addr} {o : Obj} {es : Array DictEntry} {ep : Nat}, s₁.heap.get? b = some o → o.data = .dict es ep → H b = none := by
      intro b o es ep e d
      refine Classical.byContradiction fun q => ?_
      obtain ⟨rfl, _⟩ := hA b q
      cases Option.some.inj (ha.symm.trans e)
      cases d
    have nsK : ∀ {b : Addr} {m : Str → Option Value}, s₁.heap.Ns b m → (hidT s₁.heap H).Ns b m :=
      fun ⟨o, es, ep, e, d, r⟩ => ⟨o, es, ep, hidT_get e (none_of e d), d, r⟩
    have hKb : K.In (hidT s₁.heap H) := fun b o e => hidT_get (KX b o e) (Classical.byContradiction fun q => by
      obtain ⟨rfl, z⟩ := hA b q
      rw [z] at e
      cases e)
    have hM : Mod K mg (hidT s₁.heap H) :=
      ⟨hKb, nsK hns, ⟨mb, nsK hb, hbb⟩, let ⟨mc, h1, h2⟩ := hlim; ⟨mc, nsK h1, h2⟩⟩
    have e0 : Env0 P w K mg (hidT s₁.heap H) callerA [] s₁ H :=
      ⟨rfl, hM, fun b o e => of_hidT e, Nat.le_of_eq (hidT_size _ _), trivial, fun b hb => (nomatch (show b ∈ ([] : List Addr) from hb)), hok, .of_eq hg⟩
    have go := (F _ hKb (nsK hns)).run callerA [] s₁ H ⟨[.ref a], []⟩ [.ref a] [.ref a] (fun v _ => v = .bl true) (fun _ _ _ => False) hr rfl e0
      (hbind s₁ (.ref a)) (.cons rfl .nil) ⟨a, ns, rfl, hS, hl, fun _ => rfl⟩
    refine codeAny_mono go fun r s' h => ?_
    match r, h with
    | .ok (.ret u), h =>
      obtain ⟨v, H', os, bare, un, hok', r', q⟩ := h
      obtain rfl : v = .bl true := q
      obtain rfl : u = Value.bool true := r'
      refine ⟨rfl, OldK.of_keep fun b o e => ?_, os, bare⟩
      cases q : H b with
      | none => exact un.keep b o e q (fun z => nomatch (show b ∈ ([] : List Addr) from z)) (fun z => nomatch z)
      | some u =>
        obtain ⟨ob, xs, rfl⟩ := hO b u q
        obtain ⟨e1, _⟩ := hok b _ q
        obtain ⟨e2, _⟩ := hok' b _ (un.frzs b ob _ q)
        cases Option.some.inj (e.symm.trans e1)
        exact e2
  cases hk : K.lookup a with
  | some o =>
    -- the script is one of the module's own objects
    have e := (KX a o hk).symm.trans ha
    cases Option.some.inj e
    refine core (fun _ => none) (fun b z => absurd rfl z) (fun b u z => nomatch z) (.inr ⟨_, vs.toArray, _, hk, rfl, rfl, rfl, ?_, by simpa using rv⟩) (fun b u z => nomatch z)
    rw [List.size_toArray, hi.length]
    exact hz
  | none =>
    let ob : Obj := { cls := .type "list", data := .seq vs.toArray }
    have at_ : ∀ b u, (if b = a then some (HO.frz ob (.lst (ns.map V.int))) else none) = some u → b = a ∧ u = HO.frz ob (.lst (ns.map V.int)) := by
      intro b u z
      by_cases h : b = a
      · rw [if_pos h] at z
        exact ⟨h, (Option.some.inj z).symm⟩
      · rw [if_neg h] at z
        cases z
    refine core (fun b => if b = a then some (HO.frz ob (.lst (ns.map V.int))) else none) (fun b z => ?_) (fun b u z => ⟨_, _, (at_ b u z).2⟩) (.inl (.inr ⟨ob, if_pos rfl⟩)) (fun b u z => ?_)
    · by_cases h : b = a
      · exact ⟨h, hk⟩
      · exact absurd (if_neg h) z
    · obtain ⟨rfl, rfl⟩ := at_ b u z
      exact ⟨ha, (by rw [List.length_map]; exact hz), vs, _, rv, ha⟩

/-- the goal behind k_head, from the promise of law -/
theorem walk_end {l : PySem.W.OpenLaw} {k : Nat} {q : Program} {loose : List Str} {XP : (Str → Option Value) → Heap → Prop} {YP : World → Heap → Prop} {d : DefRec} {K : Params → PySem.W.Frag} {x : Str}
    (hn : l.most = some 63) (hdf : d.params.defaults = []) (hr : Room k callerA) (hY : ∀ (w : World) (h : Heap), YP w h → (K w.params).In h)
    (F : ∀ (w : World) (mg : Str → Option Value) (fa : Addr) (h : Heap), (K w.params).In h → h.Ns mainGlobals mg → mg d.name = some (.ref fa) →
      ∃ fd : FuncData, (∀ (s : Shared) (u : Value), BindsTo s fd ⟨[u], []⟩ [(x, u)]) ∧
        ∀ base : Heap, (K w.params).In base → base.Ns mainGlobals mg → Fn l.prog w (K w.params) mg base CX0 k fa fd [x] (spLaw (K w.params))) :
    PySem.W.WalkO q loose XP YP l.row.toRowW d [] (fun f vs => PySem.call f vs) := by
  refine Att.attach_call hn hdf ?_
  intro w s₀ s₁ mg mb fa o pm cd doc a vs ns G Y ho hd hcd hmg hobj hints hlen hg
  obtain ⟨fd, hb, hF⟩ := F w mg fa _ (hY w _ Y) G.T.g hmg
  exact law_end (hY w _ Y) G.T.g G.T.b G.T.builtins G.T.nolimit hg hobj hints hlen hr hF hb
end Q0

/-! Data of any depth in the abstract heap: None, bools, ints, texts, lists, tuples, empty dicts; what is written in the text; repr. -/
namespace Q0
open PySem PySem.Spec PyProof.Rows L2

theorem same_new {H : Hp} {p : Addr} (h : H p = none) (o : HO) : Same H (upd H p o) := fun b u q => by rw [upd_ne (ne_of_none q h)]; exact q

mutual
/-- v is the data d -/
inductive Dd (H : Hp) : V → PyData → Prop
  | non : Dd H .non .none
  | bl (b : Bool) : Dd H (.bl b) (.bool b)
  | int (i : Int) : Dd H (.int i) (.int i)
  | str (x : Str) : Dd H (.str x) (.str x)
  | lst {a : Addr} {xs : List V} {ds : List PyData} : H a = some (.lst xs) → a ≠ sysModules → DdA H xs ds → Dd H (.ref a) (.list ds)
  | tup {a : Addr} {xs : List V} {ds : List PyData} : H a = some (.tup xs) → DdA H xs ds → Dd H (.ref a) (.tuple ds)
  | dic {a : Addr} : H a = some (.dK []) → Dd H (.ref a) (.dict [])
inductive DdA (H : Hp) : List V → List PyData → Prop
  | nil : DdA H [] []
  | cons {v : V} {vs : List V} {d : PyData} {ds : List PyData} : Dd H v d → DdA H vs ds → DdA H (v :: vs) (d :: ds)
end
mutual
theorem Dd.mono {H H' : Hp} (s : Same H H') : ∀ {v : V} {d : PyData}, Dd H v d → Dd H' v d
  | _, _, .non => .non
  | _, _, .bl b => .bl b
  | _, _, .int i => .int i
  | _, _, .str x => .str x
  | _, _, .lst h n a => .lst (s _ _ h) n (DdA.mono s a)
  | _, _, .tup h a => .tup (s _ _ h) (DdA.mono s a)
  | _, _, .dic h => .dic (s _ _ h)
theorem DdA.mono {H H' : Hp} (s : Same H H') : ∀ {vs : List V} {ds : List PyData}, DdA H vs ds → DdA H' vs ds
  | _, _, .nil => .nil
  | _, _, .cons h t => .cons (Dd.mono s h) (DdA.mono s t)
end
theorem DdA.length {H : Hp} : ∀ {vs : List V} {ds : List PyData}, DdA H vs ds → vs.length = ds.length
  | _, _, .nil => rfl
  | _, _, .cons _ t => congrArg Nat.succ t.length
theorem DdA.get {H : Hp} : ∀ {vs : List V} {ds : List PyData} {i : Nat} {v : V}, DdA H vs ds → vs[i]? = some v → ∃ d, ds[i]? = some d ∧ Dd H v d
  | _, _, _, _, .nil, e => by simp at e
  | _, _, 0, _, .cons h _, e => by
    simp only [List.getElem?_cons_zero, Option.some.injEq] at e
    subst e
    exact ⟨_, rfl, h⟩
  | _, _, i + 1, _, .cons _ t, e => by
    obtain ⟨d, h1, h2⟩ := t.get (i := i) (by simpa using e)
    exact ⟨d, by simpa using h1, h2⟩
theorem DdA.append {H : Hp} : ∀ {vs ws : List V} {ds es : List PyData}, DdA H vs ds → DdA H ws es → DdA H (vs ++ ws) (ds ++ es)
  | _, _, _, _, .nil, s => s
  | _, _, _, _, .cons h t, s => .cons h (t.append s)

section
variable {X : Cx} {pins : List (Addr × Obj)} {σ : L2.St} {H : Hp} {s : Shared}
mutual
theorem Dd.reads (I : Inv X pins σ H s) : ∀ (d : PyData) (v : V) (u : Value), Dd H v d → RelV v u → ∃ as, Reads s.heap u d as ∧ sysModules ∉ as
  | .none, _, _, h, r => by
    cases h
    cases r
    exact ⟨_, Reads.none, fun z => nomatch z⟩
  | .bool b, _, _, h, r => by
    cases h
    cases r
    exact ⟨_, Reads.bool b, fun z => nomatch z⟩
  | .int i, _, _, h, r => by
    cases h
    obtain ⟨t, rfl⟩ := r
    exact ⟨_, Reads.int i t, fun z => nomatch z⟩
  | .str x, _, _, h, r => by
    cases h
    obtain ⟨t, rfl⟩ := r
    exact ⟨_, Reads.str x t, fun z => nomatch z⟩
  | .list ds, _, _, h, r => by
    cases h with
    | lst hs hn ha =>
      cases r
      obtain ⟨its, rv, ⟨o, n, ho, hc, _, hd⟩, _⟩ := I.list (SqL.of hs)
      obtain ⟨as, hr, ns⟩ := Dd.readsAll I ds _ its ha rv
      refine ⟨_, Reads.list ho hc hd hr, fun z => ?_⟩
      cases z with
      | head => exact hn rfl
      | tail _ z => exact ns z
  | .tuple ds, _, _, h, r => by
    cases h with
    | tup hs ha =>
      cases r
      obtain ⟨its, rv, ⟨o, ho, hc, n, hd⟩, _⟩ := I.tuple (SqT.of hs)
      obtain ⟨as, hr, ns⟩ := Dd.readsAll I ds _ its ha rv
      exact ⟨_, Reads.tuple ho hc hd hr, ns⟩
  | .dict kvs, _, _, h, r => by
    cases h with
    | dic hs =>
      cases r
      obtain ⟨_, hm, vs, kv, o, es, ep, h1, h2, h3, h4⟩ := dk_of I.hok hs
      cases kv
      have e0 : es = #[] := by
        have z := h4.2.1
        cases e : es.toList with
        | nil => exact Array.toList_inj.mp (by rw [e])
        | cons a l => rw [e] at z; exact absurd z (by first | exact fun q => nomatch q | simp [Pairs])
      subst e0
      refine ⟨_, Reads.dict (kvs := []) h1 h2.1 h3 ReadsAll.nil ReadsAll.nil, fun z => ?_⟩
      simp at z
      subst z
      simp at hm
theorem Dd.readsAll (I : Inv X pins σ H s) : ∀ (ds : List PyData) (vs : List V) (us : List Value), DdA H vs ds → Vals vs us → ∃ as, ReadsAll s.heap us ds as ∧ sysModules ∉ as
  | [], _, _, h, r => by
    cases h
    cases r
    exact ⟨_, ReadsAll.nil, fun z => nomatch z⟩
  | d :: ds, _, _, h, r => by
    cases h with
    | cons h1 h2 =>
      cases r with
      | cons r1 r2 =>
        obtain ⟨as, q1, n1⟩ := Dd.reads I d _ _ h1 r1
        obtain ⟨bs, q2, n2⟩ := Dd.readsAll I ds _ _ h2 r2
        exact ⟨_, ReadsAll.cons q1 q2, fun z => (List.mem_append.mp z).elim n1 n2⟩
end
end

section
variable {X : Cx}
/-- repr(x), x data -/
def rRepr : List V → Hp → VK → Prop := fun xs H Q => ∃ (v : V) (d : PyData), xs = [v] ∧ Dd H v d ∧ d.showable = true ∧ d.depth ≤ 60 ∧ d.shown.length ≤ sizeLine ∧ Q (.str d.shown) H
theorem call_repr (hq : Qt X.A) (hu : X.A.units + 64 < cLine) : CallR X (.builtin "repr") rRepr := by
  intro pins s σ H xs us Q I r h
  obtain ⟨v, d, rfl, hd, hs, hz, hl, q⟩ := h
  cases r with
  | cons rv rr =>
    cases rr
    rename_i u
    obtain ⟨as, hr, ns⟩ := Dd.reads I d v u hd rv
    cases hr with
    | none => exact PySem.P.repr_of_none ⟨.str _, H, I.tok _, ⟨_, rfl⟩, q⟩
    | bool b => exact PySem.P.repr_of_bool ⟨.str _, H, I.tok _, ⟨_, rfl⟩, q⟩
    | int i t => exact PySem.P.repr_of_int (by simpa [PyData.showable] using hs) ⟨.str _, H, I.tok _, ⟨_, rfl⟩, q⟩
    | str x t => exact PySem.P.repr_of_str ⟨.str _, H, I.tok _, ⟨_, rfl⟩, q⟩ hl
    | list h1 h2 h3 h4 =>
      exact repr_of_reads' (.list h1 h2 h3 h4) hs (fun _ => ns) hq (by omega) (fun _ _ e => e) (fun h' u tk hk => ⟨.str _, H, I.kept hk, ⟨_, rfl⟩, q⟩) hl
    | tuple h1 h2 h3 h4 =>
      exact repr_of_reads' (.tuple h1 h2 h3 h4) hs (fun _ => ns) hq (by omega) (fun _ _ e => e) (fun h' u tk hk => ⟨.str _, H, I.kept hk, ⟨_, rfl⟩, q⟩) hl
    | dict h1 h2 h3 h4 h5 =>
      exact repr_of_reads' (.dict h1 h2 h3 h4 h5) hs (fun _ => ns) hq (by omega) (fun _ _ e => e) (fun h' u tk hk => ⟨.str _, H, I.kept hk, ⟨_, rfl⟩, q⟩) hl
end

/-! ### displays of data: what is made stands at places that were free at the entry -/
/-- what stands in H' at places that are free in H0 -/
def news (H0 H' : Hp) : Hp := fun b => if H0 b = none then H' b else none
theorem news_some {H0 H' : Hp} {b : Addr} {o : HO} : news H0 H' b = some o ↔ H0 b = none ∧ H' b = some o := by
  unfold news
  by_cases h : H0 b = none
  · rw [if_pos h]
    exact ⟨fun q => ⟨h, q⟩, fun q => q.2⟩
  · rw [if_neg h]
    exact ⟨fun q => (nomatch q), fun q => absurd q.1 h⟩
theorem news_old {H0 H' : Hp} : Same (news H0 H') H' := fun b o q => (news_some.mp q).2
theorem news_same {H0 H1 H2 : Hp} (s : Same H1 H2) : Same (news H0 H1) (news H0 H2) := fun b o q => news_some.mpr ⟨(news_some.mp q).1, s b o (news_some.mp q).2⟩
/-- what stood still is no free place -/
def Bs (H0 H : Hp) : Prop := ∀ b, H b = none → H0 b = none
theorem Bs.refl {H : Hp} : Bs H H := fun _ q => q
theorem Bs.same {H0 H H' : Hp} (a : Bs H0 H) (s : Same H H') : Bs H0 H' := fun b q => a b (s.free q)
/-- what a reading wants ahead of a display, and keeps -/
def Stab (pre : L2.St → Hp → Prop) : Prop := ∀ σ H H', Same H H' → pre σ H → pre σ H'
def pT : L2.St → Hp → Prop := fun _ _ => True
def pV (H0 : Hp) (i : Nat) (d : PyData) : L2.St → Hp → Prop := fun σ H => ∃ v, σ[i]? = some (some v) ∧ Dd (news H0 H) v d
def pAnd (a b : L2.St → Hp → Prop) : L2.St → Hp → Prop := fun σ H => a σ H ∧ b σ H
theorem stab_T : Stab pT := fun _ _ _ _ h => h
theorem stab_V {H0 : Hp} {i : Nat} {d : PyData} : Stab (pV H0 i d) := fun _ _ _ s ⟨v, h1, h2⟩ => ⟨v, h1, h2.mono (news_same s)⟩
theorem stab_and {a b : L2.St → Hp → Prop} (ha : Stab a) (hb : Stab b) : Stab (pAnd a b) := fun σ H H' s ⟨h1, h2⟩ => ⟨ha σ H H' s h1, hb σ H H' s h2⟩
section
variable {X : Cx} {e : Expr} {es : List Expr} {t t' : TE} {H0 : Hp} {p1 p2 : L2.St → Hp → Prop}
theorem pe_imp (h : PE X e t) (i : ∀ σ H Q, t' σ H Q → t σ H Q) : PE X e t' := ⟨fun pins s σ H Q I q => h.run pins s σ H Q I (i σ H Q q)⟩
def tD (H0 : Hp) (pre : L2.St → Hp → Prop) (d : PyData) : TE := fun σ H Q => Bs H0 H ∧ pre σ H ∧ ∀ v H', Same H H' → Dd (news H0 H') v d → Q v H'
def tDs (H0 : Hp) (pre : L2.St → Hp → Prop) (ds : List PyData) : TA := fun σ H Q => Bs H0 H ∧ pre σ H ∧ ∀ vs H', Same H H' → DdA (news H0 H') vs ds → Q vs H'
variable {d : PyData} {ds : List PyData} {pos : Pos}
theorem da_of (h : PE X e t) (i : ∀ σ H Q, (∀ v, (∀ H', Dd H' v d) → Q v H) → t σ H Q) : PE X e (tD H0 pT d) := pe_imp h fun σ H Q q => i σ H Q fun v k => q.2.2 v H (Same.refl H) (k _)
theorem da_none {j : Nat} : PE X (.Constant .none j pos) (tD H0 pT .none) := da_of pe_non fun σ H Q q => q _ fun _ => .non
theorem da_bool {b : Bool} {j : Nat} : PE X (.Constant (.bool b) j pos) (tD H0 pT (.bool b)) := da_of pe_bl fun σ H Q q => q _ fun _ => .bl b
theorem da_int {i : Int} {j : Nat} : PE X (.Constant (.int i) j pos) (tD H0 pT (.int i)) := da_of pe_int fun σ H Q q => q _ fun _ => .int i
theorem da_str {x : Str} {j : Nat} : PE X (.Constant (.str x) j pos) (tD H0 pT (.str x)) := da_of pe_str fun σ H Q q => q _ fun _ => .str x
theorem da_var {i : Nat} (h : PE X e (tVar i)) : PE X e (tD H0 (pV H0 i d) d) := pe_imp h fun σ H Q ⟨_, ⟨v, h1, h2⟩, k⟩ => ⟨v, h1, k v H (Same.refl H) h2⟩
theorem da_nil : PA X [] (tDs H0 pT []) := ⟨fun pos pins s σ H Q I q => pa_nil.run pos pins s σ H Q I (q.2.2 _ _ (Same.refl H) .nil)⟩
theorem da_cons (st : Stab p2) (h : PE X e (tD H0 p1 d)) (hs : PA X es (tDs H0 p2 ds)) (he : starEach (e :: es) X.env = (false, eval e X.env) :: starEach es X.env := by rfl) : PA X (e :: es) (tDs H0 (pAnd p1 p2) (d :: ds)) :=
  ⟨fun pos pins s σ H Q I ⟨b, ⟨q1, q2⟩, k⟩ => (pa_cons h hs he).run pos pins s σ H Q I
    (show tD H0 p1 d σ H _ from ⟨b, q1, fun v H1 s1 h1 => show tDs H0 p2 ds σ H1 _ from ⟨b.same s1, st σ H H1 s1 q2, fun vs H2 s2 h2 => k _ _ (s1.trans s2) (.cons (h1.mono (news_same s2)) h2)⟩⟩)⟩
theorem at_new {H0 H : Hp} {p : Addr} {o : HO} (b : Bs H0 H) (n : H p = none) : news H0 (upd H p o) p = some o := news_some.mpr ⟨b p n, upd_same⟩
theorem da_tup {k} (h : PA X es (tDs H0 p1 ds)) (hl : ds.length ≤ sizeLine := by first | decide | (rw [sizeLine_eq]; simp only [List.length_cons, List.length_nil]; decide)) : PE X (.Tuple es k pos) (tD H0 p1 (.tuple ds)) :=
  pe_imp (pe_tup h) fun σ H Q ⟨b, q, k⟩ => show tDs H0 p1 ds σ H _ from ⟨b, q, fun vs H1 s1 h1 => ⟨by rw [h1.length]; exact hl, fun p hp => k _ _ (s1.trans (same_new hp _)) (.tup (at_new (b.same s1) hp) (h1.mono (news_same (same_new hp _))))⟩⟩
theorem da_lst (h : PA X es (tDs H0 p1 ds)) (hl : ds.length ≤ sizeLine := by first | decide | (rw [sizeLine_eq]; simp only [List.length_cons, List.length_nil]; decide)) : PE X (.List es pos) (tD H0 p1 (.list ds)) := by
  constructor
  rintro pins s σ H Q I ⟨b, q, k⟩
  refine wpAny_List_spliced (thn (h.run pos pins s σ H (fun vs H1 => Same H H1 ∧ DdA (news H0 H1) vs ds) I ⟨b, q, fun vs H1 s1 h1 => ⟨s1, h1⟩⟩) ?_)
  rintro us s1 ⟨vs, H1, I1, r, sm, h1⟩
  have z : vs.length ≤ sizeLine := by rw [h1.length]; exact hl
  have hf : H1 s1.heap.objs.size = none := I1.hok.fresh (Nat.le_refl _)
  refine ⟨by rw [← r.length]; exact z, .ref s1.heap.objs.size, upd H1 s1.heap.objs.size (.lst vs), I1.laid (t' := s1.toks) (fun b u e => Heap.get?_push_of_some _ e) (Nat.le_refl _) ?_, rfl,
    k _ _ (sm.trans (same_new hf _)) (.lst (at_new (b.same sm) hf) (Nat.ne_of_gt I1.big) (h1.mono (news_same (same_new hf _))))⟩
  exact ⟨z, us, 0, r, Heap.get?_push_size _ rfl⟩
theorem da_dict : PE X (.Dict [] [] pos) (tD H0 pT (.dict [])) := pe_imp pe_dnewK fun σ H Q ⟨b, _, k⟩ p hp => k _ _ (same_new hp _) (.dic (at_new b hp))
end
end Q0

/-! Own exceptions with an __init__ that keeps one field, as values: made by position and by name. -/
namespace PySem
namespace EK
open PySem.W PySem.Calls PyProof.Rows PySem.HandSPX Builtin Builtin.ObjectAttr
section
variable {M : Model} {A : Around} {E : Value → Shared → Prop} {h : Heap} {g : Array GenState} {d : Drawn} {t : Nat} {os : OsState}
  {nm q : Str} {C N : Addr} {bs bm bmB : List Value} {hdct : Bool} {sn : List Str} {sub : List Value} {ab : Bool} {col : Option Bool}
  {dd : Option Addr} {k0 k1 k2 k3 k5 : Option Value} {B newId initId : String} {kw : List (Str × Value)}

theorem check_new_kw (F : ExcBaseFacts B newId initId bmB) (hT : ∀ X : String, bm.contains (.type X) = bmB.contains (.type X))
    {Q : Unit → Shared → Prop} (hC : h.get? C = some (excClassObj nm q C N bs bm hdct sn sub ab col dd k0 k1 k2 k3 k5 newId))
    (hq : Q () ⟨h, g, d, t, os⟩) : wpAny M A (checkBuiltinCall newId ⟨[.ref C], kw⟩) Q E ⟨h, g, d, t, os⟩ := by
  have inB : (Value.ref C :: bm).contains (.type B) = true := by
    rw [List.contains_cons, hT, F.hasB, Bool.or_true]
  have ns := F.noStar
  simp only [checkBuiltinCall, F.newKind, F.newSplit, F.newRow]
  repeat (first
    | refine wpAny_loadPart_at hC ?_
    | (refine wpAny_isSubtype_exc hC ?_; rw [inB])
    | refine wpAny_staticBase_exc hC ?_
    | refine wpAny_madeBy_exc hC ?_
    | simp only [bne_self_eq_false, Bool.false_eq_true, if_false]
    | wp_step)
  exact hq
theorem check_type_call_kw {Q : Unit → Shared → Prop} (hC : h.get? C = some (excClassObj nm q C N bs bm hdct sn sub ab col dd k0 k1 k2 k3 k5 newId))
    (hq : Q () ⟨h, g, d, t, os⟩) : wpAny M A (checkBuiltinCall "type.__call__" ⟨[.ref C], kw⟩) Q E ⟨h, g, d, t, os⟩ := by
  have f3 := tc_sub
  have hT : (⟨h, g, d, t, os⟩ : Shared).TypeIs (.ref C) "type" := ⟨_, hC, rfl⟩
  simp only [checkBuiltinCall, tc_kind, tc_split]
  repeat (any_goals (first
    | assumption
    | with_reducible refine wpAny_loadPart_at hC ?_
    | with_reducible refine wpAny_onRaise ?_
    | with_reducible refine wpAny_map ?_
    | wp_step))
end
section
variable {prog : Program} {w : World} {A : Around} {E : Value → Shared → Prop} {R : Result → Shared → Prop} {h : Heap}
  {g : Array GenState} {d : Drawn} {t : Nat} {os : OsState} {nm q : Str} {C N : Addr} {bs bm bmB : List Value} {hdct : Bool}
  {sn : List Str} {sub : List Value} {ab : Bool} {col : Option Bool} {dd : Option Addr} {k0 k1 k2 k3 k5 : Option Value}
  {B newId initId : String} {kw : List (Str × Value)}

theorem new_kw (F : ExcBaseFacts B newId initId bmB) (hT : ∀ X : String, bm.contains (.type X) = bmB.contains (.type X))
    (hC : h.get? C = some (excClassObj nm q C N bs bm hdct sn sub ab col dd k0 k1 k2 k3 k5 newId))
    (hq : R (.ok (.ret (.ref (h.objs.size + 1)))) ⟨(h.push (W.kdv_tup [])).push (excO C h.objs.size), g, d, t, os⟩) :
    codeAny (model prog w) A (.builtin newId ⟨[.ref C], kw⟩) R ⟨h, g, d, t, os⟩ := by
  have ends := F.ends
  have inB : (Value.ref C :: bm).contains (.type B) = true := by
    rw [List.contains_cons, hT, F.hasB, Bool.or_true]
  have notA : (Value.ref C :: bm).contains (.type "AttributeError") = false := by
    rw [List.contains_cons, hT, F.noAttr]
    rfl
  have notN : (Value.ref C :: bm).contains (.type "NameError") = false := by
    rw [List.contains_cons, hT, F.noName]
    rfl
  refine codeAny_builtinAt F.entry ?_
  unfold Builtin.«BaseException.__new__»
  refine wpAt_bind ?_
  show wpAt _ _ _ (stack >>= _) _ _ _
  refine wpAt_bind (wpAt_stack fun p below => wpAt_of_wpAny ?_)
  wp_walk
  refine wpAt_of_wpAny ?_
  rw [F.owner]
  repeat (first
    | with_reducible refine wpAny_madeHere_exc F.canon hC ?_
    | with_reducible refine wpAny_loadPart_at hC ?_
    | (with_reducible refine wpAny_isSubtype_exc hC ?_; first | rw [inB] | rw [notA] | rw [notN])
    | wp_step)
  show R _ _
  rw [Heap.size_push]
  exact hq

theorem type_call_kw (F : ExcBaseFacts B newId initId bmB) (hT : ∀ X : String, bm.contains (.type X) = bmB.contains (.type X))
    {fI : Addr} {Q : Fin → Shared → Prop} (hC : h.get? C = some (excClassObj nm q C N bs bm hdct sn sub ab col dd k0 k1 k2 k3 k5 newId))
    (hi : W.Looks (model prog w) h (typeLookup (.ref C) "__init__") (some (.ref fI)))
    (hb : ∀ self, W.Looks (model prog w) h (bindSpecial (.ref fI) self) (.ref fI, [self]))
    (hq : codeAny (model prog w) A (.call (.ref fI) ⟨[.ref (h.objs.size + 1)], kw⟩)
      (fun r s' => match r with
        | .ok (.ret v) => v = .none ∧ Q (.done (.ret (.ref (h.objs.size + 1)))) s'
        | .ok _ => False
        | .error e => E e s')
      ⟨(h.push (W.kdv_tup [])).push (excO C h.objs.size), g, d, t, os⟩) :
    wpAny (model prog w) A (Builtin.«type.__call__» ⟨[.ref C], kw⟩) Q E ⟨h, g, d, t, os⟩ := by
  repeat (first
    | with_reducible refine wpAny_loadPart_at hC ?_
    | with_reducible refine wpAny_madeBy_exc hC ?_
    | wp_step)
  refine codeAny_call_builtin_code (Code.quiet_builtin _ F.quiet) (check_new_kw F hT hC ?_)
  refine new_kw F hT hC ?_
  show wpAny _ _ _ _ _ _
  have k : ∀ b o, h.get? b = some o → ((h.push (W.kdv_tup [])).push (excO C h.objs.size)).get? b = some o :=
    fun b o e => Heap.get?_push_of_some _ (Heap.get?_push_of_some _ e)
  have hC1 := k _ _ hC
  have self : ((h.push (W.kdv_tup [])).push (excO C h.objs.size)).get? (h.objs.size + 1) = some (excO C h.objs.size) := by heap_get
  have own : (Value.ref C :: bm).contains (.ref C) = true := by simp
  have i1 := hi.keeps k
  have b1 := (hb (.ref (h.objs.size + 1))).keeps k
  unfold isInstance
  repeat (first
    | with_reducible refine wpAny_loadPart_at self ?_
    | (with_reducible refine wpAny_isSubtype_exc hC1 ?_; rw [own])
    | wp_step)
  show wpAny _ _ (typeLookup (.ref C) _) _ _ _
  refine i1.at ?_
  refine wpAny_holding (wpAny_bind (b1.at ?_))
  refine wpAny_bind (wpAny_call (codeAny_mono hq fun r s' z => ?_))
  match r, z with
  | .error e, z => exact z
  | .ok (.ret v), ⟨e, z⟩ =>
    subst e
    first
      | exact wpAny_pure (wpAny_pure z)
      | (wp_walk; exact z)

/-- C(f = v, ..), C an own exception class with its own __init__ -/
theorem call_kw (F : ExcBaseFacts B newId initId bmB) (hT : ∀ X : String, bm.contains (.type X) = bmB.contains (.type X)) {fI : Addr}
    (hC : h.get? C = some (excClassObj nm q C N bs bm hdct sn sub ab col dd k0 k1 k2 k3 k5 newId))
    (hi : W.Looks (model prog w) h (typeLookup (.ref C) "__init__") (some (.ref fI)))
    (hb : ∀ self, W.Looks (model prog w) h (bindSpecial (.ref fI) self) (.ref fI, [self]))
    (hq : codeAny (model prog w) (A.under (.builtin "type.__call__" ⟨[.ref C], kw⟩)) (.call (.ref fI) ⟨[.ref (h.objs.size + 1)], kw⟩)
      (W.InitBack (h.objs.size + 1) R) ⟨(h.push (W.kdv_tup [])).push (excO C h.objs.size), g, d, t, os⟩) :
    codeAny (model prog w) A (.call (.ref C) ⟨[], kw⟩) R ⟨h, g, d, t, os⟩ := by
  have f1 := tc_lookup
  have f2 := tc_bind (.ref C)
  have hTy : (⟨h, g, d, t, os⟩ : Shared).TypeIs (.ref C) "type" := ⟨_, hC, rfl⟩
  refine codeAny_of_tree ?_
  show wpAny _ _ (callAny (.ref C) _) _ _ _
  repeat (any_goals (first | assumption | with_reducible refine wpAny_loadPart_at hC ?_ | wp_step))
  refine ⟨rfl, ?_⟩
  refine codeAny_call_builtin_at (Code.quiet_builtin _ (by decide +kernel)) entry_typeCall (check_type_call_kw hC (type_call_kw F hT hC hi hb ?_))
  refine codeAny_mono hq fun r s' z => ?_
  rcases r with e | (v | _ | _ | _) <;> exact z
end
end EK
end PySem

namespace Q0
open PySem PySem.Spec PyProof.Rows L2

/-- an exception of the class at C stands at a, its field f holds v -/
def Exo (H : Hp) (a C : Addr) (f : Str) (v : V) : Prop := ∃ dx, H a = some (exo a C (some dx)) ∧ H dx = some (exd dx [(f, v)])
theorem Exo.mono {H H' : Hp} (s : Same H H') {a C : Addr} {f : Str} {v : V} : Exo H a C f v → Exo H' a C f v := fun ⟨d, h1, h2⟩ => ⟨d, s _ _ h1, s _ _ h2⟩
/-- __init__(self, f) of such a class -/
def spEi (K : PySem.W.Frag) (f : Str) : Sp := fun vs H Q _ => ∃ (a C : Addr) (v : V), vs = [.ref a, v] ∧ OexC K C ∧ PySem.W.findIn K (.ref C) f = some none ∧ H a = some (exo a C none) ∧
  ∀ dx, H dx = none → dx ≠ a → Q .non (upd (upd H dx (exd dx [(f, v)])) a (exo a C (some dx)))
/-- an own exception class by its name x, its field f -/
structure Ec (P : Program) (w : World) (K : PySem.W.Frag) (mg : Str → Option Value) (base : Heap) (x f : Str) (C : Addr) : Prop where
  low : OexC K C
  gC : mg x = some (.ref C)
  noF : PySem.W.findIn K (.ref C) f = some none
  init : ∃ (fI : Addr) (fd : FuncData), PySem.W.findIn K (.ref C) "__init__" = some (some (.ref fI)) ∧ PySem.W.typeIn K (.ref fI) = some (.type "function") ∧
    FnOk P w K mg base CX0 1 fI fd ["self", f] (spEi K f) ∧
    (∀ (s : Shared) (self u : Value), BindsTo s fd ⟨[self, u], []⟩ [(("self" : Str), self), (f, u)]) ∧
    (∀ (s : Shared) (self u : Value), BindsTo s fd ⟨[self], [(f, u)]⟩ [(("self" : Str), self), (f, u)])

section
variable {P : Program} {w : World} {K : PySem.W.Frag} {mg : Str → Option Value} {base : Heap}
theorem ok_exinit {st : Stmt} {f qual : Str} {fI : Addr} {fd : FuncData} {p1 p2 p3 p4 : Pos} (hf : f = "given" ∨ f = "index" ∨ f = "spot")
    (hb : defBody st = [.Assign [.Attribute (.Name "self" p1) f p2] (.Name f p3) p4]) (sc : FnScope ["self", f] ["self", f] (defScope st))
    (F : Fun K "__init__" qual st fI fd) : FnOk P w K mg base CX0 1 fI fd ["self", f] (spEi K f) := by
  refine F.ok sc (fun vs H Q E h => ?_) (fun cdv A outer s H vs Q E hr h => ?_)
  · obtain ⟨a, C, v, rfl, _⟩ := h
    rfl
  obtain ⟨a, C, v, rfl, T, nf, ha, k⟩ := h
  rw [hb]
  have v0 := sc.par "self" (by simp)
  have v1 := sc.par f (by simp)
  refine ⟨_, pss_one (ps_ost (pv 0 rfl (v0.elim Or.inl fun z => Or.inr (Or.inl z))) (pv 1 rfl (v1.elim Or.inl fun z => Or.inr (Or.inl z)) ?_ ?_)), ?_⟩
  · rcases hf with rfl | rfl | rfl <;> decide
  · rcases hf with rfl | rfl | rfl <;> decide
  exact ⟨_, rfl, _, rfl, a, C, rfl, T, nf, .inl ⟨ha, fun dx n ne => k dx n ne⟩⟩
end

/-- C(e): a new exception that keeps it -/
def tEx (C : Addr) (f : Str) (te : TE) : TE := fun σ H Q => te σ H fun v H1 => ∀ a H2, H1 a = none → Same H1 H2 → Exo H2 a C f v → Q (.ref a) H2
section
variable {X : Cx} {x f : Str} {C : Addr} {e : Expr} {te : TE} {p pos kpos : Pos}
theorem ex_new {H : Hp} {a dx C : Addr} {f : Str} {v : V} (n : H a = none) (nd : upd H a (exo a C none) dx = none) :
    Same H (upd (upd (upd H a (exo a C none)) dx (exd dx [(f, v)])) a (exo a C (some dx))) ∧ Exo (upd (upd (upd H a (exo a C none)) dx (exd dx [(f, v)])) a (exo a C (some dx))) a C f v := by
  have ne : dx ≠ a := fun z => by rw [z, upd_same] at nd; cases nd
  have nd0 : H dx = none := by rw [upd_ne ne] at nd; exact nd
  refine ⟨fun b o q => ?_, dx, upd_same, ?_⟩
  · rw [upd_ne (ne_of_none q n), upd_ne (ne_of_none q nd0), upd_ne (ne_of_none q n)]
    exact q
  · rw [upd_ne ne, upd_same]
theorem run_ex {pins : List (Addr × Obj)} {σ : L2.St} {H : Hp} {s : Shared} {Q : VK} {u : Value} {v : V} {us : List Value} {kw : List (Str × Value)} (T : Ec X.prog X.w X.K X.mg X.base x f C) (hr : Room 2 X.A)
    (I : Inv X pins σ H s) (r : RelV v u) (hform : (us = [u] ∧ kw = []) ∨ (us = [] ∧ kw = [(f, u)]))
    (h : ∀ a H2, H a = none → Same H H2 → Exo H2 a C f v → Q (.ref a) H2) :
    wpAny (model X.prog X.w) X.A (call (.ref C) us kw) (EP X pins σ Q) X.xe s := by
  obtain ⟨nm, q, N, bs, bm, sn, sub, ab, col, dd, k0, k1, k2, k3, k5, hC, hbm⟩ := T.low.cls
  obtain ⟨fI, fd, iC, tI, F1, b1, b2⟩ := T.init
  obtain ⟨hp, g, dr, tk, os⟩ := s
  have hsz : hp.objs.size ≤ hp.objs.size + 1 := Nat.le_succ _
  have hn : H (hp.objs.size + 1) = none := I.hok.fresh hsz
  have kk : ∀ (ws : List Value) b o, hp.get? b = some o → ((hp.push (PySem.W.kdv_tup ws)).push (PySem.HandSPX.excO C hp.objs.size)).get? b = some o := fun ws b o e => Heap.get?_push_of_some _ (Heap.get?_push_of_some _ e)
  have hget : ∀ ws : List Value, ((hp.push (PySem.W.kdv_tup ws)).push (PySem.HandSPX.excO C hp.objs.size)).get? (hp.objs.size + 1) = some (PySem.HandSPX.excO C hp.objs.size) := fun ws => by heap_get
  have I2 : ∀ ws : List Value, Inv X pins σ (upd H (hp.objs.size + 1) (exo (hp.objs.size + 1) C none)) ⟨(hp.push (PySem.W.kdv_tup ws)).push (PySem.HandSPX.excO C hp.objs.size), g, dr, tk, os⟩ := fun ws =>
    I.laid (t' := tk) (a := hp.objs.size + 1) (o := exo (hp.objs.size + 1) C none) (h' := (hp.push (PySem.W.kdv_tup ws)).push (PySem.HandSPX.excO C hp.objs.size)) (kk ws) hsz (exo_ok (hget ws))
  have hq : spEi X.K f [.ref (hp.objs.size + 1), v] (upd H (hp.objs.size + 1) (exo (hp.objs.size + 1) C none)) (fun v2 H2 => v2 = .non ∧ Q (.ref (hp.objs.size + 1)) H2) (fun _ _ _ => False) :=
    ⟨_, C, v, rfl, T.low, T.noF, upd_same, fun dx nd ne => ⟨rfl, let z := ex_new (f := f) (v := v) hn nd; h _ _ hn z.1 z.2⟩⟩
  have r2 : Vals [V.ref (hp.objs.size + 1), v] [Value.ref (hp.objs.size + 1), u] := .cons rfl (.cons r .nil)
  have done : ∀ (ws : List Value) (rr : Result) (s' : Shared), CR CX0 X.stack X.prog X.w (upd H (hp.objs.size + 1) (exo (hp.objs.size + 1) C none)) ⟨(hp.push (PySem.W.kdv_tup ws)).push (PySem.HandSPX.excO C hp.objs.size), g, dr, tk, os⟩
      (fun v2 H2 => v2 = .non ∧ Q (.ref (hp.objs.size + 1)) H2) (fun _ _ _ => False) rr s' → PySem.W.InitBack (hp.objs.size + 1) (fun r' s'' => match r' with | .ok (.ret u') => EP X pins σ Q u' s'' | .ok _ => False | .error e' => X.xe e' s'') rr s' := by
    intro ws rr s' hs
    match rr, hs with
    | .ok (.ret u'), hs =>
      obtain ⟨v2, H2, J, rv, ev, q2⟩ := (I2 ws).after hs
      subst ev
      exact ⟨rv, ⟨V.ref (hp.objs.size + 1), H2, J, rfl, q2⟩⟩
  rcases hform with ⟨rfl, rfl⟩ | ⟨rfl, rfl⟩
  · refine wpAny_call (PySem.HandSPX.call_own F.excBase_ValueError (fun Y => PySem.HandSPX.refsVE_contains Y bm hbm) (I.kIn _ _ hC) (PySem.W.looks_findIn I.kIn iC) (fun self => PySem.W.bind_fn I.kIn self tI) (by rw [sizeLine_eq]; exact (by decide : 1 ≤ 16777216))
      (codeAny_mono (F1.run _ X.stack _ _ ⟨[.ref (hp.objs.size + 1), u], []⟩ [.ref (hp.objs.size + 1), u] _ _ (fun _ _ _ => False) (hr.make C [u] []) ((I2 [u]).env0.make C [u] []) (b1 _ _ _) r2 hq) fun r s' hq' => ?_))
    have z := done [u] r s' hq'
    cases r with
    | error er => exact z
    | ok fl => cases fl <;> exact z
  · refine wpAny_call (PySem.EK.call_kw F.excBase_ValueError (fun Y => PySem.HandSPX.refsVE_contains Y bm hbm) (I.kIn _ _ hC) (PySem.W.looks_findIn I.kIn iC) (fun self => PySem.W.bind_fn I.kIn self tI)
      (codeAny_mono (F1.run _ X.stack _ _ ⟨[.ref (hp.objs.size + 1)], [(f, u)]⟩ [.ref (hp.objs.size + 1), u] _ _ (fun _ _ _ => False) (hr.make C [] [(f, u)]) ((I2 []).env0.make C [] [(f, u)]) (b2 _ _ _) r2 hq) fun r s' hq' => ?_))
    have z := done [] r s' hq'
    cases r with
    | error er => exact z
    | ok fl => cases fl <;> exact z
/-- the values of one keyword -/
theorem tEx_args {C : Addr} {f : Str} {te : TE} {σ : L2.St} {H : Hp} {Q : VK} (h : tEx C f te σ H Q) :
    tCons te tNil σ H (fun vs H1 => ∃ v, vs = [v] ∧ ∀ a H2, H1 a = none → Same H1 H2 → Exo H2 a C f v → Q (.ref a) H2) := by
  have e : (fun v H1 => tNil σ H1 fun xs H2 => ∃ v', v :: xs = [v'] ∧ ∀ a H2', H2 a = none → Same H2 H2' → Exo H2' a C f v' → Q (.ref a) H2') =
      (fun (v : V) (H1 : Hp) => ∀ a H2, H1 a = none → Same H1 H2 → Exo H2 a C f v → Q (.ref a) H2) := by
    funext v H1
    exact propext ⟨fun ⟨v', e1, k⟩ => by cases e1; exact k, fun k => ⟨v, rfl, k⟩⟩
  show te σ H _
  rw [e]
  exact h
/-- C(e) -/
theorem pe_ex (T : Ec X.prog X.w X.K X.mg X.base x f C) (hr : Room 2 X.A) (he : PE X e te) (hg : Gl X x := by rfl) (hdb : (x == ("__debug__" : Str)) = false := by decide)
    (hs : starEach [e] X.env = (false, eval e X.env) :: starEach [] X.env := by rfl) : PE X (.Call (.Name x p) [e] [] pos) (tEx C f te) := by
  constructor
  intro pins s σ H Q I h
  refine wpAny_Call_Name_kw (ld_glob I hg T.gC ?_ hdb)
  have ha : PA X [e] (tCons te tNil) := pa_cons he pa_nil hs
  refine PySem.W.callWith_K (h₀ := X.base) I.ok.mod.kin T.low.kC (thn (ha.run pos pins s σ H _ I (tEx_args h)) fun us s1 ⟨vs, H1, I1, r, v, ev, k⟩ => ⟨I1.kIn, ?_⟩) hs
  subst ev
  cases r with
  | cons ru rn =>
    cases rn
    exact run_ex T hr I1 ru (.inl ⟨rfl, rfl⟩) k
/-- C(f = e) -/
theorem pe_exK (T : Ec X.prog X.w X.K X.mg X.base x f C) (hr : Room 2 X.A) (he : PE X e te) (hg : Gl X x := by rfl) (hdb : (x == ("__debug__" : Str)) = false := by decide)
    (hall : (backToKw pos (keywordEach [⟨some f, e, kpos⟩] X.env)).all (·.1.isSome) = true := by rfl) (hks : (backToKw pos (keywordEach [⟨some f, e, kpos⟩] X.env)).filterMap (·.1) = [f] := by rfl)
    (hpl : ((backTo pos (starEach [] X.env)).any (·.1) || (backToKw pos (keywordEach [⟨some f, e, kpos⟩] X.env)).any (·.1.isNone)) = false := by rfl) :
    PE X (.Call (.Name x p) [] [⟨some f, e, kpos⟩] pos) (tEx C f te) := by
  constructor
  intro pins s σ H Q I h
  refine wpAny_Call_Name_kw (ld_glob I hg T.gC ?_ hdb)
  refine PySem.W.callWith_KW0 (h₀ := X.base) I.ok.mod.kin T.low.kC hall ?_ hpl
  have hk : PK X [⟨some f, e, kpos⟩] (tCons te tNil) := pk_cons he pk_nil
  refine thn (hk.run pos pins s σ H _ I (tEx_args h)) fun ws s2 ⟨zs, H2, I2, rz, v, ev, k⟩ => ⟨I2.kIn, ?_⟩
  subst ev
  rw [hks]
  cases rz with
  | cons ru rn =>
    cases rn
    exact run_ex T hr I2 ru (.inr ⟨rfl, rfl⟩) k
end
end Q0

namespace Q0
open PySem PySem.Spec PyProof.Rows L2

/-- an exception of the class at C is to be read at a -/
def Inx (H : Hp) (a C : Addr) : Prop := H a = some (exo a C none) ∨ (∃ dx fs, H a = some (exo a C (some dx)) ∧ H dx = some (exd dx fs)) ∨
  ∃ oe u dx fs, H a = some (.frz oe u) ∧ oe.cls = .ref C ∧ oe.dict = some dx ∧ (∃ vs, oe.data = .fields vs) ∧ H dx = some (exd dx fs)
theorem Exo.inx {H : Hp} {a C : Addr} {f : Str} {v : V} : Exo H a C f v → Inx H a C := fun ⟨dx, h1, h2⟩ => .inr (.inl ⟨dx, _, h1, h2⟩)
theorem Inx.mono {H H' : Hp} {a C : Addr} (s : Same H H') : Inx H a C → Inx H' a C
  | .inl h => .inl (s _ _ h)
  | .inr (.inl ⟨dx, fs, h1, h2⟩) => .inr (.inl ⟨dx, fs, s _ _ h1, s _ _ h2⟩)
  | .inr (.inr ⟨oe, u, dx, fs, h1, h2, h3, h4, h5⟩) => .inr (.inr ⟨oe, u, dx, fs, s _ _ h1, h2, h3, h4, s _ _ h5⟩)
section
variable {X : Cx} {pins : List (Addr × Obj)} {σ : L2.St} {H : Hp} {s : Shared}
theorem ns1_get {h : Heap} {dx : Addr} {mA : Str → Option Value} (n : h.Ns1 dx mA) : ∃ o, h.get? dx = some o := let ⟨o, _, _, e, _⟩ := n; ⟨o, e⟩
theorem Inx.at (I : Inv X pins σ H s) {a C : Addr} (h : Inx H a C) : ∃ ox od, PySem.W.InstAt s.heap a ox C od := by
  rcases h with h | ⟨dx, fs, h1, h2⟩ | ⟨oe, u, dx, fs, h1, h2, h3, ⟨vs, h4⟩, h5⟩
  · obtain ⟨t1, ho⟩ := exo_at I.hok h
    exact ⟨_, none, ho, rfl, rfl, trivial⟩
  · obtain ⟨t1, ho⟩ := exo_at I.hok h1
    obtain ⟨mA, hn, _⟩ := exd_at I.hok h2
    obtain ⟨od, hd⟩ := ns1_get hn
    exact ⟨_, some od, ho, rfl, rfl, hd⟩
  · obtain ⟨ho, _⟩ := I.hok a _ h1
    obtain ⟨mA, hn, _⟩ := exd_at I.hok h5
    obtain ⟨od, hd⟩ := ns1_get hn
    refine ⟨oe, some od, ho, h2, ?_, ?_⟩
    · unfold PySem.W.notCls
      rw [h4]
    · rw [h3]
      exact hd
/-- isinstance(e, c), isinstance(e, (c, ..)), e an exception -/
def rIsx (K : PySem.W.Frag) : List V → Hp → VK → Prop := fun xs H Q => ∃ (a C : Addr) (c : V) (u : Value) (b : Bool), xs = [.ref a, c] ∧ Inx H a C ∧ ExcC K C ∧ ClsV c u ∧ PySem.W.kitOne K (.ref C) u = some b ∧ Q (.bl b) H
def rIsxT (K : PySem.W.Frag) : List V → Hp → VK → Prop := fun xs H Q => ∃ (a C tp : Addr) (cs : List V) (us : List Value) (b : Bool), xs = [.ref a, .ref tp] ∧ Inx H a C ∧ ExcC K C ∧ H tp = some (.tup cs) ∧ Paired ClsV cs us ∧ PySem.W.kitAny K (.ref C) us = some b ∧ Q (.bl b) H
theorem exc_kit {K : PySem.W.Frag} {C x : Addr} {ox : Obj} {od : Option Obj} (T : ExcC K C) : PySem.W.KitX K (.ref x) (.ref C) (fun h => PySem.W.InstAt h x ox C od) :=
  PySem.W.kitx_exc (by obtain ⟨cd, hc, _⟩ := PySem.W.any_some T.hd; rw [hc]; rfl) T.hg T.hk T.hs T.ha T.hn T.ht T.hm
theorem call_isx : CallR X (.builtin "isinstance") (rIsx X.K) := by
  intro pins s σ H xs us Q I r h
  obtain ⟨a, C, c, u, b, rfl, hx, T, k, e, q⟩ := h
  obtain ⟨u1, u2, rfl, r1, r2⟩ := vals2 r
  cases (show u1 = Value.ref a from r1)
  cases k.eq r2
  obtain ⟨ox, od, J⟩ := hx.at I
  exact PySem.W.kia_one (exc_kit T) I.kIn J e (fun z => nomatch z) fun tk => ⟨.bl b, H, I.tok tk, rfl, q⟩
theorem call_isxT : CallR X (.builtin "isinstance") (rIsxT X.K) := by
  intro pins s σ H xs us Q I r h
  obtain ⟨a, C, tp, cs, ws, b, rfl, hx, T, hT, k, e, q⟩ := h
  obtain ⟨u1, u2, rfl, r1, r2⟩ := vals2 r
  cases (show u1 = Value.ref a from r1)
  cases (show u2 = Value.ref tp from r2)
  obtain ⟨ox, od, J⟩ := hx.at I
  obtain ⟨_, its, rv, o, h1, h2, n, h3⟩ := (show ObjOk X.prog X.w H s.heap tp (.tup cs) from I.hok tp _ hT)
  cases ClsV.all k rv
  obtain ⟨oc, od', dt, sl⟩ := o
  simp only at h2 h3
  subst h2 h3
  exact PySem.W.kia_tup (exc_kit T) I.kIn J h1 e (fun z => nomatch z) fun tk => ⟨.bl b, H, I.tok tk, rfl, q⟩
/-- e.f, e an exception that keeps f -/
def tExf (K : PySem.W.Frag) (f : Str) (te : TE) : TE := fun σ H Q => te σ H fun x H1 => ∃ (a C : Addr) (v : V), x = .ref a ∧ XfC K C ∧ PySem.W.findIn K (.ref C) f = some none ∧ Exo H1 a C f v ∧ Q v H1
theorem pe_exf {e : Expr} {te : TE} {pos : Pos} {f : Str} (he : PE X e te) (hb : attributeBase e f X.env (eval e X.env) = eval e X.env := by rfl) : PE X (.Attribute e f pos) (tExf X.K f te) := by
  constructor
  intro pins s σ H Q I h
  refine attr_of hb (thn (he.run pins s σ H _ I h) fun u s1 hh => ?_)
  obtain ⟨x, H1, I1, rx, a, C, v, ex, T, hno, ⟨dx, h1, h2⟩, q⟩ := hh
  subst ex
  obtain rfl : u = Value.ref a := rx
  obtain ⟨t1, ho⟩ := exo_at I1.hok h1
  obtain ⟨mA, hns, hr⟩ := exd_at I1.hok h2
  obtain ⟨od, hd, hl⟩ := lookIn_ns hns
  have l : List.lookup f [(f, v)] = some v := by simp [List.lookup]
  obtain ⟨u, hu, ru⟩ := RelO.some_of (v := v) (o := mA f) (by rw [← l]; exact hr f)
  have J : PySem.W.InstAt s1.heap a _ C (some od) := ⟨ho, rfl, rfl, hd⟩
  exact HandSPX.exc_get I1.kIn J T.ga T.gg T.exC (PySem.W.findObj_own T.hdC hno rfl (by rw [hl, hu])) (handed_of ru) ⟨v, H1, I1.tok _, ru, q⟩
/-- C(), C an own exception class without an __init__ -/
def tEx0 (C : Addr) : TE := fun _ H Q => ∀ a, H a = none → Q (.ref a) (upd H a (exo a C none))
theorem pe_ex0 {x : Str} {C : Addr} {bmB : List Value} {B newId initId : String} {p pos : Pos} (F : ExcBaseFacts B newId initId bmB) (q : PySem.W.excIn X.K C bmB newId = true) (gC : X.mg x = some (.ref C)) (kC : PySem.W.keepIn X.K (.ref C) = true)
    (hg : Gl X x := by rfl) (hdb : (x == ("__debug__" : Str)) = false := by decide) : PE X (.Call (.Name x p) [] [] pos) (tEx0 C) := by
  constructor
  intro pins s σ H Q I h
  refine wpAny_Call_Name_kw (ld_glob I hg gC ?_ hdb)
  refine PySem.W.callWith_K0 (first := []) I.kIn kC ?_
  show wpAny _ _ (call (.ref C) []) _ _ _
  obtain ⟨bm, N, nm, qn, bs, hdct, sn, sub, ab, col, dd, k0, k1, k2, k3, k5, mN, hC, hN, hni, T⟩ := exc_obj I.kIn q
  refine wpAny_call_exc_subT F T hC hN hni (fun h' a hm => ?_) (by show 0 ≤ sizeLine; exact Nat.zero_le _)
  have hn : H a = none := I.hok.gone hm.new
  obtain ⟨t, ht, _, _⟩ := hm.there
  exact ⟨.ref a, _, I.laidN hm.keeps hm.new hn (exo_ok ht), rfl, h a hn⟩
end
end Q0

namespace Q0
open PySem PySem.Spec PyProof.Rows L2

/-! ### raise C(e), raise C(f = e) -/
def tRx (C : Addr) (f : Str) (te : TE) : L2.St → Hp → XK → Prop := fun σ H Q => te σ H fun v H1 => ∀ d H2, Same H1 H2 → H2 d = some (.xd [(f, v)]) → Q (.ref C) (some d) H2
section
variable {X : Cx} {x f : Str} {C : Addr} {e : Expr} {te : TE} {p pos kpos : Pos}
theorem tRx_args {C : Addr} {f : Str} {te : TE} {σ : L2.St} {H : Hp} {Q : XK} (h : tRx C f te σ H Q) :
    tCons te tNil σ H (fun vs H1 => ∃ v, vs = [v] ∧ ∀ d H2, Same H1 H2 → H2 d = some (.xd [(f, v)]) → Q (.ref C) (some d) H2) := by
  have e : (fun v H1 => tNil σ H1 fun xs H2 => ∃ v', v :: xs = [v'] ∧ ∀ d H2', Same H2 H2' → H2' d = some (HO.xd [(f, v')]) → Q (.ref C) (some d) H2') =
      (fun (v : V) (H1 : Hp) => ∀ d H2, Same H1 H2 → H2 d = some (HO.xd [(f, v)]) → Q (.ref C) (some d) H2) := by
    funext v H1
    exact propext ⟨fun ⟨v', e1, k⟩ => by cases e1; exact k, fun k => ⟨v, rfl, k⟩⟩
  show te σ H _
  rw [e]
  exact h
theorem run_rx {pins : List (Addr × Obj)} {σ : L2.St} {H : Hp} {s : Shared} {Q : XK} {u : Value} {v : V} {us : List Value} {kw : List (Str × Value)} (T : Ec X.prog X.w X.K X.mg X.base x f C) (hr : Room 2 X.A)
    (I : Inv X pins σ H s) (r : RelV v u) (hform : (us = [u] ∧ kw = []) ∨ (us = [] ∧ kw = [(f, u)]))
    (h : ∀ d H2, Same H H2 → H2 d = some (.xd [(f, v)]) → Q (.ref C) (some d) H2) :
    wpAny (model X.prog X.w) X.A (call (.ref C) us kw) (MkP X pins σ Q) X.xe s := by
  obtain ⟨nm, q, N, bs, bm, sn, sub, ab, col, dd, k0, k1, k2, k3, k5, hC, hbm⟩ := T.low.cls
  obtain ⟨fI, fd, iC, tI, F1, b1, b2⟩ := T.init
  obtain ⟨hp, g, dr, tk, os⟩ := s
  have hsz : hp.objs.size ≤ hp.objs.size + 1 := Nat.le_succ _
  have hn : H (hp.objs.size + 1) = none := I.hok.fresh hsz
  have kk : ∀ (ws : List Value) b o, hp.get? b = some o → ((hp.push (PySem.W.kdv_tup ws)).push (PySem.HandSPX.excO C hp.objs.size)).get? b = some o := fun ws b o e => Heap.get?_push_of_some _ (Heap.get?_push_of_some _ e)
  have hget : ∀ ws : List Value, ((hp.push (PySem.W.kdv_tup ws)).push (PySem.HandSPX.excO C hp.objs.size)).get? (hp.objs.size + 1) = some (PySem.HandSPX.excO C hp.objs.size) := fun ws => by heap_get
  have I2 : ∀ ws : List Value, Inv X pins σ (upd H (hp.objs.size + 1) (exo (hp.objs.size + 1) C none)) ⟨(hp.push (PySem.W.kdv_tup ws)).push (PySem.HandSPX.excO C hp.objs.size), g, dr, tk, os⟩ := fun ws =>
    I.laid (t' := tk) (a := hp.objs.size + 1) (o := exo (hp.objs.size + 1) C none) (h' := (hp.push (PySem.W.kdv_tup ws)).push (PySem.HandSPX.excO C hp.objs.size)) (kk ws) hsz (exo_ok (hget ws))
  have hq : spEi X.K f [.ref (hp.objs.size + 1), v] (upd H (hp.objs.size + 1) (exo (hp.objs.size + 1) C none))
      (fun v2 H2 => v2 = .non ∧ ∃ d, H2 (hp.objs.size + 1) = some (exo (hp.objs.size + 1) C (some d)) ∧ H2 d = some (exd d [(f, v)]) ∧ H d = none ∧ Q (.ref C) (some d) (upd (del H2 (hp.objs.size + 1)) d (.xd [(f, v)]))) (fun _ _ _ => False) := by
    refine ⟨_, C, v, rfl, T.low, T.noF, upd_same, fun dx nd ne => ⟨rfl, dx, upd_same, ?_, ?_, h dx _ (fun b o z => ?_) upd_same⟩⟩
    · rw [upd_ne ne, upd_same]
    · rw [upd_ne ne] at nd
      exact nd
    · have nd0 : H dx = none := by rw [upd_ne ne] at nd; exact nd
      rw [upd_ne (ne_of_none z nd0), del_ne (ne_of_none z hn), upd_ne (ne_of_none z hn), upd_ne (ne_of_none z nd0), upd_ne (ne_of_none z hn)]
      exact z
  have r2 : Vals [V.ref (hp.objs.size + 1), v] [Value.ref (hp.objs.size + 1), u] := .cons rfl (.cons r .nil)
  have done : ∀ (ws : List Value) (rr : Result) (s' : Shared), CR CX0 X.stack X.prog X.w (upd H (hp.objs.size + 1) (exo (hp.objs.size + 1) C none)) ⟨(hp.push (PySem.W.kdv_tup ws)).push (PySem.HandSPX.excO C hp.objs.size), g, dr, tk, os⟩
      (fun v2 H2 => v2 = .non ∧ ∃ d, H2 (hp.objs.size + 1) = some (exo (hp.objs.size + 1) C (some d)) ∧ H2 d = some (exd d [(f, v)]) ∧ H d = none ∧ Q (.ref C) (some d) (upd (del H2 (hp.objs.size + 1)) d (.xd [(f, v)]))) (fun _ _ _ => False) rr s' →
      PySem.W.InitBack (hp.objs.size + 1) (fun r' s'' => match r' with | .ok (.ret u') => MkP X pins σ Q u' s'' | .ok _ => False | .error e' => X.xe e' s'') rr s' := by
    intro ws rr s' hs
    match rr, hs with
    | .ok (.ret u'), ⟨v2, H2, os2, bare2, un2, hok2, rv, ev, d, ea, ed, hd1, q2⟩ =>
      subst ev
      obtain ⟨h2, g2, d2, t2, os'⟩ := s'
      exact ⟨rv, mk_end (raises_own T.low.exC T.low.tyC) I hsz (kk ws) un2 hok2 os2 bare2 ea ed hd1 q2⟩
  rcases hform with ⟨rfl, rfl⟩ | ⟨rfl, rfl⟩
  · refine wpAny_call (PySem.HandSPX.call_own F.excBase_ValueError (fun Y => PySem.HandSPX.refsVE_contains Y bm hbm) (I.kIn _ _ hC) (PySem.W.looks_findIn I.kIn iC) (fun self => PySem.W.bind_fn I.kIn self tI) (by rw [sizeLine_eq]; exact (by decide : 1 ≤ 16777216))
      (codeAny_mono (F1.run _ X.stack _ _ ⟨[.ref (hp.objs.size + 1), u], []⟩ [.ref (hp.objs.size + 1), u] _ _ (fun _ _ _ => False) (hr.make C [u] []) ((I2 [u]).env0.make C [u] []) (b1 _ _ _) r2 hq) fun r s' hq' => ?_))
    have z := done [u] r s' hq'
    cases r with
    | error er => exact z
    | ok fl => cases fl <;> exact z
  · refine wpAny_call (PySem.EK.call_kw F.excBase_ValueError (fun Y => PySem.HandSPX.refsVE_contains Y bm hbm) (I.kIn _ _ hC) (PySem.W.looks_findIn I.kIn iC) (fun self => PySem.W.bind_fn I.kIn self tI)
      (codeAny_mono (F1.run _ X.stack _ _ ⟨[.ref (hp.objs.size + 1)], [(f, u)]⟩ [.ref (hp.objs.size + 1), u] _ _ (fun _ _ _ => False) (hr.make C [] [(f, u)]) ((I2 []).env0.make C [] [(f, u)]) (b2 _ _ _) r2 hq) fun r s' hq' => ?_))
    have z := done [] r s' hq'
    cases r with
    | error er => exact z
    | ok fl => cases fl <;> exact z
theorem pmk_ex (T : Ec X.prog X.w X.K X.mg X.base x f C) (hr : Room 2 X.A) (he : PE X e te) (hg : Gl X x := by rfl) (hdb : (x == ("__debug__" : Str)) = false := by decide)
    (hs : starEach [e] X.env = (false, eval e X.env) :: starEach [] X.env := by rfl) : PMk X (.Call (.Name x p) [e] [] pos) (tRx C f te) := by
  intro pins s σ H Q I h
  refine wpAny_Call_Name_kw (ld_glob I hg T.gC ?_ hdb)
  have ha : PA X [e] (tCons te tNil) := pa_cons he pa_nil hs
  refine PySem.W.callWith_K (h₀ := X.base) I.ok.mod.kin T.low.kC (thn (ha.run pos pins s σ H _ I (tRx_args h)) fun us s1 ⟨vs, H1, I1, r, v, ev, k⟩ => ⟨I1.kIn, ?_⟩) hs
  subst ev
  cases r with
  | cons ru rn =>
    cases rn
    exact run_rx T hr I1 ru (.inl ⟨rfl, rfl⟩) k
theorem pmk_exK (T : Ec X.prog X.w X.K X.mg X.base x f C) (hr : Room 2 X.A) (he : PE X e te) (hg : Gl X x := by rfl) (hdb : (x == ("__debug__" : Str)) = false := by decide)
    (hall : (backToKw pos (keywordEach [⟨some f, e, kpos⟩] X.env)).all (·.1.isSome) = true := by rfl) (hks : (backToKw pos (keywordEach [⟨some f, e, kpos⟩] X.env)).filterMap (·.1) = [f] := by rfl)
    (hpl : ((backTo pos (starEach [] X.env)).any (·.1) || (backToKw pos (keywordEach [⟨some f, e, kpos⟩] X.env)).any (·.1.isNone)) = false := by rfl) :
    PMk X (.Call (.Name x p) [] [⟨some f, e, kpos⟩] pos) (tRx C f te) := by
  intro pins s σ H Q I h
  refine wpAny_Call_Name_kw (ld_glob I hg T.gC ?_ hdb)
  refine PySem.W.callWith_KW0 (h₀ := X.base) I.ok.mod.kin T.low.kC hall ?_ hpl
  have hk : PK X [⟨some f, e, kpos⟩] (tCons te tNil) := pk_cons he pk_nil
  refine thn (hk.run pos pins s σ H _ I (tRx_args h)) fun ws s2 ⟨zs, H2, I2, rz, v, ev, k⟩ => ⟨I2.kIn, ?_⟩
  subst ev
  rw [hks]
  cases rz with
  | cons ru rn =>
    cases rn
    exact run_rx T hr I2 ru (.inr ⟨rfl, rfl⟩) k
end

/-! ### a def called where an exception is handled that is its argument -/
open L2H in
structure FnP (P : Program) (w : World) (K : PySem.W.Frag) (mg : Str → Option Value) (base : Heap) (k : Nat) (f : Addr) (fd : FuncData) (ps : List Str) (p : Addr × Obj) (sp : Sp) : Prop where
  len : ∀ vs H Q E, sp vs H Q E → vs.length = ps.length
  run : ∀ (A : Around) (outer : List Env) (s : Shared) (H : Hp) (args : Args) (us : List Value) (vs : List V) (Q : VK) (E : XK), RoomH k A → PinOk outer H s p → Env0 P w K mg base A outer s H → BindsTo s fd args (ps.zip us) → Vals vs us → sp vs H Q E →
    codeAny (model P w) A (.call (.ref f) args) (CR CX0 outer P w H s Q E) s
open L2H in
theorem fun_p {P : Program} {w : World} {K : PySem.W.Frag} {mg : Str → Option Value} {base : Heap} {k : Nat} {f : Addr} {fd : FuncData} {ps : List Str} {p : Addr × Obj} {sp : Sp} {x qual : Str} {st : Stmt} {N : List Str}
    (F : Fun K x qual st f fd) (S : FnScope N ps (defScope st)) (len : ∀ vs H Q E, sp vs H Q E → vs.length = ps.length)
    (hbody : ∀ (cdv : Value) (A : Around) (outer : List Env) (s : Shared) (H : Hp) (vs : List V) (Q : VK) (E : XK), RoomH k (A.deeper (envOfC qual (defScope st) s.heap.objs.size f cdv)) → sp vs H Q E →
      ∃ t, PSs (cxH CX0 P w K mg base N qual (defScope st) f cdv A outer s H E p).nox (defBody st) t ∧ t { nx := fun _ H' => Q .non H', rt := Q } (L2.start N vs) H) :
    FnP P w K mg base (k + 1) f fd ps p sp := by
  obtain ⟨oc, od, kV, doc, pm, an, cdv, ct, osl, rfl, lk, hcd⟩ := F.ex
  refine ⟨len, fun A outer s H args us vs Q E hr hpin e0 hb r hsp => ?_⟩
  have old : ∀ b o, base.get? b = some o → s.heap.get? b = some o := fun b o e => (e0.bs b o e).1
  have KX : K.In s.heap := e0.mod.kin.keeps old
  have hkind : ∀ y ∈ ps.zip us, (defScope st).names.lookup y.1 = some .local ∨
      ((defScope st).names.lookup y.1 = some .cell ∧ ((cellsFrom (s.heap.objs.size + 1) (defScope st).names []).lookup y.1).isSome = true) := by
    intro ⟨n, v⟩ hy
    cases S.par n (List.of_mem_zip hy).1 with
    | inl q => exact .inl q
    | inr q => exact .inr ⟨q, PySem.W.cellsFrom_some _ _ _ (.inl q)⟩
  refine codeAny_call_function hr.depth (KX _ _ lk) rfl S.co S.gen rfl (PySem.W.codeRec_of KX hcd) (hb _ _ _ _ ?_)
  refine wpAny_newFunctionEnv_cells S.kind hkind fun env he s1 x => ?_
  subst he
  refine ⟨(e0.mod.nolimit.keeps old).keeps x.toInCall.keep, codeAny_func ?_⟩
  obtain ⟨t, ht, ht2⟩ := hbody cdv A outer s H vs Q E (hr.deeper _) hsp
  have I := inv_startH (CX := CX0) (E := E) (qual := qual) (f := f) (cd := cdv) S hpin e0 (len _ _ _ _ hsp) r x
  refine wpAny_mono (ht.nox.run [] s1 (L2.start N vs) H _ I ht2) (fun fl s' hs => ?_) fun e s' hs => hs
  cases fl with
  | ret u =>
    obtain ⟨v, σ', H', J, rv, q⟩ := hs
    exact (⟨v, H', J.os, J.bare, J.base, J.hok, rv, q⟩ : CE outer P w H s Q u s')
  | next =>
    obtain ⟨σ', H', J, q⟩ := hs
    exact (⟨V.non, H', J.os, J.bare, J.base, J.hok, rfl, q⟩ : CE outer P w H s Q Value.none s')
  | brk => exact False.elim hs.choose_spec.choose_spec.2
  | cont => exact False.elim hs.choose_spec.choose_spec.2
/-- told by its name -/
structure GdP (P : Program) (w : World) (K : PySem.W.Frag) (mg : Str → Option Value) (base : Heap) (k : Nat) (x : Str) (ps : List Str) (p : Addr × Obj) (sp : Sp) : Prop where
  ex : ∃ (f : Addr) (fd : FuncData), mg x = some (.ref f) ∧ PySem.W.keepIn K (.ref f) = true ∧ Binds K fd ps [] ∧ FnP P w K mg base k f fd ps p sp
section
variable {X : Cx} {k : Nat} {ps : List Str} {sp : Sp} {x : Str} {q pos : Pos} {e : Expr} {es : List Expr} {t : TA} {p : Addr × Obj}
open L2H in
theorem pe_p (G : GdP X.prog X.w X.K X.mg X.base k x ps p sp) (hr : RoomH k X.A) (hp : p ∈ X.pn) (ha : PA X (e :: es) t) (hg : Gl X x := by rfl) (hdb : (x == ("__debug__" : Str)) = false := by decide)
    (he : starEach (e :: es) X.env = (false, eval e X.env) :: starEach es X.env := by rfl) (hpl : (backTo pos (starEach es X.env)).any (·.1) = false := by rfl) :
    PE X (.Call (.Name x q) (e :: es) [] pos) (tCall sp [] E0 t) := by
  obtain ⟨f, fd, hm, hk, hb, F⟩ := G.ex
  constructor
  intro pins s σ H Q I h
  refine wpAny_Call_Name_kw (ld_glob I hg hm ?_ hdb)
  refine PySem.W.callWith_K (h₀ := X.base) I.ok.mod.kin hk ?_ he hpl
  refine thn (ha.run pos pins s σ H _ I h) fun us s1 ⟨vs, H1, I1, r, q⟩ => ⟨I1.kIn, ?_⟩
  have q2 : sp (vs ++ []) H1 Q E0 := q
  rw [List.append_nil] at q2
  have hl : us.length = ps.length := by
    rw [← r.length]
    exact F.len _ _ _ _ q2
  have b := hb s1 us I1.kIn (by rw [List.append_nil]; exact hl)
  rw [List.append_nil] at b
  have z := I1.pin p (List.mem_append_left _ hp)
  have hpin : PinOk X.stack H1 s1 p := ⟨z.1, z.2.1, fun hm => (List.mem_cons.mp (I1.stkSub p.1 hm)).elim z.2.2.1 z.2.2.2.1, z.2.2.2.2⟩
  refine wpAny_call (codeAny_mono (F.run X.A X.stack s1 H1 ⟨us, []⟩ us vs Q E0 hr hpin I1.env0 b r q2) fun r s' hs => ?_)
  match r, hs with
  | .ok (.ret u), hs => exact I1.after hs
/-- isinstance of the exception that is handled -/
def rIsp (K : PySem.W.Frag) (p : Addr × Obj) : List V → Hp → VK → Prop := fun xs H Q => ∃ (C dx : Addr) (fs : List (Str × V)) (c : V) (u : Value) (b : Bool), xs = [.ref p.1, c] ∧ p.2.cls = .ref C ∧ p.2.dict = some dx ∧ (∃ vs, p.2.data = .fields vs) ∧ H dx = some (.xd fs) ∧ ExcC K C ∧ ClsV c u ∧ PySem.W.kitOne K (.ref C) u = some b ∧ Q (.bl b) H
def rIspT (K : PySem.W.Frag) (p : Addr × Obj) : List V → Hp → VK → Prop := fun xs H Q => ∃ (C dx tp : Addr) (fs : List (Str × V)) (cs : List V) (us : List Value) (b : Bool), xs = [.ref p.1, .ref tp] ∧ p.2.cls = .ref C ∧ p.2.dict = some dx ∧ (∃ vs, p.2.data = .fields vs) ∧ H dx = some (.xd fs) ∧ ExcC K C ∧
  H tp = some (.tup cs) ∧ Paired ClsV cs us ∧ PySem.W.kitAny K (.ref C) us = some b ∧ Q (.bl b) H
theorem pin_at {pins : List (Addr × Obj)} {σ : L2.St} {H : Hp} {s : Shared} {C dx : Addr} {fs : List (Str × V)} (I : Inv X pins σ H s) (hp : p ∈ X.pn) (h1 : p.2.cls = .ref C) (h2 : p.2.dict = some dx) (h3 : ∃ vs, p.2.data = .fields vs) (h4 : H dx = some (.xd fs)) :
    ∃ od, PySem.W.InstAt s.heap p.1 p.2 C (some od) := by
  obtain ⟨ho, _⟩ := I.pin p (List.mem_append_left _ hp)
  obtain ⟨vs, h3⟩ := h3
  obtain ⟨mA, hn, _⟩ := (show ObjOk X.prog X.w H s.heap dx (.xd fs) from I.hok dx _ h4)
  obtain ⟨od, hd⟩ := ns1_get hn
  refine ⟨od, ho, h1, ?_, ?_⟩
  · unfold PySem.W.notCls
    rw [h3]
  · rw [h2]
    exact hd
theorem call_isp (hp : p ∈ X.pn) : CallR X (.builtin "isinstance") (rIsp X.K p) := by
  intro pins s σ H xs us Q I r h
  obtain ⟨C, dx, fs, c, u, b, rfl, h1, h2, h3, h4, T, k, e, q⟩ := h
  obtain ⟨u1, u2, rfl, r1, r2⟩ := vals2 r
  cases (show u1 = Value.ref p.1 from r1)
  cases k.eq r2
  obtain ⟨od, J⟩ := pin_at I hp h1 h2 h3 h4
  exact PySem.W.kia_one (exc_kit T) I.kIn J e (fun z => nomatch z) fun tk => ⟨.bl b, H, I.tok tk, rfl, q⟩
theorem call_ispT (hp : p ∈ X.pn) : CallR X (.builtin "isinstance") (rIspT X.K p) := by
  intro pins s σ H xs us Q I r h
  obtain ⟨C, dx, tp, fs, cs, ws, b, rfl, h1, h2, h3, h4, T, hT, k, e, q⟩ := h
  obtain ⟨u1, u2, rfl, r1, r2⟩ := vals2 r
  cases (show u1 = Value.ref p.1 from r1)
  cases (show u2 = Value.ref tp from r2)
  obtain ⟨od, J⟩ := pin_at I hp h1 h2 h3 h4
  obtain ⟨_, its, rv, o, g1, g2, n, g3⟩ := (show ObjOk X.prog X.w H s.heap tp (.tup cs) from I.hok tp _ hT)
  cases ClsV.all k rv
  obtain ⟨oc, od', dt, sl⟩ := o
  simp only at g2 g3
  subst g2 g3
  exact PySem.W.kia_tup (exc_kit T) I.kIn J g1 e (fun z => nomatch z) fun tk => ⟨.bl b, H, I.tok tk, rfl, q⟩
end
end Q0

namespace Q0
open PySem PySem.Spec PyProof.Rows L2
def top (i : Nat) : Stmt := PySem.Challenge.pw_instances_k01_errors_each_of_its_own.main.body.getD i (.Pass ⟨0, 0, 0, 0⟩)
abbrev s_well : Stmt := top 19
abbrev s_draw : Stmt := top 20
abbrev s_one : Stmt := top 21
abbrev s_odd : Stmt := top 22
abbrev s_made : Stmt := top 23
abbrev s_kinds : Stmt := top 24
abbrev s_kept : Stmt := top 25
abbrev s_plain : Stmt := top 26
abbrev s_caught : Stmt := top 27
abbrev s_right : Stmt := top 28
abbrev s_law : Stmt := top 29

theorem upd_at {H : Hp} {a b : Addr} {u : HO} {o : Option HO} (n : b ≠ a) (h : H b = o) : upd H a u b = o := (upd_ne n).trans h

/-- side conditions -/
local macro_rules | `(tactic| walk_at "sd") => `(tactic| first
  | assumption
  | exact Or.inr ⟨by omega, by omega⟩
  | exact Or.inl ⟨by omega, by omega⟩
  | (show _ ≤ sizeLine; rw [sizeLine_eq]; simp only [List.length_cons, List.length_nil, List.length_append, List.length_map]; omega)
  | (show _ < sizeLine; rw [sizeLine_eq]; simp only [List.length_cons, List.length_nil, List.length_append, List.length_map]; omega)
  | exact ⟨by omega, by omega⟩
  | exact (by decide : _ ≠ _)
  | omega)
/-- what stands at an address -/
local macro_rules | `(tactic| walk_at "hp") => `(tactic| first
  | assumption
  | exact upd_same
  | (refine' upd_at ?hn ?hh; (case hn => first | assumption | (apply Ne.symm; assumption)); (case hh => walk_at "hp")))
/-- a reading, as far as it goes by itself -/
local macro_rules | `(tactic| walk_at "rd1") => `(tactic| first
  | refine ⟨_, rfl, ?_⟩
  | refine ⟨_, _, rfl, rfl, ?_⟩
  | (refine' ⟨_, _, _, _, rfl, rfl, SqL.of ?h1, ?h2, ?_⟩; (case h1 => walk_at "hp"); (case h2 => rfl))
  | (refine' ⟨_, _, _, _, rfl, rfl, SqT.of ?h1, ?h2, ?_⟩; (case h1 => walk_at "hp"); (case h2 => rfl))
  | (refine' ⟨_, _, _, _, rfl, rfl, ?h1, ?h2, ?_⟩; (case h1 => walk_at "hp"); (case h2 => rfl))
  | (refine' ⟨_, _, rfl, SqT.of ?h1, ?h2, ?_⟩; (case h1 => walk_at "hp"); (case h2 => rfl))
  | refine Or.inl ⟨_, rfl, ?_⟩
  | refine And.intro rfl ?_
  | refine And.intro (by walk_at "sd") ?_
  | refine ⟨_, _, rfl, ?_⟩)
local macro_rules | `(tactic| walk_at "rd") => `(tactic| first | (walk_at "rd1"; walk_at "rd") | skip)
local macro_rules | `(tactic| walk_at "st") => `(tactic| repeat (first | exact stab_T | exact stab_V | refine stab_and ?_ ?_))
local macro_rules | `(tactic| walk_at "pre") => `(tactic| repeat (first | exact True.intro | exact ⟨_, rfl, by assumption⟩ | refine And.intro ?_ ?_))

/-- a def of the top, by its name -/
def Df (K : PySem.W.Frag) (mg : Str → Option Value) (x : Str) (st : Stmt) : Prop :=
  ∃ (f : Addr) (fd : FuncData), mg x = some (.ref f) ∧ Fun K x x st f fd
theorem gd_of {P : Program} {w : World} {K : PySem.W.Frag} {mg : Str → Option Value} {base : Heap} {CX : CXT} {k : Nat} {x : Str} {st : Stmt} {ps : List Str} {sp : Sp}
    (D : Df K mg x st)
    (hb : ∀ (kV doc pm : Value) (an : Option Addr) (cdv ct : Value) (us : List Value), us.length = ps.length →
      bindArgs (PySem.W.fnOf x x (defArgs st) (defBody st) (defScope st) .none kV doc pm an cdv ct) ⟨us, []⟩ = pure (ps.zip us))
    (h : ∀ f fd, Fun K x x st f fd → Fn P w K mg base CX k f fd ps sp) : Gd P w K mg base CX k x ps sp :=
  let ⟨f, fd, m, F⟩ := D
  ⟨f, fd, m, F.kp, F.binds hb, h f fd F⟩

/-- names of built-ins that the text leaves alone -/
structure Bi (mg : Str → Option Value) : Prop where
  int : mg "int" = none
  abs : mg "abs" = none
  divmod : mg "divmod" = none
  len : mg "len" = none
  all : mg "all" = none
  range : mg "range" = none
  max : mg "max" = none
  min : mg "min" = none
  repr : mg "repr" = none
  isinstance : mg "isinstance" = none
  verr : mg "ValueError" = none
  lerr : mg "LookupError" = none
  aerr : mg "ArithmeticError" = none
  terr : mg "TypeError" = none
  atterr : mg "AttributeError" = none
  rerr : mg "RuntimeError" = none
  serr : mg "StopIteration" = none
  enumerate : mg "enumerate" = none

/-- the numbers of a well -/
structure WellN (a m c : Int) : Prop where
  a0 : 0 ≤ a
  m0 : 0 ≤ m
  m1 : m < 2147483543
  c0 : 0 ≤ c
/-- p holds a well -/
def Well (H : Hp) (p : Addr) : Prop := ∃ a m c, WellN a m c ∧ H p = some (.lst [.int a, .int m, .int c])
/-- all that stood but what is at p stands -/
def But (p : Addr) (H H' : Hp) : Prop := ∀ b o, b ≠ p → H b = some o → H' b = some o
theorem But.refl {p : Addr} {H : Hp} : But p H H := fun _ _ _ q => q
theorem But.trans {p : Addr} {H H1 H2 : Hp} (a : But p H H1) (b : But p H1 H2) : But p H H2 := fun c o n q => b c o n (a c o n q)
theorem But.new {p q : Addr} {H H1 : Hp} {o : HO} (a : But p H H1) (n : H1 q = none) : But p H (upd H1 q o) := fun c u nc e => by
  rw [upd_ne (ne_of_none (a c u nc e) n)]
  exact a c u nc e
theorem But.put {p : Addr} {H H1 : Hp} {o : HO} (a : But p H H1) : But p H (upd H1 p o) := fun c u nc e => by
  rw [upd_ne nc]
  exact a c u nc e
theorem Well.new {H : Hp} {p q : Addr} {o : HO} (h : Well H p) (n : H q = none) : Well (upd H q o) p :=
  let ⟨a, m, c, N, e⟩ := h
  ⟨a, m, c, N, by rw [upd_ne (ne_of_none e n)]; exact e⟩
theorem Well.ne {H : Hp} {p q : Addr} (h : Well H p) (n : H q = none) : p ≠ q := let ⟨_, _, _, _, e⟩ := h; ne_of_none e n
/-- _law_draw(well, few): a number from 0 to few - 1 -/
def spDraw : Sp := fun vs H Q _ => ∃ (p : Addr) (few : Int), vs = [.ref p, .int few] ∧ Well H p ∧ 0 < few ∧ few < 1000000 ∧
  ∀ (d : Int) (H' : Hp), 0 ≤ d → d < few → Well H' p → But p H H' → Q (.int d) H'
/-- _law_one(well, some): one of them -/
def spOne (K : PySem.W.Frag) : Sp := fun vs H Q _ => ∃ (p t : Addr) (xs : List V), vs = [.ref p, .ref t] ∧ Well H p ∧ SqT K H t xs ∧ p ≠ t ∧ 0 < xs.length ∧ xs.length < 1000000 ∧
  ∀ (i : Nat) (v : V) (H' : Hp), xs[i]? = some v → Well H' p → But p H H' → Q v H'
theorem But.seq {K : PySem.W.Frag} {p t : Addr} {xs : List V} {H H' : Hp} (a : But p H H') (n : t ≠ p) (h : SqT K H t xs) : SqT K H' t xs := by
  rcases h with h | h
  · rcases h with h | ⟨o, h⟩
    · exact .inl (.inl (a _ _ n h))
    · exact .inl (.inr ⟨o, a _ _ n h⟩)
  · exact .inr h

section
variable {P : Program} {w : World} {K : PySem.W.Frag} {mg : Str → Option Value} {base : Heap}
theorem sc_draw : FnScope ["well", "few", "figure", "mixed"] ["well", "few"] (defScope s_draw) := ⟨rfl, rfl, rfl, by decide +kernel, rfl, by decide +kernel, by decide +kernel⟩
theorem ok_draw (D : Df K mg "_law_draw" s_draw) (B : Bi mg) : Gd P w K mg base CX0 1 "_law_draw" ["well", "few"] spDraw := by
  refine gd_of D (fun _ _ _ _ _ _ us hl => match us, hl with | [_, _], _ => rfl) fun f fd F => ?_
  refine fun_q F sc_draw (fun vs H Q E h => ?_) (fun cdv A outer s H vs Q E hr hq h => ?_)
  · obtain ⟨p, few, rfl, _⟩ := h
    rfl
  obtain ⟨p, few, rfl, ⟨a, m, c, N, hp⟩, f0, f1, k⟩ := h
  refine ⟨_, pss_cons (ps_if (pt_cmpR op_gt (pe_ix ix_list (pv 0) pe_int (fun _ _ => rfl)) pe_int (nomark _))
      (pss_cons (ps_asg (pe_callB call_divmod (by rfl) B.divmod PyProof.Rows.boot_divmod (pa_cons (pe_ix ix_list (pv 0) pe_int (fun _ _ => rfl)) (pa_cons (pv 1) pa_nil)))
        (pg_tup rfl (pgs_cons (pg_sub (pv 0) pe_int set_list) (pgs_cons (pg_name (i := 2) sc_draw.nd rfl (Or.inl rfl)) pgs_nil))))
        (pss_one (ps_ret (pv 2)))) pss_nil)
    (pss_cons (ps_asg (pe_op op_add (pe_ix ix_list (pv 0) pe_int (fun _ _ => rfl)) pe_int) (pg_sub (pv 0) pe_int set_list))
    (pss_cons (ps_set (i := 3) sc_draw.nd rfl (Or.inl rfl) (pe_op op_mod (pe_callTy call_int1 (by rfl) B.int PyProof.Rows.boot_int (pa_cons (pe_op op_add (pe_op op_mul (pe_ix ix_list (pv 0) pe_int (fun _ _ => rfl)) pe_int) (pe_op op_mul pe_int (pe_ix ix_list (pv 0) pe_int (fun _ _ => rfl)))) pa_nil)) pe_int))
    (pss_cons (ps_asg (pe_op op_mod (pe_callTy call_int1 (by rfl) B.int PyProof.Rows.boot_int (pa_cons (pe_op op_add (pe_op op_mul (pv 3) (pe_op op_add (pe_op op_mod (pe_callTy call_int1 (by rfl) B.int PyProof.Rows.boot_int (pa_cons (pv 3) pa_nil)) pe_int) pe_int)) (pe_ix ix_list (pv 0) pe_int (fun _ _ => rfl))) pa_nil)) pe_int) (pg_sub (pv 0) pe_int set_list))
    (pss_one (ps_ret (pe_op op_mod (pe_callTy call_int1 (by rfl) B.int PyProof.Rows.boot_int (pa_cons (pe_op op_fdiv (pe_ix ix_list (pv 0) pe_int (fun _ _ => rfl)) pe_int) pa_nil)) (pv 1))))))), ?_⟩
  walk_at "rd"
  refine ite2 (fun c0 => ?_) (fun c0 => ?_)
  · have a1 : 0 < a := of_decide_eq_true c0
    walk_at "rd"
    intro t ht
    have ep : p ≠ t := ne_of_none hp ht
    walk_at "rd"
    refine k _ _ (Int.emod_nonneg _ (by omega)) (Int.emod_lt_of_pos _ f0) ⟨_, _, _, ⟨?_, N.m0, N.m1, N.c0⟩, upd_same⟩ (But.refl.new ht).put
    exact Int.ediv_nonneg N.a0 (by omega)
  · walk_at "rd"
    refine k _ _ (Int.emod_nonneg _ (by omega)) (Int.emod_lt_of_pos _ f0) ⟨_, _, _, ⟨N.a0, ?_, ?_, ?_⟩, upd_same⟩ But.refl.put.put
    · exact Int.emod_nonneg _ (by decide)
    · exact Int.emod_lt_of_pos _ (by decide)
    · have := N.c0
      omega
theorem sc_one : FnScope ["well", "some"] ["well", "some"] (defScope s_one) := ⟨rfl, rfl, rfl, by decide +kernel, rfl, by decide +kernel, by decide +kernel⟩
theorem ok_one (D : Df K mg "_law_one" s_one) (B : Bi mg) (G : Gd P w K mg base CX0 1 "_law_draw" ["well", "few"] spDraw) : Gd P w K mg base CX0 2 "_law_one" ["well", "some"] (spOne K) := by
  refine gd_of D (fun _ _ _ _ _ _ us hl => match us, hl with | [_, _], _ => rfl) fun f fd F => ?_
  refine fun_q F sc_one (fun vs H Q E h => ?_) (fun cdv A outer s H vs Q E hr hq h => ?_)
  · obtain ⟨p, t, xs, rfl, _⟩ := h
    rfl
  obtain ⟨p, t, xs, rfl, W, hS, ne, l0, l1, k⟩ := h
  refine ⟨_, pss_one (ps_ret (pe_ix ix_tup (pv 1) (pe_g G hr hq (pa_cons (pv 0) (pa_cons (pe_callB call_len_seq (by rfl) B.len PySem.boot_len (pa_cons (pv 1) pa_nil)) pa_nil))) (fun _ _ => rfl))), ?_⟩
  walk_at "rd"
  refine ⟨_, _, rfl, .inr hS, p, _, rfl, W, by omega, by omega, fun d H' d0 d1 W' bt => ?_⟩
  have hd : d.toNat < xs.length := by omega
  refine ⟨t, xs, d, xs[d.toNat], rfl, rfl, bt.seq ne.symm hS, ?_, k d.toNat _ H' (List.getElem?_eq_getElem hd) W' bt⟩
  have e : d = ((d.toNat : Nat) : Int) := by omega
  have q : atI xs ((d.toNat : Nat) : Int) = some xs[d.toNat] := atI_nat (List.getElem?_eq_getElem hd)
  rw [← e] at q
  exact q
end

/-- _law_well(script, lap): a new well -/
def spWell (K : PySem.W.Frag) : Sp := fun vs H Q _ => ∃ (a : Addr) (ns : List Int) (lap : Int), vs = [.ref a, .int lap] ∧ SqL K H a (ns.map V.int) ∧ 0 ≤ lap ∧
  ∀ (p : Addr) (H' : Hp), H p = none → Same H H' → Well H' p → Q (.ref p) H'
section
variable {P : Program} {w : World} {K : PySem.W.Frag} {mg : Str → Option Value} {base : Heap}
theorem sc_well : FnScope ["script", "lap", "mixed", "cell", "own"] ["script", "lap"] (defScope s_well) := ⟨rfl, rfl, rfl, by decide +kernel, rfl, by decide +kernel, by decide +kernel⟩
theorem ok_well (D : Df K mg "_law_well" s_well) (B : Bi mg) : Gd P w K mg base CX0 1 "_law_well" ["script", "lap"] (spWell K) := by
  refine gd_of D (fun _ _ _ _ _ _ us hl => match us, hl with | [_, _], _ => rfl) fun f fd F => ?_
  refine fun_q F sc_well (fun vs H Q E h => ?_) (fun cdv A outer s H vs Q E hr hq h => ?_)
  · obtain ⟨a, ns, lap, rfl, _⟩ := h
    rfl
  obtain ⟨a, ns, lap, rfl, hS, l0, k⟩ := h
  refine ⟨_, pss_cons (ps_set (i := 2) sc_well.nd rfl (Or.inl rfl) (pe_op op_add pe_int (pe_op op_mul pe_int (pv 1))))
    (pss_cons (ps_for PassesOwn.never rfl (pi_list (pe_slice sl_list (pv 0) po_none (po_some pe_int))) (pg_name (i := 3) sc_well.nd rfl (Or.inl rfl))
      (pss_one (ps_set (i := 2) sc_well.nd rfl (Or.inl rfl) (pe_op op_mod (pe_callTy call_int1 (by rfl) B.int PyProof.Rows.boot_int (pa_cons (pe_op op_add (pe_op op_add (pe_op op_mul (pv 2) pe_int) (pe_op op_mul (pe_op op_mod (pe_callTy call_int1 (by rfl) B.int PyProof.Rows.boot_int (pa_cons (pv 3) pa_nil)) pe_int) pe_int)) pe_int) pa_nil)) pe_int))))
    (pss_cons (ps_set (i := 4) sc_well.nd rfl (Or.inl rfl) (pe_ifExp (pt_cmpR op_lt (pv 1) (pe_callB call_len_seq (by rfl) B.len PySem.boot_len (pa_cons (pv 0) pa_nil)) (nomark _)) (pe_callTy call_int1 (by rfl) B.int PyProof.Rows.boot_int (pa_cons (pe_ix ix_list (pv 0) (pv 1) (fun _ _ => rfl)) pa_nil)) pe_int))
    (pss_cons (ps_set (i := 2) sc_well.nd rfl (Or.inl rfl) (pe_op op_mod (pe_callTy call_int1 (by rfl) B.int PyProof.Rows.boot_int (pa_cons (pe_op op_add (pe_op op_add (pe_op op_mul (pv 2) pe_int) (pe_op op_mul (pe_op op_mod (pe_callTy call_int1 (by rfl) B.int PyProof.Rows.boot_int (pa_cons (pv 4) pa_nil)) pe_int) pe_int)) pe_int) pa_nil)) pe_int))
    (pss_one (ps_ret (pe_lst (pa_cons (pe_ifExp (PW.pt (pw_or (pt_cmpR op_lt (pv 4) pe_int (nomark _)) (pw_or1 (pt_cmpR op_ge (pv 4) (pe_op op_pow pe_int pe_int) (nomark _))))) (pe_callB call_abs (by rfl) B.abs PyProof.Rows.boot_abs (pa_cons (pv 4) pa_nil)) pe_int) (pa_cons (pv 2) (pa_cons pe_int pa_nil))))))))), ?_⟩
  walk_at "rd"
  refine ⟨a, _, rfl, hS, fun q hq' => ⟨q, rfl, ⟨_, SqL.of upd_same⟩, ?_⟩⟩
  refine for_list (K := K) (a := q) (xs := cutV (ns.map V.int) none (some 12)) (fun i σ H' => H' = upd H q (.lst (cutV (ns.map V.int) none (some 12))) ∧ ∃ m v, σ = [some (.ref a), some (.int lap), some (.int m), v, none])
    ⟨rfl, _, none, rfl⟩ (fun i σ H' _ ⟨e, _⟩ => by rw [e]; exact SqL.of upd_same) ?_ ?_
  · rintro i y σ H' hi ⟨rfl, m, v, rfl⟩
    obtain ⟨z, rfl⟩ : ∃ z, y = V.int z := by
      have m1 : y ∈ ns.map V.int := List.mem_of_mem_drop (List.mem_of_mem_take (List.mem_of_getElem? hi))
      obtain ⟨z, _, e⟩ := List.mem_map.mp m1
      exact ⟨z, e.symm⟩
    walk_at "rd"
    exact ⟨_, _, rfl⟩
  rintro σ H' ⟨rfl, m, v, rfl⟩
  have S1 : Same H (upd H q (.lst (cutV (ns.map V.int) none (some 12)))) := same_new hq' _
  walk_at "rd"
  refine ⟨_, _, rfl, .inl (S1.seq hS), ?_⟩
  walk_at "rd"
  have e2 : ((ns.map V.int).length : Int) = ns.length := by rw [List.length_map]
  have mb : ∀ x : Int, 0 ≤ x % 2147483543 ∧ x % 2147483543 < 2147483543 := fun x => ⟨Int.emod_nonneg _ (by decide), Int.emod_lt_of_pos _ (by decide)⟩
  have fin : ∀ (x y : Int) (r : Addr), 0 ≤ x → upd H q (.lst (cutV (ns.map V.int) none (some 12))) r = none → Q (.ref r) (upd (upd H q (.lst (cutV (ns.map V.int) none (some 12)))) r (.lst [.int x, .int (y % 2147483543), .int 0])) := fun x y r hx hr => by
    have hr' : H r = none := by
      cases e : H r with
      | none => rfl
      | some o => rw [S1 _ _ e] at hr; cases hr
    exact k r _ hr' (S1.trans (same_new hr _)) ⟨_, _, _, ⟨hx, (mb y).1, (mb y).2, Int.le_refl 0⟩, upd_same⟩
  refine ite2 (fun c => ?_) (fun c => ?_)
  · have c1 : lap < ((ns.map V.int).length : Int) := of_decide_eq_true c
    walk_at "rd"
    have c2 : lap.toNat < ns.length := by omega
    have e : lap = ((lap.toNat : Nat) : Int) := by omega
    have q1 : atI (ns.map V.int) ((lap.toNat : Nat) : Int) = some (.int ns[lap.toNat]) := atI_nat (by rw [List.getElem?_map, List.getElem?_eq_getElem c2] <;> rfl)
    rw [← e] at q1
    refine ⟨a, _, _, _, rfl, rfl, S1.seq hS, q1, ?_⟩
    generalize ns[lap.toNat] = z
    walk_at "rd"
    refine ite2 (fun d => ?_) (fun d => ?_)
    · walk_at "rd"
      intro r hr
      refine fin _ _ r ?_ hr
      split <;> omega
    · walk_at "rd"
      refine ite2 (fun d2 => ?_) (fun d2 => ?_)
      · walk_at "rd"
        intro r hr
        refine fin _ _ r ?_ hr
        split <;> omega
      · walk_at "rd"
        intro r hr
        exact fin _ _ r (Int.le_refl 0) hr
  · walk_at "rd"
    intro r hr
    exact fin 0 _ r (Int.le_refl 0) hr
end

/-- what _law_odd_thing picks from -/
def oddL : List PyData := [.none, (.bool true), (.bool false), (.str "z"), (.str ""), (.str "?"), (.str "#"), (.int (-1)), (.int 0), (.int 1), (.int 7), (.int (1000000000000000000000000000000)), (.tuple []), (.list []), (.dict []), (.tuple [(.str "z")]), (.list [(.str "z")]), (.tuple [(.str "?"), (.str "x")]), (.tuple [(.str "?")]), (.tuple [(.str "#"), (.str "type"), (.int 1)]), (.tuple [(.str "#"), (.str "count"), (.int 1)]), (.tuple [(.tuple [(.str "z")])]), (.tuple [(.tuple [(.str "?"), (.str "x")])]), (.tuple [(.str "s"), (.tuple [(.str "z")])]), (.tuple [(.str "a"), (.str "closed")]), (.tuple [(.str "?"), (.str "x"), (.str "y")])]

section
variable {X : Cx} {H0 : Hp} {pos pos2 pos3 : Pos}
theorem da_neg {i : Int} {j : Nat} : PE X (.UnaryOp .USub (.Constant (.int i) j pos) pos2) (tD H0 pT (.int (-i))) := da_of (pe_un un_neg pe_int) fun σ H Q q => ⟨i, rfl, q _ fun _ => .int _⟩
theorem da_pow {i k : Int} {j j2 : Nat} (h : CPow i k := by exact ⟨by decide, by decide, by decide⟩) : PE X (.BinOp (.Constant (.int i) j pos) .Pow (.Constant (.int k) j2 pos2) pos3) (tD H0 pT (.int (i ^ k.toNat))) := da_of (pe_op op_pow pe_int pe_int) fun σ H Q q => ⟨i, k, rfl, rfl, h, q _ fun _ => .int _⟩
end
/-- _law_odd_thing(well): one of them -/
def spOdd : Sp := fun vs H Q _ => ∃ p : Addr, vs = [.ref p] ∧ Well H p ∧ ∀ (v : V) (d : PyData) (H' : Hp), d ∈ oddL → Well H' p → But p H H' → Dd (news H H') v d → Q v H'
section
variable {P : Program} {w : World} {K : PySem.W.Frag} {mg : Str → Option Value} {base : Heap}
theorem sc_odd : FnScope ["well", "some", "more"] ["well"] (defScope s_odd) := ⟨rfl, rfl, rfl, by decide +kernel, rfl, by decide +kernel, by decide +kernel⟩
theorem ok_odd (D : Df K mg "_law_odd_thing" s_odd) (B : Bi mg) (G : Gd P w K mg base CX0 2 "_law_one" ["well", "some"] (spOne K)) : Gd P w K mg base CX0 3 "_law_odd_thing" ["well"] spOdd := by
  refine gd_of D (fun _ _ _ _ _ _ us hl => match us, hl with | [_], _ => rfl) fun f fd F => ?_
  refine fun_q F sc_odd (fun vs H Q E h => ?_) (fun cdv A outer s H vs Q E hr hq h => ?_)
  · obtain ⟨p, rfl, _⟩ := h
    rfl
  obtain ⟨p, rfl, W, k⟩ := h
  refine ⟨_, pss_cons (ps_set (i := 1) sc_odd.nd rfl (Or.inl rfl) (da_tup (H0 := H) (da_cons (by walk_at "st") da_none (da_cons (by walk_at "st") da_bool (da_cons (by walk_at "st") da_bool (da_cons (by walk_at "st") da_str (da_cons (by walk_at "st") da_str (da_cons (by walk_at "st") da_str (da_cons (by walk_at "st") da_str (da_cons (by walk_at "st") da_neg (da_cons (by walk_at "st") da_int (da_cons (by walk_at "st") da_int (da_cons (by walk_at "st") da_int (da_cons (by walk_at "st") da_pow (da_cons (by walk_at "st") (da_tup da_nil) (da_cons (by walk_at "st") (da_lst da_nil) (da_cons (by walk_at "st") da_dict (da_cons (by walk_at "st") (da_tup (da_cons (by walk_at "st") da_str da_nil)) (da_cons (by walk_at "st") (da_lst (da_cons (by walk_at "st") da_str da_nil)) (da_cons (by walk_at "st") (da_tup (da_cons (by walk_at "st") da_str (da_cons (by walk_at "st") da_str da_nil))) (da_cons (by walk_at "st") (da_tup (da_cons (by walk_at "st") da_str da_nil)) da_nil)))))))))))))))))))))
    (pss_cons (ps_set (i := 2) sc_odd.nd rfl (Or.inl rfl) (da_tup (H0 := H) (da_cons (by walk_at "st") (da_tup (da_cons (by walk_at "st") da_str (da_cons (by walk_at "st") da_str (da_cons (by walk_at "st") da_int da_nil)))) (da_cons (by walk_at "st") (da_tup (da_cons (by walk_at "st") da_str (da_cons (by walk_at "st") da_str (da_cons (by walk_at "st") da_int da_nil)))) (da_cons (by walk_at "st") (da_tup (da_cons (by walk_at "st") (da_tup (da_cons (by walk_at "st") da_str da_nil)) da_nil)) (da_cons (by walk_at "st") (da_tup (da_cons (by walk_at "st") (da_tup (da_cons (by walk_at "st") da_str (da_cons (by walk_at "st") da_str da_nil))) da_nil)) (da_cons (by walk_at "st") (da_tup (da_cons (by walk_at "st") da_str (da_cons (by walk_at "st") (da_tup (da_cons (by walk_at "st") da_str da_nil)) da_nil))) (da_cons (by walk_at "st") (da_tup (da_cons (by walk_at "st") da_str (da_cons (by walk_at "st") da_str da_nil))) (da_cons (by walk_at "st") (da_tup (da_cons (by walk_at "st") da_str (da_cons (by walk_at "st") da_str (da_cons (by walk_at "st") da_str da_nil)))) da_nil)))))))))
    (pss_one (ps_ret (pe_g G hr hq (pa_cons (pv 0) (pa_cons (pe_op op_catT (pv 1) (pv 2)) pa_nil)))))), ?_⟩
  refine ⟨Bs.refl, by walk_at "pre", fun v1 H1 s1 d1 => ?_⟩
  refine ⟨Bs.refl.same s1, by walk_at "pre", fun v2 H2 s2 d2 => ?_⟩
  cases d1 with
  | tup t1 a1 =>
  cases d2 with
  | tup t2 a2 =>
  rename_i x1 y1 x2 y2
  have e1 := s2 _ _ (news_old _ _ t1)
  have e2 := news_old _ _ t2
  walk_at "rd"
  have l1 : y1.length = 19 := a1.length
  have l2 : y2.length = 7 := a2.length
  refine ⟨x1, x2, y1, y2, rfl, rfl, SqT.of e1, SqT.of e2, ?_, ?_, fun z => ?_, fun _ t ht => ?_⟩
  · intro z
    rw [z] at l1
    cases l1
  · rw [l1, l2, sizeLine_eq]
    decide
  · rw [z] at l2
    cases l2
  have W2 : Well H2 p := by
    obtain ⟨a, mm, c, N, e⟩ := W
    exact ⟨a, mm, c, N, s2 _ _ (s1 _ _ e)⟩
  refine ⟨p, t, y1 ++ y2, rfl, W2.new ht, SqT.of upd_same, W2.ne ht, ?_, ?_, fun i v H' hi W' bt => ?_⟩
  · rw [List.length_append, l1, l2]
    decide
  · rw [List.length_append, l1, l2]
    decide
  have np : H p ≠ none := by
    obtain ⟨a, mm, c, N, e⟩ := W
    rw [e]
    exact fun z => nomatch z
  have s3 : Same (news H H2) (news H H') := fun b o q => by
    obtain ⟨q1, q2⟩ := news_some.mp q
    exact news_some.mpr ⟨q1, bt b o (fun z => np (z ▸ q1)) (same_new ht _ b o q2)⟩
  obtain ⟨d, hd, dd⟩ := ((a1.mono (news_same s2)).append a2).get hi
  refine k v d H' ?_ W' (fun b o n q => bt b o n (same_new ht _ b o (s2 _ _ (s1 _ _ q)))) (dd.mono s3)
  exact List.mem_of_getElem? (show oddL[i]? = some d from hd)
end

/-- the classes of errors, by their addresses -/
structure Ecs (P : Program) (w : World) (K : PySem.W.Frag) (mg : Str → Option Value) (base : Heap) (CB C0 C1 C2 C3 C4 C5 C6 C7 C8 C9 C10 C11 C12 C13 C14 C15 : Addr) : Prop where
  e0 : Ec P w K mg base "InvalidSignature" "given" C0
  e1 : Ec P w K mg base "InvalidKind" "given" C1
  e2 : Ec P w K mg base "InvalidPatterns" "given" C2
  e3 : Ec P w K mg base "InvalidNumber" "given" C3
  e4 : Ec P w K mg base "InvalidTable" "given" C4
  e5 : Ec P w K mg base "InvalidName" "given" C5
  e6 : Ec P w K mg base "InvalidUse" "given" C6
  e7 : Ec P w K mg base "InvalidProgram" "given" C7
  e8 : Ec P w K mg base "Unformed" "given" C8
  e9 : Ec P w K mg base "Unsound" "given" C9
  e10 : Ec P w K mg base "NoValue" "given" C10
  e11 : Ec P w K mg base "InvalidTerms" "index" C11
  e12 : Ec P w K mg base "InvalidRows" "index" C12
  e13 : Ec P w K mg base "InvalidText" "index" C13
  e14 : Ec P w K mg base "InvalidLines" "index" C14
  e15 : Ec P w K mg base "BadLabel" "spot" C15
  gB : mg "TemplateError" = some (.ref CB)
  kB : PySem.W.keepIn K (.ref CB) = true
  xB : PySem.W.excIn K CB [.type "ValueError", .type "Exception", .type "BaseException", .type "object"] "ValueError.__new__" = true
def noL : List Value := [.type "LookupError", .type "ArithmeticError", .type "TypeError", .type "AttributeError", .type "RuntimeError", .type "StopIteration"]
def excB (K : PySem.W.Frag) (C : Addr) : Bool :=
  decide (PySem.W.findIn K (.ref C) "__getattribute__" = some (some (.builtin "BaseException.__getattribute__"))) &&
  (decide (PySem.W.findIn K (.ref C) "__getattr__" = some none) && (decide (PySem.W.subIn K (.ref C) (.type "BaseException") = some true) &&
  (PySem.W.hasDictIn K C && (decide (PySem.W.findIn K (.ref C) "__class__" = some (some (.builtin "object.__class__"))) &&
  (decide (PySem.W.specialIn K (.builtin "object.__class__") "__get__" = some (some (.builtin "getset_descriptor.__get__"))) &&
  (decide (PySem.W.takesIn K (.builtin "object.__class__") = some true) && decide (PySem.W.mroIn K C (.type "object") = some true)))))))
theorem excB_ok {K : PySem.W.Frag} {C : Addr} (h : excB K C = true) : ExcC K C ∧ XfC K C := by
  simp only [excB, Bool.and_eq_true, decide_eq_true_eq] at h
  obtain ⟨h1, h2, h3, h4, h5, h6, h7, h8⟩ := h
  exact ⟨⟨h1, h2, h3, h4, h5, h6, h7, h8⟩, ⟨h1, h2, h3, h4⟩⟩
def kitB2 (K : PySem.W.Frag) (CB C : Addr) : Bool :=
  decide (PySem.W.kitOne K (.ref C) (.ref CB) = some true) && (decide (PySem.W.kitOne K (.ref C) (.type "ValueError") = some true) && decide (PySem.W.kitAny K (.ref C) noL = some false))
def allB (K : PySem.W.Frag) (CB : Addr) (L : List Addr) : Bool :=
  (CB :: L).all (fun C => excB K C && kitB2 K CB C) && (L.all fun C => L.all fun D => decide (PySem.W.kitOne K (.ref C) (.ref D) = some (decide (C = D)))) &&
    L.all fun D => decide (PySem.W.kitOne K (.ref CB) (.ref D) = some false)
/-- what isinstance tells of them -/
structure Kits (K : PySem.W.Frag) (CB : Addr) (L : List Addr) : Prop where
  kk : ∀ C ∈ L, ∀ D ∈ L, PySem.W.kitOne K (.ref C) (.ref D) = some (decide (C = D))
  kl : ∀ D ∈ L, PySem.W.kitOne K (.ref CB) (.ref D) = some false
  kb : ∀ C ∈ CB :: L, PySem.W.kitOne K (.ref C) (.ref CB) = some true
  kv : ∀ C ∈ CB :: L, PySem.W.kitOne K (.ref C) (.type "ValueError") = some true
  kn : ∀ C ∈ CB :: L, PySem.W.kitAny K (.ref C) noL = some false
  ex : ∀ C ∈ CB :: L, ExcC K C
  xf : ∀ C ∈ CB :: L, XfC K C
theorem kits_of {K : PySem.W.Frag} {CB : Addr} {L : List Addr} (h : allB K CB L = true) : Kits K CB L := by
  simp only [allB, kitB2, Bool.and_eq_true, List.all_eq_true, decide_eq_true_eq] at h
  obtain ⟨⟨h1, h2⟩, h3⟩ := h
  exact ⟨h2, h3, fun C hC => (h1 C hC).2.1, fun C hC => (h1 C hC).2.2.1, fun C hC => (h1 C hC).2.2.2, fun C hC => (excB_ok (h1 C hC).1).1, fun C hC => (excB_ok (h1 C hC).1).2⟩

/-! ### _law_made -/
/-- one row: the attribute's name, an error made by position, one by name -/
def RowOk (H : Hp) (v : V) (x : V) (f : Str) (C : Addr) : Prop := ∃ r a1 a2, x = .ref r ∧ H r = some (.lst [.str f, .ref a1, .ref a2]) ∧ Exo H a1 C f v ∧ Exo H a2 C f v
theorem RowOk.mono {H H' : Hp} {v x : V} {f : Str} {C : Addr} (s : Same H H') : RowOk H v x f C → RowOk H' v x f C := fun ⟨r, a1, a2, e, h, e1, e2⟩ => ⟨r, a1, a2, e, s _ _ h, e1.mono s, e2.mono s⟩
inductive RowsOk (H : Hp) (v : V) : List V → List (Str × Addr) → Prop
  | nil : RowsOk H v [] []
  | cons {x : V} {xs : List V} {f : Str} {C : Addr} {r : List (Str × Addr)} : RowOk H v x f C → RowsOk H v xs r → RowsOk H v (x :: xs) ((f, C) :: r)
theorem RowsOk.mono {H H' : Hp} {v : V} (s : Same H H') : ∀ {xs : List V} {r : List (Str × Addr)}, RowsOk H v xs r → RowsOk H' v xs r
  | _, _, .nil => .nil
  | _, _, .cons h t => .cons (h.mono s) (t.mono s)
theorem RowsOk.length {H : Hp} {v : V} : ∀ {xs : List V} {r : List (Str × Addr)}, RowsOk H v xs r → xs.length = r.length
  | _, _, .nil => rfl
  | _, _, .cons _ t => congrArg Nat.succ t.length
theorem RowsOk.get {H : Hp} {v : V} : ∀ {xs : List V} {r : List (Str × Addr)} {i : Nat} {x : V}, RowsOk H v xs r → xs[i]? = some x → ∃ f C, r[i]? = some (f, C) ∧ RowOk H v x f C
  | _, _, _, _, .nil, e => by simp at e
  | _, _, 0, _, .cons h _, e => by
    simp only [List.getElem?_cons_zero, Option.some.injEq] at e
    subst e
    exact ⟨_, _, rfl, h⟩
  | _, _, i + 1, _, .cons _ t, e => by
    obtain ⟨f, C, h1, h2⟩ := t.get (i := i) (by simpa using e)
    exact ⟨f, C, by simpa using h1, h2⟩
def tRow (f : Str) (C : Addr) : TE := fun σ H Q => ∃ v, σ[0]? = some (some v) ∧ ∀ x H', Same H H' → RowOk H' v x f C → Q x H'
def tRows (r : List (Str × Addr)) : TA := fun σ H Q => ∃ v, σ[0]? = some (some v) ∧ ∀ xs H', Same H H' → RowsOk H' v xs r → Q xs H'
section
variable {X : Cx} {x f : Str} {C : Addr} {e1 e2 e : Expr} {es : List Expr} {pos p1 p2 pos2 pos3 kpos : Pos} {j : Nat} {r : List (Str × Addr)}
theorem pe_row (h1 : PE X e1 (tEx C f (tVar 0))) (h2 : PE X e2 (tEx C f (tVar 0))) (s0 : starEach [.Constant (.str f) j p1, e1, e2] X.env = (false, eval (.Constant (.str f) j p1) X.env) :: starEach [e1, e2] X.env := by rfl)
    (s1 : starEach [e1, e2] X.env = (false, eval e1 X.env) :: starEach [e2] X.env := by rfl) (s2 : starEach [e2] X.env = (false, eval e2 X.env) :: starEach [] X.env := by rfl) :
    PE X (.List [.Constant (.str f) j p1, e1, e2] pos) (tRow f C) := by
  refine pe_imp (pe_lst (pa_cons pe_str (pa_cons h1 (pa_cons h2 pa_nil s2) s1) s0)) fun σ H Q ⟨v, hv, k⟩ => ?_
  refine ⟨v, hv, fun a1 H1 n1 sm1 x1 => ⟨v, hv, fun a2 H2 n2 sm2 x2 => ⟨(by rw [sizeLine_eq]; exact (by decide : 3 ≤ 16777216)), fun q hq => ?_⟩⟩⟩
  have sm3 := same_new hq (HO.lst [.str f, .ref a1, .ref a2])
  exact k _ _ (sm1.trans (sm2.trans sm3)) ⟨q, a1, a2, rfl, upd_same, x1.mono (sm2.trans sm3), x2.mono sm3⟩
theorem pa_rows0 {σ0 : Unit} : PA X [] (tRows []) := ⟨fun pos pins s σ H Q I ⟨v, hv, k⟩ => pa_nil.run pos pins s σ H Q I (k _ _ (Same.refl H) .nil)⟩
theorem pa_rows (h : PE X e (tRow f C)) (t : PA X es (tRows r)) (he : starEach (e :: es) X.env = (false, eval e X.env) :: starEach es X.env := by rfl) : PA X (e :: es) (tRows ((f, C) :: r)) :=
  ⟨fun pos pins s σ H Q I ⟨v, hv, k⟩ => (pa_cons h t he).run pos pins s σ H Q I (show tRow f C σ H _ from ⟨v, hv, fun x H1 s1 h1 => show tRows r σ H1 _ from ⟨v, hv, fun xs H2 s2 h2 => k _ _ (s1.trans s2) (.cons (h1.mono s2) h2)⟩⟩)⟩
end
/-- _law_made(thing): a row for each class -/
def spMade (R : List (Str × Addr)) : Sp := fun vs H Q _ => ∃ v : V, vs = [v] ∧ ∀ l xs H', Same H H' → H l = none → H' l = some (.lst xs) → RowsOk H' v xs R → Q (.ref l) H'
section
variable {P : Program} {w : World} {K : PySem.W.Frag} {mg : Str → Option Value} {base : Heap} {CB C0 C1 C2 C3 C4 C5 C6 C7 C8 C9 C10 C11 C12 C13 C14 C15 : Addr}
theorem sc_made : FnScope ["thing"] ["thing"] (defScope s_made) := ⟨rfl, rfl, rfl, by decide +kernel, rfl, by decide +kernel, by decide +kernel⟩
theorem ok_made (D : Df K mg "_law_made" s_made) (E : Ecs P w K mg base CB C0 C1 C2 C3 C4 C5 C6 C7 C8 C9 C10 C11 C12 C13 C14 C15) : Gd P w K mg base CX0 3 "_law_made" ["thing"] (spMade [("given", C0), ("given", C1), ("given", C2), ("given", C3), ("given", C4), ("given", C5), ("given", C6), ("given", C7), ("given", C8), ("given", C9), ("given", C10), ("index", C11), ("index", C12), ("index", C13), ("index", C14), ("spot", C15)]) := by
  refine gd_of D (fun _ _ _ _ _ _ us hl => match us, hl with | [_], _ => rfl) fun f fd F => ?_
  refine fun_q F sc_made (fun vs H Q E h => ?_) (fun cdv A outer s H vs Q E' hr hq h => ?_)
  · obtain ⟨v, rfl, _⟩ := h
    rfl
  obtain ⟨v, rfl, k⟩ := h
  refine ⟨_, pss_one (ps_ret (pe_lst (pa_rows (pe_row (pe_ex E.e0 hr (pv 0)) (pe_exK E.e0 hr (pv 0))) (pa_rows (pe_row (pe_ex E.e1 hr (pv 0)) (pe_exK E.e1 hr (pv 0))) (pa_rows (pe_row (pe_ex E.e2 hr (pv 0)) (pe_exK E.e2 hr (pv 0))) (pa_rows (pe_row (pe_ex E.e3 hr (pv 0)) (pe_exK E.e3 hr (pv 0))) (pa_rows (pe_row (pe_ex E.e4 hr (pv 0)) (pe_exK E.e4 hr (pv 0))) (pa_rows (pe_row (pe_ex E.e5 hr (pv 0)) (pe_exK E.e5 hr (pv 0))) (pa_rows (pe_row (pe_ex E.e6 hr (pv 0)) (pe_exK E.e6 hr (pv 0))) (pa_rows (pe_row (pe_ex E.e7 hr (pv 0)) (pe_exK E.e7 hr (pv 0))) (pa_rows (pe_row (pe_ex E.e8 hr (pv 0)) (pe_exK E.e8 hr (pv 0))) (pa_rows (pe_row (pe_ex E.e9 hr (pv 0)) (pe_exK E.e9 hr (pv 0))) (pa_rows (pe_row (pe_ex E.e10 hr (pv 0)) (pe_exK E.e10 hr (pv 0))) (pa_rows (pe_row (pe_ex E.e11 hr (pv 0)) (pe_exK E.e11 hr (pv 0))) (pa_rows (pe_row (pe_ex E.e12 hr (pv 0)) (pe_exK E.e12 hr (pv 0))) (pa_rows (pe_row (pe_ex E.e13 hr (pv 0)) (pe_exK E.e13 hr (pv 0))) (pa_rows (pe_row (pe_ex E.e14 hr (pv 0)) (pe_exK E.e14 hr (pv 0))) (pa_rows (pe_row (pe_ex E.e15 hr (pv 0)) (pe_exK E.e15 hr (pv 0))) (pa_rows0 (σ0 := ())))))))))))))))))))), ?_⟩
  refine ⟨v, rfl, fun xs H1 s1 h1 => ⟨by rw [h1.length, sizeLine_eq]; exact (by decide : 16 ≤ 16777216), fun l hl => ?_⟩⟩
  exact k l xs _ (s1.trans (same_new hl _)) (s1.free hl) upd_same (h1.mono (same_new hl _))
end

/-! ### _law_kinds_of, _law_is_plain: of an error, and of the one that is handled -/
theorem boot_isi : bootBuiltins "isinstance" = some (.builtin "isinstance") := by decide +kernel
/-- what is asked of the slot 0: an error of the class at C -/
def Iq (K : PySem.W.Frag) (CB : Addr) (L : List Addr) (C : Addr) (σ : L2.St) (H : Hp) : Prop := C ∈ CB :: L ∧ ∃ a, σ[0]? = some (some (.ref a)) ∧ Inx H a C
/-- the same of the handled one -/
def Ip (CB : Addr) (L : List Addr) (p : Addr × Obj) (C : Addr) (σ : L2.St) (H : Hp) : Prop := C ∈ L ∧ σ[0]? = some (some (.ref p.1)) ∧ p.2.cls = .ref C ∧ (∃ vs, p.2.data = .fields vs) ∧ ∃ dx fs, p.2.dict = some dx ∧ H dx = some (.xd fs)
section
variable {X : Cx} {D : Addr} {e : Expr} {es : List Expr} {Ds : List Addr} {x x2 : Str} {p p2 p3 pos : Pos} {CB : Addr} {L : List Addr} {pp : Addr × Obj} {C : Addr}
/-- with the class told -/
def tKq (q : L2.St → Hp → Prop) (C D : Addr) : TE := fun σ H Q => q σ H ∧ Q (.bl (decide (C = D))) H
def tKqs (q : L2.St → Hp → Prop) (C : Addr) (Ds : List Addr) : TA := fun σ H Q => q σ H ∧ Q (Ds.map fun D => .bl (decide (C = D))) H
variable {q : L2.St → Hp → Prop}
theorem pa_kq0 {σ0 : Unit} : PA X [] (tKqs q C []) := ⟨fun pos pins s σ H Q I ⟨_, k⟩ => pa_nil.run pos pins s σ H Q I k⟩
theorem pa_kq (h : PE X e (tKq q C D)) (t : PA X es (tKqs q C Ds)) (he : starEach (e :: es) X.env = (false, eval e X.env) :: starEach es X.env := by rfl) : PA X (e :: es) (tKqs q C (D :: Ds)) :=
  ⟨fun pos pins s σ H Q I ⟨w, k⟩ => (pa_cons h t he).run pos pins s σ H Q I (show tKq q C D σ H _ from ⟨w, show tKqs q C Ds σ H _ from ⟨w, k⟩⟩)⟩
theorem pe_kq (Kt : Kits X.K CB L) (hx : PE X (.Name x p) (tVar 0)) (hm : X.mg x2 = some (.ref D)) (hD : D ∈ L) (hI : X.mg "isinstance" = none) (hg : Gl X "isinstance" := by rfl) (hg2 : Gl X x2 := by rfl) (hdb : (x2 == ("__debug__" : Str)) = false := by decide)
    (he : starEach [.Name x p, .Name x2 p2] X.env = (false, eval (.Name x p) X.env) :: starEach [.Name x2 p2] X.env := by rfl) (he2 : starEach [.Name x2 p2] X.env = (false, eval (.Name x2 p2) X.env) :: starEach [] X.env := by rfl)
    (hpl : (backTo pos (starEach [.Name x2 p2] X.env)).any (·.1) = false := by rfl) :
    PE X (.Call (.Name "isinstance" p3) [.Name x p, .Name x2 p2] [] pos) (tKq (Iq X.K CB L C) C D) := by
  refine pe_imp (pe_callB call_isx hg hI boot_isi (pa_cons hx (pa_cons (pe_glob (v := V.ref D) hg2 hm rfl hdb) pa_nil he2) he) (by decide) (by decide) he hpl) fun σ H Q ⟨⟨hC, a, h1, h2⟩, k⟩ => ?_
  refine ⟨_, h1, a, C, _, _, _, rfl, h2, Kt.ex C hC, .own D, ?_, k⟩
  rcases List.mem_cons.mp hC with rfl | hC
  · by_cases e : C = D
    · subst e
      rw [decide_eq_true rfl]
      exact Kt.kb _ List.mem_cons_self
    · rw [decide_eq_false e]
      exact Kt.kl D hD
  · exact Kt.kk C hC D hD
theorem pe_kqp (Kt : Kits X.K CB L) (hp : pp ∈ X.pn) (hx : PE X (.Name x p) (tVar 0)) (hm : X.mg x2 = some (.ref D)) (hD : D ∈ L) (hI : X.mg "isinstance" = none) (hg : Gl X "isinstance" := by rfl) (hg2 : Gl X x2 := by rfl) (hdb : (x2 == ("__debug__" : Str)) = false := by decide)
    (he : starEach [.Name x p, .Name x2 p2] X.env = (false, eval (.Name x p) X.env) :: starEach [.Name x2 p2] X.env := by rfl) (he2 : starEach [.Name x2 p2] X.env = (false, eval (.Name x2 p2) X.env) :: starEach [] X.env := by rfl)
    (hpl : (backTo pos (starEach [.Name x2 p2] X.env)).any (·.1) = false := by rfl) :
    PE X (.Call (.Name "isinstance" p3) [.Name x p, .Name x2 p2] [] pos) (tKq (Ip CB L pp C) C D) := by
  refine pe_imp (pe_callB (call_isp hp) hg hI boot_isi (pa_cons hx (pa_cons (pe_glob (v := V.ref D) hg2 hm rfl hdb) pa_nil he2) he) (by decide) (by decide) he hpl) fun σ H Q ⟨⟨hC, h1, h2, h3, dx, fs, h4, h5⟩, k⟩ => ?_
  exact ⟨_, h1, C, dx, fs, _, _, _, rfl, h2, h4, h3, h5, Kt.ex C (List.mem_cons_of_mem _ hC), .own D, Kt.kk C hC D hD, k⟩
end
/-- _law_kinds_of(e) -/
def spKinds (K : PySem.W.Frag) (CB : Addr) (L : List Addr) : Sp := fun vs H Q _ => ∃ a C, vs = [.ref a] ∧ C ∈ CB :: L ∧ Inx H a C ∧ ∀ l H', Same H H' → H l = none → H' l = some (.lst (L.map fun D => .bl (decide (C = D)))) → Q (.ref l) H'
def spKindsP (L : List Addr) (p : Addr × Obj) (C : Addr) : Sp := fun vs H Q _ => vs = [.ref p.1] ∧ C ∈ L ∧ p.2.cls = .ref C ∧ (∃ vs, p.2.data = .fields vs) ∧ (∃ dx fs, p.2.dict = some dx ∧ H dx = some (.xd fs)) ∧ ∀ l H', Same H H' → H l = none → H' l = some (.lst (L.map fun D => .bl (decide (C = D)))) → Q (.ref l) H'
section
variable {P : Program} {w : World} {K : PySem.W.Frag} {mg : Str → Option Value} {base : Heap} {CB C0 C1 C2 C3 C4 C5 C6 C7 C8 C9 C10 C11 C12 C13 C14 C15 : Addr}
theorem sc_kinds : FnScope ["e"] ["e"] (defScope s_kinds) := ⟨rfl, rfl, rfl, by decide +kernel, rfl, by decide +kernel, by decide +kernel⟩
theorem ok_kinds (D : Df K mg "_law_kinds_of" s_kinds) (B : Bi mg) (E : Ecs P w K mg base CB C0 C1 C2 C3 C4 C5 C6 C7 C8 C9 C10 C11 C12 C13 C14 C15) (Kt : Kits K CB [C0, C1, C2, C3, C4, C5, C6, C7, C8, C9, C10, C11, C12, C13, C14, C15]) : Gd P w K mg base CX0 1 "_law_kinds_of" ["e"] (spKinds K CB [C0, C1, C2, C3, C4, C5, C6, C7, C8, C9, C10, C11, C12, C13, C14, C15]) := by
  refine gd_of D (fun _ _ _ _ _ _ us hl => match us, hl with | [_], _ => rfl) fun f fd F => ?_
  refine fun_q F sc_kinds (fun vs H Q E h => ?_) (fun cdv A outer s H vs Q E' hr hq h => ?_)
  · obtain ⟨a, C, rfl, _⟩ := h
    rfl
  obtain ⟨a, C, rfl, hC, hx, k⟩ := h
  refine ⟨_, pss_one (ps_ret (pe_lst (pa_kq (pe_kq (CB := CB) (L := [C0, C1, C2, C3, C4, C5, C6, C7, C8, C9, C10, C11, C12, C13, C14, C15]) (C := C) Kt (pv 0) E.e0.gC (by simp) B.isinstance) (pa_kq (pe_kq (CB := CB) (L := [C0, C1, C2, C3, C4, C5, C6, C7, C8, C9, C10, C11, C12, C13, C14, C15]) (C := C) Kt (pv 0) E.e1.gC (by simp) B.isinstance) (pa_kq (pe_kq (CB := CB) (L := [C0, C1, C2, C3, C4, C5, C6, C7, C8, C9, C10, C11, C12, C13, C14, C15]) (C := C) Kt (pv 0) E.e2.gC (by simp) B.isinstance) (pa_kq (pe_kq (CB := CB) (L := [C0, C1, C2, C3, C4, C5, C6, C7, C8, C9, C10, C11, C12, C13, C14, C15]) (C := C) Kt (pv 0) E.e3.gC (by simp) B.isinstance) (pa_kq (pe_kq (CB := CB) (L := [C0, C1, C2, C3, C4, C5, C6, C7, C8, C9, C10, C11, C12, C13, C14, C15]) (C := C) Kt (pv 0) E.e4.gC (by simp) B.isinstance) (pa_kq (pe_kq (CB := CB) (L := [C0, C1, C2, C3, C4, C5, C6, C7, C8, C9, C10, C11, C12, C13, C14, C15]) (C := C) Kt (pv 0) E.e5.gC (by simp) B.isinstance) (pa_kq (pe_kq (CB := CB) (L := [C0, C1, C2, C3, C4, C5, C6, C7, C8, C9, C10, C11, C12, C13, C14, C15]) (C := C) Kt (pv 0) E.e6.gC (by simp) B.isinstance) (pa_kq (pe_kq (CB := CB) (L := [C0, C1, C2, C3, C4, C5, C6, C7, C8, C9, C10, C11, C12, C13, C14, C15]) (C := C) Kt (pv 0) E.e7.gC (by simp) B.isinstance) (pa_kq (pe_kq (CB := CB) (L := [C0, C1, C2, C3, C4, C5, C6, C7, C8, C9, C10, C11, C12, C13, C14, C15]) (C := C) Kt (pv 0) E.e8.gC (by simp) B.isinstance) (pa_kq (pe_kq (CB := CB) (L := [C0, C1, C2, C3, C4, C5, C6, C7, C8, C9, C10, C11, C12, C13, C14, C15]) (C := C) Kt (pv 0) E.e9.gC (by simp) B.isinstance) (pa_kq (pe_kq (CB := CB) (L := [C0, C1, C2, C3, C4, C5, C6, C7, C8, C9, C10, C11, C12, C13, C14, C15]) (C := C) Kt (pv 0) E.e10.gC (by simp) B.isinstance) (pa_kq (pe_kq (CB := CB) (L := [C0, C1, C2, C3, C4, C5, C6, C7, C8, C9, C10, C11, C12, C13, C14, C15]) (C := C) Kt (pv 0) E.e11.gC (by simp) B.isinstance) (pa_kq (pe_kq (CB := CB) (L := [C0, C1, C2, C3, C4, C5, C6, C7, C8, C9, C10, C11, C12, C13, C14, C15]) (C := C) Kt (pv 0) E.e12.gC (by simp) B.isinstance) (pa_kq (pe_kq (CB := CB) (L := [C0, C1, C2, C3, C4, C5, C6, C7, C8, C9, C10, C11, C12, C13, C14, C15]) (C := C) Kt (pv 0) E.e13.gC (by simp) B.isinstance) (pa_kq (pe_kq (CB := CB) (L := [C0, C1, C2, C3, C4, C5, C6, C7, C8, C9, C10, C11, C12, C13, C14, C15]) (C := C) Kt (pv 0) E.e14.gC (by simp) B.isinstance) (pa_kq (pe_kq (CB := CB) (L := [C0, C1, C2, C3, C4, C5, C6, C7, C8, C9, C10, C11, C12, C13, C14, C15]) (C := C) Kt (pv 0) E.e15.gC (by simp) B.isinstance) (pa_kq0 (σ0 := ())))))))))))))))))))), ?_⟩
  refine ⟨⟨hC, a, rfl, hx⟩, ⟨by rw [sizeLine_eq]; exact (by decide : 16 ≤ 16777216), fun l hl => k l _ (same_new hl _) hl upd_same⟩⟩
theorem ok_kindsP (D : Df K mg "_law_kinds_of" s_kinds) (B : Bi mg) (E : Ecs P w K mg base CB C0 C1 C2 C3 C4 C5 C6 C7 C8 C9 C10 C11 C12 C13 C14 C15) (Kt : Kits K CB [C0, C1, C2, C3, C4, C5, C6, C7, C8, C9, C10, C11, C12, C13, C14, C15]) (C : Addr) (pp : Addr × Obj) : GdP P w K mg base 1 "_law_kinds_of" ["e"] pp (spKindsP [C0, C1, C2, C3, C4, C5, C6, C7, C8, C9, C10, C11, C12, C13, C14, C15] pp C) := by
  obtain ⟨f, fd, m, F⟩ := D
  refine ⟨f, fd, m, F.kp, F.binds (fun _ _ _ _ _ _ us hl => match us, hl with | [_], _ => rfl), ?_⟩
  refine fun_p F sc_kinds (fun vs H Q E h => ?_) (fun cdv A outer s H vs Q E' hr h => ?_)
  · obtain ⟨rfl, _⟩ := h
    rfl
  obtain ⟨rfl, hC, h1, h2, h3, k⟩ := h
  refine ⟨_, pss_one (ps_ret (pe_lst (pa_kq (pe_kqp (CB := CB) (L := [C0, C1, C2, C3, C4, C5, C6, C7, C8, C9, C10, C11, C12, C13, C14, C15]) (C := C) (pp := pp) Kt List.mem_cons_self (pv 0) E.e0.gC (by simp) B.isinstance) (pa_kq (pe_kqp (CB := CB) (L := [C0, C1, C2, C3, C4, C5, C6, C7, C8, C9, C10, C11, C12, C13, C14, C15]) (C := C) (pp := pp) Kt List.mem_cons_self (pv 0) E.e1.gC (by simp) B.isinstance) (pa_kq (pe_kqp (CB := CB) (L := [C0, C1, C2, C3, C4, C5, C6, C7, C8, C9, C10, C11, C12, C13, C14, C15]) (C := C) (pp := pp) Kt List.mem_cons_self (pv 0) E.e2.gC (by simp) B.isinstance) (pa_kq (pe_kqp (CB := CB) (L := [C0, C1, C2, C3, C4, C5, C6, C7, C8, C9, C10, C11, C12, C13, C14, C15]) (C := C) (pp := pp) Kt List.mem_cons_self (pv 0) E.e3.gC (by simp) B.isinstance) (pa_kq (pe_kqp (CB := CB) (L := [C0, C1, C2, C3, C4, C5, C6, C7, C8, C9, C10, C11, C12, C13, C14, C15]) (C := C) (pp := pp) Kt List.mem_cons_self (pv 0) E.e4.gC (by simp) B.isinstance) (pa_kq (pe_kqp (CB := CB) (L := [C0, C1, C2, C3, C4, C5, C6, C7, C8, C9, C10, C11, C12, C13, C14, C15]) (C := C) (pp := pp) Kt List.mem_cons_self (pv 0) E.e5.gC (by simp) B.isinstance) (pa_kq (pe_kqp (CB := CB) (L := [C0, C1, C2, C3, C4, C5, C6, C7, C8, C9, C10, C11, C12, C13, C14, C15]) (C := C) (pp := pp) Kt List.mem_cons_self (pv 0) E.e6.gC (by simp) B.isinstance) (pa_kq (pe_kqp (CB := CB) (L := [C0, C1, C2, C3, C4, C5, C6, C7, C8, C9, C10, C11, C12, C13, C14, C15]) (C := C) (pp := pp) Kt List.mem_cons_self (pv 0) E.e7.gC (by simp) B.isinstance) (pa_kq (pe_kqp (CB := CB) (L := [C0, C1, C2, C3, C4, C5, C6, C7, C8, C9, C10, C11, C12, C13, C14, C15]) (C := C) (pp := pp) Kt List.mem_cons_self (pv 0) E.e8.gC (by simp) B.isinstance) (pa_kq (pe_kqp (CB := CB) (L := [C0, C1, C2, C3, C4, C5, C6, C7, C8, C9, C10, C11, C12, C13, C14, C15]) (C := C) (pp := pp) Kt List.mem_cons_self (pv 0) E.e9.gC (by simp) B.isinstance) (pa_kq (pe_kqp (CB := CB) (L := [C0, C1, C2, C3, C4, C5, C6, C7, C8, C9, C10, C11, C12, C13, C14, C15]) (C := C) (pp := pp) Kt List.mem_cons_self (pv 0) E.e10.gC (by simp) B.isinstance) (pa_kq (pe_kqp (CB := CB) (L := [C0, C1, C2, C3, C4, C5, C6, C7, C8, C9, C10, C11, C12, C13, C14, C15]) (C := C) (pp := pp) Kt List.mem_cons_self (pv 0) E.e11.gC (by simp) B.isinstance) (pa_kq (pe_kqp (CB := CB) (L := [C0, C1, C2, C3, C4, C5, C6, C7, C8, C9, C10, C11, C12, C13, C14, C15]) (C := C) (pp := pp) Kt List.mem_cons_self (pv 0) E.e12.gC (by simp) B.isinstance) (pa_kq (pe_kqp (CB := CB) (L := [C0, C1, C2, C3, C4, C5, C6, C7, C8, C9, C10, C11, C12, C13, C14, C15]) (C := C) (pp := pp) Kt List.mem_cons_self (pv 0) E.e13.gC (by simp) B.isinstance) (pa_kq (pe_kqp (CB := CB) (L := [C0, C1, C2, C3, C4, C5, C6, C7, C8, C9, C10, C11, C12, C13, C14, C15]) (C := C) (pp := pp) Kt List.mem_cons_self (pv 0) E.e14.gC (by simp) B.isinstance) (pa_kq (pe_kqp (CB := CB) (L := [C0, C1, C2, C3, C4, C5, C6, C7, C8, C9, C10, C11, C12, C13, C14, C15]) (C := C) (pp := pp) Kt List.mem_cons_self (pv 0) E.e15.gC (by simp) B.isinstance) (pa_kq0 (σ0 := ())))))))))))))))))))), ?_⟩
  refine ⟨⟨hC, rfl, h1, h2, h3⟩, ⟨by rw [sizeLine_eq]; exact (by decide : 16 ≤ 16777216), fun l hl => k l _ (same_new hl _) hl upd_same⟩⟩
end

/-! ### _law_is_plain, _law_kept -/
def tQb (q : L2.St → Hp → Prop) (b : Bool) : TE := fun σ H Q => q σ H ∧ Q (.bl b) H
theorem six_size : 6 ≤ sizeLine := by rw [sizeLine_eq]; decide
section
variable {X : Cx} {D : Addr} {e : Expr} {es : List Expr} {x x2 : Str} {p p2 p3 pos : Pos} {CB : Addr} {L : List Addr} {pp : Addr × Obj} {C : Addr}
/-- six built-in classes -/
def noV : List V := [.ty "LookupError", .ty "ArithmeticError", .ty "TypeError", .ty "AttributeError", .ty "RuntimeError", .ty "StopIteration"]
theorem noVL : Paired ClsV noV noL := .cons (.ty _) (.cons (.ty _) (.cons (.ty _) (.cons (.ty _) (.cons (.ty _) (.cons (.ty _) .nil)))))
theorem rIsx_of {K : PySem.W.Frag} {a : Addr} {c : V} {u : Value} {b : Bool} {H : Hp} {Q : VK} (h2 : Inx H a C) (h3 : ExcC K C) (h4 : ClsV c u) (h5 : PySem.W.kitOne K (.ref C) u = some b) (q : Q (.bl b) H) : rIsx K [.ref a, c] H Q := ⟨a, C, c, u, b, rfl, h2, h3, h4, h5, q⟩
theorem rIsp_of {K : PySem.W.Frag} {c : V} {u : Value} {b : Bool} {H : Hp} {Q : VK} (h1 : pp.2.cls = .ref C) (h2 : ∃ vs, pp.2.data = .fields vs) (h : ∃ dx fs, pp.2.dict = some dx ∧ H dx = some (.xd fs)) (h3 : ExcC K C) (h4 : ClsV c u) (h5 : PySem.W.kitOne K (.ref C) u = some b) (q : Q (.bl b) H) : rIsp K pp [.ref pp.1, c] H Q :=
  let ⟨dx, fs, g1, g2⟩ := h
  ⟨C, dx, fs, c, u, b, rfl, h1, g1, h2, g2, h3, h4, h5, q⟩
end
/-- _law_is_plain(e) -/
def spPlain (CB : Addr) (L : List Addr) : Sp := fun vs H Q _ => ∃ a C, vs = [.ref a] ∧ C ∈ CB :: L ∧ Inx H a C ∧ ∀ H', Same H H' → Q (.bl true) H'
def spPlainP (L : List Addr) (p : Addr × Obj) (C : Addr) : Sp := fun vs H Q _ => vs = [.ref p.1] ∧ C ∈ L ∧ p.2.cls = .ref C ∧ (∃ vs, p.2.data = .fields vs) ∧ (∃ dx fs, p.2.dict = some dx ∧ H dx = some (.xd fs)) ∧ ∀ H', Same H H' → Q (.bl true) H'
/-- _law_kept(word, e) -/
def spKept (K : PySem.W.Frag) : Sp := fun vs H Q _ => ∃ (f : Str) (a C : Addr) (v : V), vs = [.str f, .ref a] ∧ (f = "given" ∨ f = "index" ∨ f = "spot") ∧ Exo H a C f v ∧ XfC K C ∧ PySem.W.findIn K (.ref C) f = some none ∧ Q v H
section
variable {P : Program} {w : World} {K : PySem.W.Frag} {mg : Str → Option Value} {base : Heap} {CB C0 C1 C2 C3 C4 C5 C6 C7 C8 C9 C10 C11 C12 C13 C14 C15 : Addr}
theorem sc_plain : FnScope ["e"] ["e"] (defScope s_plain) := ⟨rfl, rfl, rfl, by decide +kernel, rfl, by decide +kernel, by decide +kernel⟩
theorem ok_plain (D : Df K mg "_law_is_plain" s_plain) (B : Bi mg) (E : Ecs P w K mg base CB C0 C1 C2 C3 C4 C5 C6 C7 C8 C9 C10 C11 C12 C13 C14 C15) (Kt : Kits K CB [C0, C1, C2, C3, C4, C5, C6, C7, C8, C9, C10, C11, C12, C13, C14, C15]) : Gd P w K mg base CX0 1 "_law_is_plain" ["e"] (spPlain CB [C0, C1, C2, C3, C4, C5, C6, C7, C8, C9, C10, C11, C12, C13, C14, C15]) := by
  refine gd_of D (fun _ _ _ _ _ _ us hl => match us, hl with | [_], _ => rfl) fun f fd F => ?_
  refine fun_q F sc_plain (fun vs H Q E h => ?_) (fun cdv A outer s H vs Q E' hr hq h => ?_)
  · obtain ⟨a, C, rfl, _⟩ := h
    rfl
  obtain ⟨a, C, rfl, hC, hx, k⟩ := h
  refine ⟨_, pss_cons (ps_if (PW.pt (pw_or (pt_not (pt_val (pe_callB call_isx (by rfl) B.isinstance boot_isi (pa_cons (pv 0) (pa_cons (pe_glob (v := V.ref CB) (by rfl) E.gB rfl) pa_nil)))))
      (pw_or1 (pt_not (pt_val (pe_callB call_isx (by rfl) B.isinstance boot_isi (pa_cons (pv 0) (pa_cons (pe_bltn (v := V.ty "ValueError") (by rfl) B.verr (by decide +kernel) rfl) pa_nil)))))))) (pss_one (ps_ret pe_bl)) pss_nil)
    (pss_one (ps_ret (pe_not (pe_callB call_isxT (by rfl) B.isinstance boot_isi (pa_cons (pv 0) (pa_cons (pe_tup (pa_cons (pe_bltn (v := V.ty "LookupError") (by rfl) B.lerr (by decide +kernel) rfl) (pa_cons (pe_bltn (v := V.ty "ArithmeticError") (by rfl) B.aerr (by decide +kernel) rfl)
      (pa_cons (pe_bltn (v := V.ty "TypeError") (by rfl) B.terr (by decide +kernel) rfl) (pa_cons (pe_bltn (v := V.ty "AttributeError") (by rfl) B.atterr (by decide +kernel) rfl) (pa_cons (pe_bltn (v := V.ty "RuntimeError") (by rfl) B.rerr (by decide +kernel) rfl)
      (pa_cons (pe_bltn (v := V.ty "StopIteration") (by rfl) B.serr (by decide +kernel) rfl) pa_nil))))))) pa_nil)))))), ?_⟩
  refine ⟨_, rfl, a, C, V.ref CB, _, true, rfl, hx, Kt.ex C hC, .own CB, Kt.kb C hC, true, rfl, ?_⟩
  refine iteF ⟨_, rfl, a, C, V.ty "ValueError", _, true, rfl, hx, Kt.ex C hC, .ty _, Kt.kv C hC, true, rfl, ?_⟩
  refine iteF ⟨_, rfl, six_size, fun t ht => ?_⟩
  exact ⟨a, C, t, noV, noL, false, rfl, hx.mono (same_new ht _), Kt.ex C hC, upd_same, noVL, Kt.kn C hC, false, rfl, k _ (same_new ht _)⟩
theorem ok_plainP (D : Df K mg "_law_is_plain" s_plain) (B : Bi mg) (E : Ecs P w K mg base CB C0 C1 C2 C3 C4 C5 C6 C7 C8 C9 C10 C11 C12 C13 C14 C15) (Kt : Kits K CB [C0, C1, C2, C3, C4, C5, C6, C7, C8, C9, C10, C11, C12, C13, C14, C15]) (C : Addr) (pp : Addr × Obj) : GdP P w K mg base 1 "_law_is_plain" ["e"] pp (spPlainP [C0, C1, C2, C3, C4, C5, C6, C7, C8, C9, C10, C11, C12, C13, C14, C15] pp C) := by
  obtain ⟨f, fd, m, F⟩ := D
  refine ⟨f, fd, m, F.kp, F.binds (fun _ _ _ _ _ _ us hl => match us, hl with | [_], _ => rfl), ?_⟩
  refine fun_p F sc_plain (fun vs H Q E h => ?_) (fun cdv A outer s H vs Q E' hr h => ?_)
  · obtain ⟨rfl, _⟩ := h
    rfl
  obtain ⟨rfl, hC, h1, h2, ⟨dx, fs, g1, g2⟩, k⟩ := h
  have hC' : C ∈ CB :: [C0, C1, C2, C3, C4, C5, C6, C7, C8, C9, C10, C11, C12, C13, C14, C15] := List.mem_cons_of_mem _ hC
  refine ⟨_, pss_cons (ps_if (PW.pt (pw_or (pt_not (pt_val (pe_callB (call_isp (p := pp) List.mem_cons_self) (by rfl) B.isinstance boot_isi (pa_cons (pv 0) (pa_cons (pe_glob (v := V.ref CB) (by rfl) E.gB rfl) pa_nil)))))
      (pw_or1 (pt_not (pt_val (pe_callB (call_isp (p := pp) List.mem_cons_self) (by rfl) B.isinstance boot_isi (pa_cons (pv 0) (pa_cons (pe_bltn (v := V.ty "ValueError") (by rfl) B.verr (by decide +kernel) rfl) pa_nil)))))))) (pss_one (ps_ret pe_bl)) pss_nil)
    (pss_one (ps_ret (pe_not (pe_callB (call_ispT (p := pp) List.mem_cons_self) (by rfl) B.isinstance boot_isi (pa_cons (pv 0) (pa_cons (pe_tup (pa_cons (pe_bltn (v := V.ty "LookupError") (by rfl) B.lerr (by decide +kernel) rfl) (pa_cons (pe_bltn (v := V.ty "ArithmeticError") (by rfl) B.aerr (by decide +kernel) rfl)
      (pa_cons (pe_bltn (v := V.ty "TypeError") (by rfl) B.terr (by decide +kernel) rfl) (pa_cons (pe_bltn (v := V.ty "AttributeError") (by rfl) B.atterr (by decide +kernel) rfl) (pa_cons (pe_bltn (v := V.ty "RuntimeError") (by rfl) B.rerr (by decide +kernel) rfl)
      (pa_cons (pe_bltn (v := V.ty "StopIteration") (by rfl) B.serr (by decide +kernel) rfl) pa_nil))))))) pa_nil)))))), ?_⟩
  refine ⟨_, rfl, C, dx, fs, V.ref CB, _, true, rfl, h1, g1, h2, g2, Kt.ex C hC', .own CB, Kt.kb C hC', true, rfl, ?_⟩
  refine iteF ⟨_, rfl, C, dx, fs, V.ty "ValueError", _, true, rfl, h1, g1, h2, g2, Kt.ex C hC', .ty _, Kt.kv C hC', true, rfl, ?_⟩
  refine iteF ⟨_, rfl, six_size, fun t ht => ?_⟩
  exact ⟨C, dx, t, fs, noV, noL, false, rfl, h1, g1, h2, same_new ht _ _ _ g2, Kt.ex C hC', upd_same, noVL, Kt.kn C hC', false, rfl, k _ (same_new ht _)⟩
theorem sc_kept : FnScope ["word", "e"] ["word", "e"] (defScope s_kept) := ⟨rfl, rfl, rfl, by decide +kernel, rfl, by decide +kernel, by decide +kernel⟩
theorem ok_kept (D : Df K mg "_law_kept" s_kept) : Gd P w K mg base CX0 1 "_law_kept" ["word", "e"] (spKept K) := by
  refine gd_of D (fun _ _ _ _ _ _ us hl => match us, hl with | [_, _], _ => rfl) fun f fd F => ?_
  refine fun_q F sc_kept (fun vs H Q E h => ?_) (fun cdv A outer s H vs Q E' hr hq h => ?_)
  · obtain ⟨f, a, C, v, rfl, _⟩ := h
    rfl
  obtain ⟨f, a, C, v, rfl, hf, hx, T, no, k⟩ := h
  refine ⟨_, pss_cons (ps_if (pt_cmpR op_eq (pv 0) pe_str (nomark _)) (pss_one (ps_ret (pe_exf (pv 1)))) pss_nil)
    (pss_one (ps_ret (pe_ifExp (pt_cmpR op_eq (pv 0) pe_str (nomark _)) (pe_exf (pv 1)) (pe_exf (pv 1))))), ?_⟩
  refine ⟨_, rfl, rfl, _, rfl, ?_⟩
  rcases hf with rfl | rfl | rfl
  · exact iteT ⟨_, rfl, a, C, v, rfl, T, no, hx, k⟩
  · refine ite2 (fun c => absurd (of_decide_eq_true c) (by decide +kernel)) (fun _ => ?_)
    exact ⟨_, rfl, rfl, _, rfl, iteT ⟨_, rfl, a, C, v, rfl, T, no, hx, k⟩⟩
  · refine ite2 (fun c => absurd (of_decide_eq_true c) (by decide +kernel)) (fun _ => ?_)
    refine ⟨_, rfl, rfl, _, rfl, ?_⟩
    refine ite2 (fun c => absurd (of_decide_eq_true c) (by decide +kernel)) (fun _ => ?_)
    exact ⟨_, rfl, a, C, v, rfl, T, no, hx, k⟩
end

/-! ### _law_is_caught -/
section
variable {X : Cx} {a : Addr} {oe : Obj} {pn : List (Addr × Obj)} {cls : Value} {d : Option Addr} {L : List Addr} {C : Addr} {i k : Nat} {x f : Str} {q p pos : Pos}
def tKS (L : List Addr) (C : Addr) (i : Nat) (a : Addr) (cls : Value) (d : Option Addr) : TE := fun σ H Q => σ[i]? = some (some (.ref a)) ∧ C ∈ L ∧ cls = .ref C ∧ (∃ dx fs, d = some dx ∧ H dx = some (.xd fs)) ∧
  ∀ l H', Same H H' → H l = none → H' l = some (.lst (L.map fun D => .bl (decide (C = D)))) → Q (.ref l) H'
def tPS (L : List Addr) (C : Addr) (i : Nat) (a : Addr) (cls : Value) (d : Option Addr) : TE := fun σ H Q => σ[i]? = some (some (.ref a)) ∧ C ∈ L ∧ cls = .ref C ∧ (∃ dx fs, d = some dx ∧ H dx = some (.xd fs)) ∧ ∀ H', Same H H' → Q (.bl true) H'
open L2H in
theorem pe_kS (G : GdP X.prog X.w X.K X.mg X.base 1 "_law_kinds_of" ["e"] (a, oe) (spKindsP L (a, oe) C)) (hr : RoomH 1 X.A) (hz : Zc cls d oe) (hf : ∃ vs, oe.data = .fields vs) (hx : PE (X.suite a ((a, oe) :: pn)) (.Name x p) (tVar i)) (hg : Gl (X.suite a ((a, oe) :: pn)) "_law_kinds_of" := by rfl)
    (he : starEach [.Name x p] (X.suite a ((a, oe) :: pn)).env = (false, eval (.Name x p) (X.suite a ((a, oe) :: pn)).env) :: starEach [] (X.suite a ((a, oe) :: pn)).env := by rfl) :
    PE (X.suite a ((a, oe) :: pn)) (.Call (.Name "_law_kinds_of" q) [.Name x p] [] pos) (tKS L C i a cls d) := by
  refine pe_imp (pe_p (X := X.suite a ((a, oe) :: pn)) G ⟨hr.dp, hr.un⟩ List.mem_cons_self (pa_cons hx pa_nil he) hg (by decide) he (by rfl)) fun σ H Q ⟨h1, h2, h3, ⟨dx, fs, h4, h5⟩, h6⟩ => ?_
  exact ⟨_, h1, rfl, h2, hz.1.trans h3, hf, ⟨dx, fs, hz.2.trans h4, h5⟩, h6⟩
open L2H in
theorem pe_pS (G : GdP X.prog X.w X.K X.mg X.base 1 "_law_is_plain" ["e"] (a, oe) (spPlainP L (a, oe) C)) (hr : RoomH 1 X.A) (hz : Zc cls d oe) (hf : ∃ vs, oe.data = .fields vs) (hx : PE (X.suite a ((a, oe) :: pn)) (.Name x p) (tVar i)) (hg : Gl (X.suite a ((a, oe) :: pn)) "_law_is_plain" := by rfl)
    (he : starEach [.Name x p] (X.suite a ((a, oe) :: pn)).env = (false, eval (.Name x p) (X.suite a ((a, oe) :: pn)).env) :: starEach [] (X.suite a ((a, oe) :: pn)).env := by rfl) :
    PE (X.suite a ((a, oe) :: pn)) (.Call (.Name "_law_is_plain" q) [.Name x p] [] pos) (tPS L C i a cls d) := by
  refine pe_imp (pe_p (X := X.suite a ((a, oe) :: pn)) G ⟨hr.dp, hr.un⟩ List.mem_cons_self (pa_cons hx pa_nil he) hg (by decide) he (by rfl)) fun σ H Q ⟨h1, h2, h3, ⟨dx, fs, h4, h5⟩, h6⟩ => ?_
  exact ⟨_, h1, rfl, h2, hz.1.trans h3, hf, ⟨dx, fs, hz.2.trans h4, h5⟩, h6⟩
end
/-- _law_is_caught(spot, thing) -/
def spCaught : Sp := fun vs H Q _ => ∃ (i : Nat) (v : V), vs = [.int (i : Nat), v] ∧ i < 4 ∧ ∀ H', Same H H' → Q (.bl true) H'
section
variable {P : Program} {w : World} {K : PySem.W.Frag} {mg : Str → Option Value} {base : Heap} {CB C0 C1 C2 C3 C4 C5 C6 C7 C8 C9 C10 C11 C12 C13 C14 C15 : Addr}
theorem sc_caught : FnScope ["spot", "thing", "e"] ["spot", "thing"] (defScope s_caught) := ⟨rfl, rfl, rfl, by decide +kernel, rfl, by decide +kernel, by decide +kernel⟩
/-- the suite: its reading, the class told -/
def t_csuite (K : PySem.W.Frag) (L : List Addr) (C : Addr) : Addr → Value → Option Addr → TS := fun a cls d =>
  tRet (tAndV (tOp (rIxL K) (tKS L C 2 a cls d) (tOp (rIxT K) (tTup (tCons (tC (.int 2)) (tCons (tC (.int 9)) (tCons (tC (.int 12)) (tCons (tC (.int 15)) tNil))))) (tVar 0))) (tPS L C 2 a cls d))
theorem ok_caught (D : Df K mg "_law_is_caught" s_caught) (DK : Df K mg "_law_kinds_of" s_kinds) (DP : Df K mg "_law_is_plain" s_plain) (B : Bi mg) (E : Ecs P w K mg base CB C0 C1 C2 C3 C4 C5 C6 C7 C8 C9 C10 C11 C12 C13 C14 C15) (Kt : Kits K CB [C0, C1, C2, C3, C4, C5, C6, C7, C8, C9, C10, C11, C12, C13, C14, C15])
    (nd : ([C0, C1, C2, C3, C4, C5, C6, C7, C8, C9, C10, C11, C12, C13, C14, C15] : List Addr).Nodup) (hm : ∀ C ∈ ([C0, C1, C2, C3, C4, C5, C6, C7, C8, C9, C10, C11, C12, C13, C14, C15] : List Addr), PySem.W.exmOne K (.ref C) (.ref CB) = some true) : Gd P w K mg base CX0 4 "_law_is_caught" ["spot", "thing"] spCaught := by
  refine gd_of D (fun _ _ _ _ _ _ us hl => match us, hl with | [_, _], _ => rfl) fun f fd F => ?_
  refine fun_q F sc_caught (fun vs H Q E h => ?_) (fun cdv A outer s H vs Q E' hr hq h => ?_)
  · obtain ⟨i, v, rfl, _⟩ := h
    rfl
  obtain ⟨i, v, rfl, hi, k⟩ := h
  have hr2 : Room 2 _ := hr.mono (by decide)
  have hr1 : Room 1 _ := hr.mono (by decide)
  obtain ⟨C, hC⟩ : ∃ C, C = (if i = 0 then C2 else if i = 1 then C9 else if i = 2 then C12 else C15) := ⟨_, rfl⟩
  refine ⟨_, pss_cons (ps_try_as (i := 2) (tb := fun W => tSeq (tIfS (tTest (tOp rEq (tVar 0) (tC (.int 0)))) (fun _ σ H => tRx C2 "given" (tVar 1) σ H fun cls d H' => W cls d σ H') tNext)
        (tSeq (tIfS (tTest (tOp rEq (tVar 0) (tC (.int 1)))) (fun _ σ H => tRx C9 "given" (tVar 1) σ H fun cls d H' => W cls d σ H') tNext)
        (tSeq (tIfS (tTest (tOp rEq (tVar 0) (tC (.int 2)))) (fun _ σ H => tRx C12 "index" (tVar 1) σ H fun cls d H' => W cls d σ H') tNext)
        (fun _ σ H => tRx C15 "spot" (tVar 1) σ H fun cls d H' => W cls d σ H')))) (ts := t_csuite K [C0, C1, C2, C3, C4, C5, C6, C7, C8, C9, C10, C11, C12, C13, C14, C15] C) (Wout := fun _ _ _ _ => False) rfl rfl sc_caught.nd rfl rfl ⟨rfl, by decide, Or.inl E.gB⟩ takes0
      (fun W pn xe tk _ => pss_cons (ps_if (pt_cmpR op_eq (pv 0) pe_int (nomark _)) (pss_one (ps_raise rfl tk (pmk_ex E.e2 hr2 (pv 1)))) pss_nil)
        (pss_cons (ps_if (pt_cmpR op_eq (pv 0) pe_int (nomark _)) (pss_one (ps_raise rfl tk (pmk_exK E.e9 hr2 (pv 1)))) pss_nil)
        (pss_cons (ps_if (pt_cmpR op_eq (pv 0) pe_int (nomark _)) (pss_one (ps_raise rfl tk (pmk_ex E.e12 hr2 (pv 1)))) pss_nil)
        (pss_one (ps_raise rfl tk (pmk_exK E.e15 hr2 (pv 1)))))))
      (fun a oe cls d pn hz hf => pss_one (ps_ret (pe_and (pe_ix ix_list (pe_kS (ok_kindsP DK B E Kt C (a, oe)) (L2H.roomH_of hr1) hz hf (pv 2)) (pe_ix ix_tup (pe_tup (pa_cons pe_int (pa_cons pe_int (pa_cons pe_int (pa_cons pe_int pa_nil))))) (pv 0) (fun _ _ => rfl)) (fun _ _ => rfl))
        (pe_one (pe_pS (ok_plainP DP B E Kt C (a, oe)) (L2H.roomH_of hr1) hz hf (pv 2)))))))
    (pss_one (ps_ret pe_bl)), ?_⟩
  -- the suite, wherever it begins
  have suite : ∀ (D : Ends) (H1 : Hp) (j : Nat) (fd : Addr) (fs : List (Str × V)), (∀ v H', D.rt v H' = Q v H') → Same H H1 → H1 fd = some (.xd fs) → C ∈ ([C0, C1, C2, C3, C4, C5, C6, C7, C8, C9, C10, C11, C12, C13, C14, C15] : List Addr) → j < 16 → ([C0, C1, C2, C3, C4, C5, C6, C7, C8, C9, C10, C11, C12, C13, C14, C15] : List Addr)[j]? = some C → ([2, 9, 12, 15] : List Nat)[i]? = some j →
      ∃ b, PySem.W.exmOne K (.ref C) (.ref CB) = some b ∧ (b = true → ∀ a, H1 a = none → t_csuite K [C0, C1, C2, C3, C4, C5, C6, C7, C8, C9, C10, C11, C12, C13, C14, C15] C a (.ref C) (some fd) { nx := fun σ' H' => D.nx (σ'.set 2 none) H', rt := D.rt, bk := fun σ' H' => D.bk (σ'.set 2 none) H', ct := fun σ' H' => D.ct (σ'.set 2 none) H' }
        ((L2.start ["spot", "thing", "e"] [.int (i : Nat), v]).set 2 (some (.ref a))) H1) ∧ (b = false → False) := by
    intro D H1 j fd fs hD s1 h1 hL hj hg hij
    refine ⟨true, hm C hL, fun _ a ha => ?_, fun z => nomatch z⟩
    refine ⟨rfl, hL, rfl, ⟨fd, fs, rfl, h1⟩, fun l H2 s2 nl h2 => ?_⟩
    refine ⟨(by rw [sizeLine_eq]; exact (by decide : 4 ≤ 16777216)), fun t ht => ?_⟩
    refine ⟨_, rfl, t, _, (i : Nat), .int (j : Nat), rfl, rfl, SqT.of upd_same, ?_, ?_⟩
    · refine atI_nat ?_
      match i, hij with
      | 0, e => cases e; rfl
      | 1, e => cases e; rfl
      | 2, e => cases e; rfl
      | 3, e => cases e; rfl
    have s3 := same_new ht (HO.tup [V.int 2, V.int 9, V.int 12, V.int 15])
    refine ⟨l, _, (j : Nat), .bl true, rfl, rfl, SqL.of (s3 _ _ h2), atI_nat ?_, true, rfl, iteT ?_⟩
    · rw [List.getElem?_map, hg]
      exact congrArg (fun z => some (V.bl z)) (decide_eq_true rfl)
    refine ⟨rfl, hL, rfl, ⟨fd, fs, rfl, s3 _ _ (s2 _ _ h1)⟩, fun H3 s4 => ?_⟩
    show D.rt _ _
    rw [hD]
    exact k _ (s1.trans (s2.trans (s3.trans s4)))
  refine ⟨_, rfl, rfl, _, rfl, ?_⟩
  have ne : ∀ a b : Nat, a ≠ b → ¬ (V.int (a : Nat) = V.int (b : Nat)) := fun a b h e => h (Int.ofNat.inj (V.int.inj e))
  match i, hi, hC, suite, k with
  | 0, _, hC, suite, k =>
    refine iteT ⟨_, rfl, fun d H2 s2 h2 => ?_⟩
    have hC' : C = C2 := hC
    subst hC'
    exact suite _ H2 2 d _ (fun _ _ => rfl) s2 h2 (by simp) (by decide) rfl rfl
  | 1, _, hC, suite, k =>
    refine ite2 (fun c => absurd (of_decide_eq_true c) (ne 1 0 (by decide))) (fun _ => ⟨_, rfl, rfl, _, rfl, iteT ⟨_, rfl, fun d H2 s2 h2 => ?_⟩⟩)
    have hC' : C = C9 := hC
    subst hC'
    exact suite _ H2 9 d _ (fun _ _ => rfl) s2 h2 (by simp) (by decide) rfl rfl
  | 2, _, hC, suite, k =>
    refine ite2 (fun c => absurd (of_decide_eq_true c) (ne 2 0 (by decide))) (fun _ => ⟨_, rfl, rfl, _, rfl, ?_⟩)
    refine ite2 (fun c => absurd (of_decide_eq_true c) (ne 2 1 (by decide))) (fun _ => ⟨_, rfl, rfl, _, rfl, iteT ⟨_, rfl, fun d H2 s2 h2 => ?_⟩⟩)
    have hC' : C = C12 := hC
    subst hC'
    exact suite _ H2 12 d _ (fun _ _ => rfl) s2 h2 (by simp) (by decide) rfl rfl
  | 3, _, hC, suite, k =>
    refine ite2 (fun c => absurd (of_decide_eq_true c) (ne 3 0 (by decide))) (fun _ => ⟨_, rfl, rfl, _, rfl, ?_⟩)
    refine ite2 (fun c => absurd (of_decide_eq_true c) (ne 3 1 (by decide))) (fun _ => ⟨_, rfl, rfl, _, rfl, ?_⟩)
    refine ite2 (fun c => absurd (of_decide_eq_true c) (ne 3 2 (by decide))) (fun _ => ⟨_, rfl, fun d H2 s2 h2 => ?_⟩)
    have hC' : C = C15 := hC
    subst hC'
    exact suite _ H2 15 d _ (fun _ _ => rfl) s2 h2 (by simp) (by decide) rfl rfl
end

/-! ### _law_right -/
def mixL (d : PyData) : List PyData := [d, (.tuple [d, d]), (.list [d]), (.str "a text"), (.int (-7)), (.bool true), (.tuple [(.tuple []), (.tuple [d])])]
def rokB (d : PyData) : Bool := d.showable && (decide (d.depth ≤ 60) && decide (d.shown.length ≤ 10000))
theorem rok_all : (oddL.all fun d => (mixL d).all rokB) = true := by decide +kernel
theorem rok_of {d d' : PyData} (h : d ∈ oddL) (h' : d' ∈ mixL d) : d'.showable = true ∧ d'.depth ≤ 60 ∧ d'.shown.length ≤ sizeLine := by
  have q := List.all_eq_true.mp (List.all_eq_true.mp rok_all d h) d' h'
  simp only [rokB, Bool.and_eq_true, decide_eq_true_eq] at q
  exact ⟨q.1, q.2.1, Nat.le_trans q.2.2 (by rw [sizeLine_eq]; decide)⟩
theorem dpAll_bl {K : PySem.W.Frag} {H : Hp} : ∀ bs : List Bool, DpAll K H (bs.map V.bl) (bs.map PyData.bool)
  | [] => .nil
  | b :: r => .cons (.bl b) (dpAll_bl r)
theorem canLay_bl : ∀ bs : List Bool, PyData.canLay0 (.list (bs.map PyData.bool)) = true := by
  intro bs
  simp only [PyData.canLay0]
  induction bs with
  | nil => rfl
  | cons b r ih => simpa [PyData.canLayAll0, PyData.canLay0] using ih
theorem depth_bl : ∀ bs : List Bool, PyData.depth (.list (bs.map PyData.bool)) ≤ 1 := by
  intro bs
  simp only [PyData.depth]
  induction bs with
  | nil => decide
  | cons b r ih =>
    simp only [List.map_cons, PyData.depthAll, PyData.depth] at *
    omega

theorem shaped_bl (bs : List Bool) : SeqAt.shaped (.list (bs.map PyData.bool)) = true := by
  have h2 := depth_bl bs
  exact Bool.and_eq_true_iff.mpr ⟨canLay_bl bs, decide_eq_true (by omega)⟩
/-- == of a list of truths and itself -/
theorem ne_bls {K : PySem.W.Frag} {a b : Addr} {bs : List Bool} {H : Hp} {Q : VK} (ha : H a = some (.lst (bs.map V.bl))) (hb : H b = some (.lst (bs.map V.bl))) (q : Q (.bl false) H) : rNeD K (.ref a) (.ref b) H Q := by
  refine ⟨_, _, .lst (SqL.of ha) (dpAll_bl bs), .lst (SqL.of hb) (dpAll_bl bs), shaped_bl bs, shaped_bl bs, ?_⟩
  rw [SeqAt.eqv_refl _ (canLay_bl bs)]
  exact q
theorem ne_two {K : PySem.W.Frag} {a : Addr} {i j : Int} {H : Hp} {Q : VK} (ha : H a = some (.lst [.int i, .int j])) (q : Q (.bl false) H) : rNeD K (.ref a) (.ref a) H Q := by
  have c : PyData.canLay0 (.list [.int i, .int j]) = true := rfl
  have s : SeqAt.shaped (.list [.int i, .int j]) = true := rfl
  refine ⟨_, _, .lst (SqL.of ha) (.cons (.int i) (.cons (.int j) .nil)), .lst (SqL.of ha) (.cons (.int i) (.cons (.int j) .nil)), s, s, ?_⟩
  rw [SeqAt.eqv_refl _ c]
  exact q
theorem Bs.of_but {p : Addr} {H H' : Hp} (b : But p H H') (w : Well H' p) : Bs H H' := fun c n => by
  obtain ⟨_, _, _, _, e⟩ := w
  cases q : H c with
  | none => rfl
  | some o =>
    by_cases h : c = p
    · rw [h, e] at n
      cases n
    · rw [b c o h q] at n
      cases n
theorem But.same {p : Addr} {H H1 H2 : Hp} (b : But p H H1) (s : Same H1 H2) : But p H H2 := fun c o n q => s _ _ (b c o n q)
theorem Well.same {p : Addr} {H H' : Hp} (w : Well H p) (s : Same H H') : Well H' p := let ⟨a, m, c, N, e⟩ := w; ⟨a, m, c, N, s _ _ e⟩
theorem news_but {p : Addr} {H0 H1 H2 : Hp} (np : H0 p ≠ none) (b : But p H1 H2) : Same (news H0 H1) (news H0 H2) := fun c o q => by
  obtain ⟨q1, q2⟩ := news_some.mp q
  exact news_some.mpr ⟨q1, b c o (fun z => np (z ▸ q1)) q2⟩
theorem Well.there {p : Addr} {H : Hp} (w : Well H p) : H p ≠ none := let ⟨_, _, _, _, e⟩ := w; by rw [e]; exact fun z => nomatch z
theorem pe_exi {X : Cx} {e : Expr} {α : Type} {t : α → TE} (h : ∀ a, PE X e (t a)) : PE X e (fun σ H Q => ∃ a, t a σ H Q) := ⟨fun pins s σ H Q I ⟨a, q⟩ => (h a).run pins s σ H Q I q⟩
/-- the rows stand where another list is written -/
theorem RowOk.keep {H H' : Hp} {v x : V} {f : Str} {C : Addr} {q : Addr} {i : Int} {r : List V} (hq : H q = some (.lst (.int i :: r))) (k : ∀ b o, b ≠ q → H b = some o → H' b = some o) : RowOk H v x f C → RowOk H' v x f C := by
  rintro ⟨rr, a1, a2, e, h, ⟨d1, x1, y1⟩, d2, x2, y2⟩
  have ne : ∀ {b : Addr} {o : HO}, H b = some o → o ≠ .lst (.int i :: r) → b ≠ q := fun hb ho z => by
    rw [z, hq] at hb
    exact ho (Option.some.inj hb).symm
  have n1 : ∀ {e C : Addr} {d : Option Addr}, exo e C d ≠ .lst (.int i :: r) := fun z => nomatch (show HO.ext _ = HO.lst _ from z)
  have n2 : ∀ {d : Addr} {fs : List (Str × V)}, exd d fs ≠ .lst (.int i :: r) := fun z => nomatch (show HO.ext _ = HO.lst _ from z)
  refine ⟨rr, a1, a2, e, k _ _ (ne h ?_) h, ⟨d1, k _ _ (ne x1 n1) x1, k _ _ (ne y1 n2) y1⟩, d2, k _ _ (ne x2 n1) x2, k _ _ (ne y2 n2) y2⟩
  intro z
  injection z with z
  injection z with z
  cases z
theorem RowsOk.keep {H H' : Hp} {v : V} {q : Addr} {i : Int} {r : List V} (hq : H q = some (.lst (.int i :: r))) (k : ∀ b o, b ≠ q → H b = some o → H' b = some o) : ∀ {xs : List V} {R : List (Str × Addr)}, RowsOk H v xs R → RowsOk H' v xs R
  | _, _, .nil => .nil
  | _, _, .cons h t => .cons (h.keep hq k) (RowsOk.keep hq k t)
/-- _law_right(well) -/
def spRight : Sp := fun vs H Q _ => ∃ p, vs = [.ref p] ∧ Well H p ∧ ∀ H', But p H H' → Q (.bl true) H'
theorem boot_all2 : bootBuiltins "all" = some (.builtin "all") := by decide +kernel
theorem boot_repr2 : bootBuiltins "repr" = some (.builtin "repr") := by decide +kernel
theorem in_none {C : Addr} : ∀ {Ds : List Addr}, C ∉ Ds → inV (.bl true) (Ds.map fun D => V.bl (decide (C = D))) = false
  | [], _ => rfl
  | D :: r, h => by
    have h1 : C ≠ D := fun z => h (z ▸ List.mem_cons_self)
    have ih := in_none (C := C) (Ds := r) fun z => h (List.mem_cons_of_mem _ z)
    show (eqV (V.bl (decide (C = D))) (.bl true) || inV (.bl true) (r.map fun D => V.bl (decide (C = D)))) = false
    rw [ih, decide_eq_false h1]
    rfl
theorem flat_bl : ∀ {Ds : List Addr} {C : Addr}, (Ds.map fun D => V.bl (decide (C = D))).all flatV = true
  | [], _ => rfl
  | _ :: r, C => flat_bl (Ds := r) (C := C)
/-- the truths of the i-th class -/
theorem kinds_at {Ds : List Addr} {i : Nat} {C : Addr} (nd : Ds.Nodup) (h : Ds[i]? = some C) : (Ds.map fun D => V.bl (decide (C = D))) = (List.range Ds.length).map fun k => V.bl (decide (V.int (k : Nat) = V.int (i : Nat))) := by
  refine List.ext_getElem (by simp) fun k h1 h2 => ?_
  simp only [List.getElem_map, List.getElem_range]
  have hk : k < Ds.length := by simpa using h1
  have hi : i < Ds.length := (List.getElem?_eq_some_iff.mp h).1
  have e : C = Ds[i] := ((List.getElem?_eq_some_iff.mp h).2).symm
  have q : (C = Ds[k]) ↔ (V.int (k : Nat) = V.int (i : Nat)) := by
    constructor
    · intro z
      rw [e] at z
      have z2 := (List.getElem_inj nd).mp z
      rw [z2]
    · intro z
      have z2 : k = i := Int.ofNat.inj (V.int.inj z)
      subst z2
      exact e
  exact congrArg V.bl (decide_eq_decide.mpr q)
theorem tYes_of {σ : L2.St} {H : Hp} {A B : Hp → Prop} (h : A H) : tYes σ H (fun b H3 => if b = true then A H3 else B H3) := by
  show (if true = true then A H else B H)
  exact iteT h

section
variable {P : Program} {w : World} {K : PySem.W.Frag} {mg : Str → Option Value} {base : Heap} {CB C0 C1 C2 C3 C4 C5 C6 C7 C8 C9 C10 C11 C12 C13 C14 C15 : Addr}
theorem sc_right : FnScope ["well", "thing", "spot", "word", "one", "two", "e", "row", "made", "at"] ["well"] (defScope s_right) := ⟨rfl, rfl, rfl, by decide +kernel, rfl, by decide +kernel, by decide +kernel⟩
theorem ok_right (D : Df K mg "_law_right" s_right) (B : Bi mg) (E : Ecs P w K mg base CB C0 C1 C2 C3 C4 C5 C6 C7 C8 C9 C10 C11 C12 C13 C14 C15) (Kt : Kits K CB [C0, C1, C2, C3, C4, C5, C6, C7, C8, C9, C10, C11, C12, C13, C14, C15]) (nd : (CB :: [C0, C1, C2, C3, C4, C5, C6, C7, C8, C9, C10, C11, C12, C13, C14, C15] : List Addr).Nodup)
    (GD : Gd P w K mg base CX0 1 "_law_draw" ["well", "few"] spDraw) (GO : Gd P w K mg base CX0 2 "_law_one" ["well", "some"] (spOne K)) (GI : Gd P w K mg base CX0 3 "_law_odd_thing" ["well"] spOdd)
    (GM : Gd P w K mg base CX0 3 "_law_made" ["thing"] (spMade [("given", C0), ("given", C1), ("given", C2), ("given", C3), ("given", C4), ("given", C5), ("given", C6), ("given", C7), ("given", C8), ("given", C9), ("given", C10), ("index", C11), ("index", C12), ("index", C13), ("index", C14), ("spot", C15)])) (GK : Gd P w K mg base CX0 1 "_law_kinds_of" ["e"] (spKinds K CB [C0, C1, C2, C3, C4, C5, C6, C7, C8, C9, C10, C11, C12, C13, C14, C15])) (GP : Gd P w K mg base CX0 1 "_law_is_plain" ["e"] (spPlain CB [C0, C1, C2, C3, C4, C5, C6, C7, C8, C9, C10, C11, C12, C13, C14, C15]))
    (GT : Gd P w K mg base CX0 1 "_law_kept" ["word", "e"] (spKept K)) (GC : Gd P w K mg base CX0 4 "_law_is_caught" ["spot", "thing"] spCaught) : Gd P w K mg base CX0 6 "_law_right" ["well"] spRight := by
  refine gd_of D (fun _ _ _ _ _ _ us hl => match us, hl with | [_], _ => rfl) fun f fd F => ?_
  refine fun_q F sc_right (fun vs H Q E h => ?_) (fun cdv A outer s H vs Q E' hr hq h => ?_)
  · obtain ⟨p, rfl, _⟩ := h
    rfl
  obtain ⟨p, rfl, W, k⟩ := h
  have hr1 : Room 1 _ := hr.mono (by decide)
  have hr2 : Room 2 _ := hr.mono (by decide)
  have hr3 : Room 3 _ := hr.mono (by decide)
  have hr4 : Room 4 _ := hr.mono (by decide)
  have hu := hr.units
  refine ⟨_, (pss_cons (ps_if (PW.pt (pw_or (pt_not (pt_val (pe_g GP hr1 hq (pa_cons (pe_ex0 PySem.F.excBase_ValueError E.xB E.gB E.kB) pa_nil)))) (pw_or1 (pt_cmpR op_in_seq pe_bl (pe_g GK hr1 hq (pa_cons (pe_ex0 PySem.F.excBase_ValueError E.xB E.gB E.kB) pa_nil)) (by rfl))))) (pss_one (ps_ret pe_bl)) pss_nil) (pss_cons (ps_set (i := 1) sc_right.nd rfl (Or.inr rfl) (pe_g GI hr3 hq (pa_cons (pv 0) pa_nil))) (pss_cons (ps_set (i := 1) sc_right.nd rfl (Or.inr rfl) (pe_g GO hr2 hq (pa_cons (pv 0) (pa_cons (pe_exi fun d0 => (da_tup (H0 := H) (da_cons (by walk_at "st") (da_var (d := d0) (pv 1)) (da_cons (by walk_at "st") (da_tup (da_cons (by walk_at "st") (da_var (d := d0) (pv 1)) (da_cons (by walk_at "st") (da_var (d := d0) (pv 1)) da_nil))) (da_cons (by walk_at "st") (da_lst (da_cons (by walk_at "st") (da_var (d := d0) (pv 1)) da_nil)) (da_cons (by walk_at "st") da_str (da_cons (by walk_at "st") da_neg (da_cons (by walk_at "st") da_bool (da_cons (by walk_at "st") (da_tup (da_cons (by walk_at "st") (da_tup da_nil) (da_cons (by walk_at "st") (da_tup (da_cons (by walk_at "st") (da_var (d := d0) (pv 1)) da_nil)) da_nil))) da_nil))))))))) pa_nil)))) (pss_cons (ps_for PassesOwn.never rfl (pi_enum (by rfl) B.enumerate (pa_cons (pe_g GM hr3 hq (pa_cons (pv 1) pa_nil)) pa_nil)) (pg_tup rfl (pgs_cons (pg_name (i := 2) sc_right.nd rfl (Or.inr rfl)) (pgs_cons (pg_lst rfl (pgs_cons (pg_name (i := 3) sc_right.nd rfl (Or.inl rfl)) (pgs_cons (pg_name (i := 4) sc_right.nd rfl (Or.inl rfl)) (pgs_cons (pg_name (i := 5) sc_right.nd rfl (Or.inl rfl)) pgs_nil)))) pgs_nil))) (pss_one (ps_for PassesOwn.never rfl (pi_tup (pe_tup (pa_cons (pv 4) (pa_cons (pv 5) pa_nil)))) (pg_name (i := 6) sc_right.nd rfl (Or.inl rfl)) (pss_cons (ps_if (PW.pt (pw_or (pt_cmpR (op_neD hu) (pe_g GK hr1 hq (pa_cons (pv 6) pa_nil)) (pe_lc (own := [("at", 9)]) (g := gName 9) (tt := tYes) rfl sc_right.nd (pi_range1 (by rfl) B.range (pa_cons pe_int pa_nil)) (blkOk_by (own := [("at", 9)]) (N := ["well", "thing", "spot", "word", "one", "two", "e", "row", "made", "at"]) (sc := defScope s_right) (by decide +kernel)) (fun _ _ _ _ _ => pg_name (i := 9) sc_right.nd rfl (Or.inl rfl)) (fun _ _ _ _ _ => pts_nil) (fun _ _ _ _ _ => (pe_cmpR op_eq (pv 9) (pv 2) (nomark _)))) (nomark _)) (pw_or1 (pt_not (pt_val (pe_g GP hr1 hq (pa_cons (pv 6) pa_nil))))))) (pss_one (ps_ret pe_bl)) pss_nil) (pss_one (ps_if (pt_cmpR op_ne (pe_callB (call_repr hq hu) (by rfl) B.repr boot_repr2 (pa_cons (pe_g GT hr1 hq (pa_cons (pv 3) (pa_cons (pv 6) pa_nil))) pa_nil)) (pe_callB (call_repr hq hu) (by rfl) B.repr boot_repr2 (pa_cons (pv 1) pa_nil)) (nomark _)) (pss_one (ps_ret pe_bl)) pss_nil)))))) (pss_cons (ps_set (i := 7) sc_right.nd rfl (Or.inl rfl) (pe_lst (pa_cons (pe_g GD hr1 hq (pa_cons (pv 0) (pa_cons pe_int pa_nil))) pa_nil))) (pss_cons (ps_set (i := 8) sc_right.nd rfl (Or.inl rfl) (pe_g GM hr3 hq (pa_cons (pv 7) pa_nil))) (pss_cons (ps_expr (pe_bm PySem.F.plainAttrs_list PySem.F.slot_list_append PySem.F.type_list_append mt_append (pv 7) (pa_cons (pe_g GD hr1 hq (pa_cons (pv 0) (pa_cons pe_int pa_nil))) pa_nil))) (pss_cons (ps_for PassesOwn.never rfl (pi_list (pv 8)) (pg_lst rfl (pgs_cons (pg_name (i := 3) sc_right.nd rfl (Or.inl rfl)) (pgs_cons (pg_name (i := 4) sc_right.nd rfl (Or.inl rfl)) (pgs_cons (pg_name (i := 5) sc_right.nd rfl (Or.inl rfl)) pgs_nil)))) (pss_one (ps_if (PW.pt (pw_or (pt_cmpR (op_neD hu) (pe_g GT hr1 hq (pa_cons (pv 3) (pa_cons (pv 4) pa_nil))) (pv 7) (nomark _)) (pw_or1 (pt_cmpR (op_neD hu) (pe_g GT hr1 hq (pa_cons (pv 3) (pa_cons (pv 5) pa_nil))) (pv 7) (nomark _))))) (pss_one (ps_ret pe_bl)) pss_nil))) (pss_one (ps_ret (pe_callB (cr_all rfl) (by rfl) B.all boot_all2 (pa_cons (pe_lc (own := [("spot", 2)]) (g := gName 2) (tt := tYes) rfl sc_right.nd (pi_range1 (by rfl) B.range (pa_cons pe_int pa_nil)) (blkOk_by (own := [("spot", 2)]) (N := ["well", "thing", "spot", "word", "one", "two", "e", "row", "made", "at"]) (sc := defScope s_right) (by decide +kernel)) (fun _ _ _ _ _ => pg_name (i := 2) sc_right.nd rfl (Or.inl rfl)) (fun _ _ _ _ _ => pts_nil) (fun _ _ _ _ _ => (pe_cmpR op_is_bl (pe_g GC hr4 hq (pa_cons (pv 2) (pa_cons (pv 1) pa_nil))) pe_bl (nomark _)))) pa_nil)))))))))))), ?_⟩
  have nB : CB ∉ ([C0, C1, C2, C3, C4, C5, C6, C7, C8, C9, C10, C11, C12, C13, C14, C15] : List Addr) := (List.nodup_cons.mp nd).1
  have nL : ([C0, C1, C2, C3, C4, C5, C6, C7, C8, C9, C10, C11, C12, C13, C14, C15] : List Addr).Nodup := (List.nodup_cons.mp nd).2
  -- the base class
  refine fun a na => ⟨a, CB, rfl, List.mem_cons_self, .inl upd_same, fun H1 s1 => ⟨true, rfl, iteF ?_⟩⟩
  intro a2 na2
  refine ⟨a2, CB, rfl, List.mem_cons_self, .inl upd_same, fun l H2 s2 nl h2 => ?_⟩
  refine ⟨l, _, rfl, .inl (SqL.of h2), rfl, flat_bl, _, rfl, ?_⟩
  have S2 : Same H H2 := (same_new na _).trans (s1.trans ((same_new na2 _).trans s2))
  have W2 := W.same S2
  have np : H p ≠ none := W.there
  have B2 : But p H H2 := fun b o _ q => S2 b o q
  refine ite2 (fun c => ?_) (fun _ => ?_)
  · have c' : inV (.bl true) (([C0, C1, C2, C3, C4, C5, C6, C7, C8, C9, C10, C11, C12, C13, C14, C15] : List Addr).map fun D => V.bl (decide (CB = D))) = true := c
    rw [in_none nB] at c'
    cases c'
  -- thing
  refine ⟨_, rfl, p, rfl, W2, fun v0 d0 H3 hd0 W3 bt3 dd0 => ?_⟩
  have B3 := B2.trans bt3
  have dd0' : Dd (news H H3) v0 d0 := dd0.mono fun b o q => news_some.mpr ⟨S2.free (news_some.mp q).1, (news_some.mp q).2⟩
  refine ⟨_, rfl, d0, Bs.of_but B3 W3, by walk_at "pre", fun vt H4 s4 ddt => ?_⟩
  cases ddt with
  | tup ht at_ =>
  rename_i at1 xst
  have np4 : p ≠ at1 := fun z => np (z ▸ (news_some.mp ht).1)
  refine ⟨p, at1, xst, rfl, W3.same s4, SqT.of (news_old _ _ ht), np4, ?_, ?_, fun ix v H5 hv W5 bt5 => ?_⟩
  · rw [at_.length]
    exact (by decide : 0 < 7)
  · rw [at_.length]
    exact (by decide : 7 < 1000000)
  have B5 := (B3.same s4).trans bt5
  obtain ⟨d, hd, dd⟩ := at_.get hv
  have hdm : d ∈ mixL d0 := List.mem_of_getElem? (show (mixL d0)[ix]? = some d from hd)
  obtain ⟨r1, r2, r3⟩ := rok_of hd0 hdm
  have dd5 : Dd (news H H5) v d := dd.mono (news_but np bt5)
  clear dd at_ hd hv ht dd0 dd0' hdm
  -- the rows
  refine ⟨_, rfl, v, rfl, fun l xs H6 s6 nl h6 rows => ⟨l, xs, rfl, SqL.of h6, ?_⟩⟩
  have lx : xs.length = 16 := rows.length
  refine for_it walk_enum (fun i σ H' => Same H6 H' ∧ ∃ a2 a3 a4 a5 a6 a7 a8 a9, σ = [some (.ref p), some v, a2, a3, a4, a5, a6, a7, a8, a9]) ⟨Same.refl _, _, _, _, _, _, _, _, _, rfl⟩ (fun i σ H' _ ⟨s7, _⟩ => SqL.of (s7 _ _ h6)) ?_ ?_
  · rintro i x σ H7 H8 hi ⟨s7, a2, a3, a4, a5, a6, a7, a8, a9, rfl⟩ ⟨T, x1, x2, rfl, nT, rfl, e1, e2⟩
    cases e1
    obtain ⟨f1, Cx, hR, rr, b1, b2, rfl, hrr, X1, X2⟩ := rows.get e2
    have s8 : Same H6 (upd H7 T (.tup [.int (i : Nat), .ref rr])) := s7.trans (same_new nT _)
    refine ⟨T, _, rfl, SqT.of upd_same, rfl, _, _, rfl, _, _, rfl, ⟨rr, _, rfl, SqL.of (s8 _ _ hrr), rfl, _, _, rfl, _, _, rfl, _, _, rfl, rfl, rfl, ?_⟩⟩
    refine ⟨_, rfl, _, rfl, (by rw [sizeLine_eq]; exact (by decide : 2 ≤ 16777216)), fun t ht => ⟨t, rfl, ⟨_, SqT.of upd_same⟩, ?_⟩⟩
    generalize hH9 : upd (upd H7 T (.tup [.int (i : Nat), .ref rr])) t (.tup [.ref b1, .ref b2]) = H9
    have s9 : Same H6 H9 := by rw [← hH9]; exact s8.trans (same_new ht _)
    have ht9 : H9 t = some (.tup [.ref b1, .ref b2]) := by rw [← hH9]; exact upd_same
    refine for_it walk_tup (fun _ σ H' => Same H9 H' ∧ ∃ a6 a7 a8 a9, σ = [some (.ref p), some v, some (.int (i : Nat)), some (.str f1), some (.ref b1), some (.ref b2), a6, a7, a8, a9]) ⟨Same.refl _, _, _, _, _, rfl⟩ (fun _ σ H' _ ⟨s10, _⟩ => SqT.of (s10 _ _ ht9)) ?_ ?_
    · rintro j x σ H10 _ hj ⟨s10, a6', a7', a8', a9', rfl⟩ ⟨rfl, hx⟩
      obtain ⟨b, rfl, Xb⟩ : ∃ b, x = .ref b ∧ Exo H6 b Cx f1 v := by
        match j, hx with
        | 0, e => cases e; exact ⟨_, rfl, X1⟩
        | 1, e => cases e; exact ⟨_, rfl, X2⟩
      have s11 := s9.trans s10
      have hCf : (Cx ∈ ([C0, C1, C2, C3, C4, C5, C6, C7, C8, C9, C10, C11, C12, C13, C14, C15] : List Addr)) ∧ ([C0, C1, C2, C3, C4, C5, C6, C7, C8, C9, C10, C11, C12, C13, C14, C15] : List Addr)[i]? = some Cx ∧ (f1 = "given" ∨ f1 = "index" ∨ f1 = "spot") ∧ PySem.W.findIn K (.ref Cx) f1 = some none := by
        have hi' : i < 16 := by rw [← lx]; exact hi
        clear X1 X2 Xb
        match i, hi', hR with
        | 0, _, e => cases e; exact ⟨by simp, rfl, .inl rfl, E.e0.noF⟩
        | 1, _, e => cases e; exact ⟨by simp, rfl, .inl rfl, E.e1.noF⟩
        | 2, _, e => cases e; exact ⟨by simp, rfl, .inl rfl, E.e2.noF⟩
        | 3, _, e => cases e; exact ⟨by simp, rfl, .inl rfl, E.e3.noF⟩
        | 4, _, e => cases e; exact ⟨by simp, rfl, .inl rfl, E.e4.noF⟩
        | 5, _, e => cases e; exact ⟨by simp, rfl, .inl rfl, E.e5.noF⟩
        | 6, _, e => cases e; exact ⟨by simp, rfl, .inl rfl, E.e6.noF⟩
        | 7, _, e => cases e; exact ⟨by simp, rfl, .inl rfl, E.e7.noF⟩
        | 8, _, e => cases e; exact ⟨by simp, rfl, .inl rfl, E.e8.noF⟩
        | 9, _, e => cases e; exact ⟨by simp, rfl, .inl rfl, E.e9.noF⟩
        | 10, _, e => cases e; exact ⟨by simp, rfl, .inl rfl, E.e10.noF⟩
        | 11, _, e => cases e; exact ⟨by simp, rfl, .inr (.inl rfl), E.e11.noF⟩
        | 12, _, e => cases e; exact ⟨by simp, rfl, .inr (.inl rfl), E.e12.noF⟩
        | 13, _, e => cases e; exact ⟨by simp, rfl, .inr (.inl rfl), E.e13.noF⟩
        | 14, _, e => cases e; exact ⟨by simp, rfl, .inr (.inl rfl), E.e14.noF⟩
        | 15, _, e => cases e; exact ⟨by simp, rfl, .inr (.inr rfl), E.e15.noF⟩
      obtain ⟨hC, hCi, hf, hno⟩ := hCf
      refine ⟨_, rfl, b, Cx, rfl, List.mem_cons_of_mem _ hC, (Xb.mono s11).inx, fun lk H12 s12 nlk hk => ?_⟩
      refine ⟨16, rfl, by decide, by decide, fun D hD => ?_⟩
      have s13 : Same H6 (upd H12 D (.lst [])) := s11.trans (s12.trans (same_new hD _))
      refine lc_it walk_range (fun n H' => Same H12 H' ∧ H' D = some (.lst ((List.range n).map fun k => V.bl (decide (V.int (k : Nat) = V.int (i : Nat)))))) ⟨same_new hD _, upd_same⟩ (fun _ _ _ _ => trivial) ?_ ?_
      · rintro n x H14 _ hn ⟨s14, hD14⟩ ⟨rfl, rfl⟩
        refine ⟨rfl, tYes_of ?_⟩
        refine ⟨_, rfl, _, rfl, rfl, _, hD14, ?_, fun b o q => ?_, ?_⟩
        · rw [List.length_map, List.length_range, sizeLine_eq]
          exact Nat.lt_trans hn (by decide)
        · rw [upd_ne (ne_of_none q hD)]
          exact s14 b o q
        · rw [upd_same, List.range_succ, List.map_append]
          simp only [Int.zero_add, List.map_cons, List.map_nil]
      rintro H14 ⟨s14, hD14⟩
      have kk := kinds_at nL hCi
      have hD15 : H14 D = some (.lst ((([C0, C1, C2, C3, C4, C5, C6, C7, C8, C9, C10, C11, C12, C13, C14, C15] : List Addr).map fun D => (decide (Cx = D) : Bool)).map V.bl)) := by
        rw [hD14, List.map_map]
        exact congrArg (fun z => some (HO.lst z)) kk.symm
      have hk15 : H14 lk = some (.lst ((([C0, C1, C2, C3, C4, C5, C6, C7, C8, C9, C10, C11, C12, C13, C14, C15] : List Addr).map fun D => (decide (Cx = D) : Bool)).map V.bl)) := by
        rw [List.map_map]
        exact s14 _ _ hk
      have s15 : Same H6 H14 := s11.trans (s12.trans s14)
      refine ⟨_, _, .lst (SqL.of hk15) (dpAll_bl _), .lst (SqL.of hD15) (dpAll_bl _), shaped_bl _, shaped_bl _, _, rfl, ?_⟩
      rw [SeqAt.eqv_refl _ (canLay_bl _)]
      refine iteF ?_
      refine ⟨_, rfl, b, Cx, rfl, List.mem_cons_of_mem _ hC, (Xb.mono s15).inx, fun H16 s16 => ⟨true, rfl, iteF ?_⟩⟩
      have s17 := s15.trans s16
      have dd17 : Dd H16 v d := (dd5.mono news_old).mono (s6.trans s17)
      refine ⟨_, rfl, _, rfl, f1, b, Cx, v, rfl, hf, Xb.mono s17, Kt.xf Cx (List.mem_cons_of_mem _ hC), hno, v, d, rfl, dd17, r1, r2, r3, ?_⟩
      refine ⟨_, rfl, v, d, rfl, dd17, r1, r2, r3, rfl, _, rfl, iteNS rfl ?_⟩
      exact ⟨s10.trans (s12.trans (s14.trans s16)), _, _, _, _, rfl⟩
    · rintro σ H10 ⟨s10, a6', a7', a8', a9', rfl⟩
      exact ⟨s9.trans s10, _, _, _, _, _, _, _, _, rfl⟩
  rintro σ H7 ⟨s7, a2, a3, a4, a5, a6, a7, a8, a9, rfl⟩
  -- row
  have W7 := (W5.same s6).same s7
  have B7 := (B5.same s6).same s7
  refine ⟨_, rfl, p, 9, rfl, W7, by decide, by decide, fun d1 H8 d10 d11 W8 bt8 => ⟨(by rw [sizeLine_eq]; exact (by decide : 1 ≤ 16777216)), fun r0 hr0 => ?_⟩⟩
  have B8 := B7.trans bt8
  have hr00 : H r0 = none := Bs.of_but B8 W8 r0 hr0
  have W8' := W8.new (o := .lst [V.int d1]) hr0
  refine ⟨_, rfl, .ref r0, rfl, fun l2 ys H9 s9 nl2 h9 rows2 => ?_⟩
  have W9 := W8'.same s9
  have B9 : But p H H9 := (B8.new hr0).same s9
  have hr9 : H9 r0 = some (.lst [.int d1]) := s9 _ _ upd_same
  have n1 : l2 ≠ p := fun z => W8'.there (z ▸ nl2)
  have n2 : l2 ≠ r0 := fun z => by
    rw [z, upd_same] at nl2
    cases nl2
  have n3 : r0 ≠ p := (W8.ne hr0).symm
  refine ⟨_, rfl, .inl ⟨rfl, _, SqL.of hr9⟩, _, rfl, p, 9, rfl, W9, by decide, by decide, fun d2 H10 d20 d21 W10 bt10 => ?_⟩
  have hr10 : H10 r0 = some (.lst [.int d1]) := bt10 _ _ n3 hr9
  refine ⟨r0, _, _, rfl, rfl, hr10, (by rw [sizeLine_eq]; exact (by decide : 1 < 16777216)), ?_⟩
  have rows3 : RowsOk (upd H10 r0 (.lst ([.int d1] ++ [.int d2]))) (.ref r0) ys [("given", C0), ("given", C1), ("given", C2), ("given", C3), ("given", C4), ("given", C5), ("given", C6), ("given", C7), ("given", C8), ("given", C9), ("given", C10), ("index", C11), ("index", C12), ("index", C13), ("index", C14), ("spot", C15)] := by
    obtain ⟨a, mm, c, N, e⟩ := W9
    refine (rows2.keep e bt10).keep hr10 fun b o n q => ?_
    rw [upd_ne n]
    exact q
  have h11 : (upd H10 r0 (.lst ([.int d1] ++ [.int d2]))) l2 = some (.lst ys) := by
    rw [upd_ne n2]
    exact bt10 _ _ n1 h9
  have B11 : But p H (upd H10 r0 (.lst ([.int d1] ++ [.int d2]))) := fun c u nc e => by
    rw [upd_ne (ne_of_none e hr00)]
    exact (B9.trans bt10) c u nc e
  have hr11 : (upd H10 r0 (.lst ([.int d1] ++ [.int d2]))) r0 = some (.lst [.int d1, .int d2]) := upd_same
  generalize (upd H10 r0 (.lst ([.int d1] ++ [.int d2]))) = H11 at rows3 h11 B11 hr11 ⊢
  have ly : ys.length = 16 := rows2.length
  refine ⟨_, rfl, l2, rfl, ⟨_, SqL.of h11⟩, ?_⟩
  refine for_it walk_list (fun i σ H' => Same H11 H' ∧ ∃ a2 a3 a4 a5 a6 a9, σ = [some (.ref p), some v, a2, a3, a4, a5, a6, some (.ref r0), some (.ref l2), a9]) ⟨Same.refl _, _, _, _, _, _, _, rfl⟩ (fun i σ H' _ ⟨s12, _⟩ => SqL.of (s12 _ _ h11)) ?_ ?_
  · rintro i x σ H12 H12' hi ⟨s12, a2, a3, a4, a5, a6, a9, rfl⟩ ⟨e12, hx⟩
    subst e12
    obtain ⟨f1, Cx, hR, rr, b1, b2, rfl, hrr, X1, X2⟩ := rows3.get hx
    have hCf : (Cx ∈ ([C0, C1, C2, C3, C4, C5, C6, C7, C8, C9, C10, C11, C12, C13, C14, C15] : List Addr)) ∧ ([C0, C1, C2, C3, C4, C5, C6, C7, C8, C9, C10, C11, C12, C13, C14, C15] : List Addr)[i]? = some Cx ∧ (f1 = "given" ∨ f1 = "index" ∨ f1 = "spot") ∧ PySem.W.findIn K (.ref Cx) f1 = some none := by
      have hi' : i < 16 := by rw [← ly]; exact hi
      clear X1 X2
      match i, hi', hR with
        | 0, _, e => cases e; exact ⟨by simp, rfl, .inl rfl, E.e0.noF⟩
        | 1, _, e => cases e; exact ⟨by simp, rfl, .inl rfl, E.e1.noF⟩
        | 2, _, e => cases e; exact ⟨by simp, rfl, .inl rfl, E.e2.noF⟩
        | 3, _, e => cases e; exact ⟨by simp, rfl, .inl rfl, E.e3.noF⟩
        | 4, _, e => cases e; exact ⟨by simp, rfl, .inl rfl, E.e4.noF⟩
        | 5, _, e => cases e; exact ⟨by simp, rfl, .inl rfl, E.e5.noF⟩
        | 6, _, e => cases e; exact ⟨by simp, rfl, .inl rfl, E.e6.noF⟩
        | 7, _, e => cases e; exact ⟨by simp, rfl, .inl rfl, E.e7.noF⟩
        | 8, _, e => cases e; exact ⟨by simp, rfl, .inl rfl, E.e8.noF⟩
        | 9, _, e => cases e; exact ⟨by simp, rfl, .inl rfl, E.e9.noF⟩
        | 10, _, e => cases e; exact ⟨by simp, rfl, .inl rfl, E.e10.noF⟩
        | 11, _, e => cases e; exact ⟨by simp, rfl, .inr (.inl rfl), E.e11.noF⟩
        | 12, _, e => cases e; exact ⟨by simp, rfl, .inr (.inl rfl), E.e12.noF⟩
        | 13, _, e => cases e; exact ⟨by simp, rfl, .inr (.inl rfl), E.e13.noF⟩
        | 14, _, e => cases e; exact ⟨by simp, rfl, .inr (.inl rfl), E.e14.noF⟩
        | 15, _, e => cases e; exact ⟨by simp, rfl, .inr (.inr rfl), E.e15.noF⟩
    obtain ⟨hC, hCi, hf, hno⟩ := hCf
    have c2 : PyData.canLay0 (.list [.int d1, .int d2]) = true := rfl
    have sh : SeqAt.shaped (.list [.int d1, .int d2]) = true := rfl
    have dp : Dp K H12' (.ref r0) (.list [.int d1, .int d2]) := .lst (SqL.of (s12 _ _ hr11)) (.cons (.int d1) (.cons (.int d2) .nil))
    refine ⟨rr, _, rfl, SqL.of (s12 _ _ hrr), rfl, _, _, rfl, _, _, rfl, _, _, rfl, rfl, ?_⟩
    refine ⟨_, rfl, _, rfl, f1, b1, Cx, .ref r0, rfl, hf, X1.mono s12, Kt.xf Cx (List.mem_cons_of_mem _ hC), hno, _, rfl, _, _, dp, dp, sh, sh, _, rfl, ?_⟩
    rw [SeqAt.eqv_refl _ c2]
    refine iteF ?_
    refine ⟨_, rfl, _, rfl, f1, b2, Cx, .ref r0, rfl, hf, X2.mono s12, Kt.xf Cx (List.mem_cons_of_mem _ hC), hno, _, rfl, _, _, dp, dp, sh, sh, _, rfl, ?_⟩
    rw [SeqAt.eqv_refl _ c2]
    refine iteF ?_
    exact ⟨s12, _, _, _, _, _, _, rfl⟩
  rintro σ H12 ⟨s12, a2, a3, a4, a5, a6, a9, rfl⟩
  -- caught
  refine ⟨4, rfl, by decide, by decide, fun D hD => ?_⟩
  have B12 := B11.same s12
  refine lc_it walk_range (fun n H' => Same H12 H' ∧ H' D = some (.lst (List.replicate n (.bl true)))) ⟨same_new hD _, upd_same⟩ (fun _ _ _ _ => trivial) ?_ ?_
  · rintro n x H14 _ hn ⟨s14, hD14⟩ ⟨rfl, rfl⟩
    refine ⟨rfl, tYes_of ?_⟩
    refine ⟨_, rfl, _, rfl, n, v, ?_, hn, fun H15 s15 => ?_⟩
    · simp only [Int.zero_add]
      rfl
    refine ⟨true, true, rfl, rfl, _, s15 _ _ hD14, ?_, fun b o q => ?_, ?_⟩
    · rw [List.length_replicate, sizeLine_eq]
      exact Nat.lt_trans hn (by decide)
    · rw [upd_ne (ne_of_none q hD)]
      exact s15 _ _ (s14 b o q)
    · rw [upd_same]
      exact congrArg (fun z => some (HO.lst z)) (List.replicate_succ' ..).symm
  rintro H14 ⟨s14, hD14⟩
  exact ⟨D, [true, true, true, true], rfl, SqL.of hD14, k _ (B12.same s14)⟩
end

section
variable {P : Program} {w : World} {K : PySem.W.Frag} {mg : Str → Option Value} {base : Heap}
theorem sc_law : FnScope ["script", "lap"] ["script"] (defScope s_law) := ⟨rfl, rfl, rfl, by decide +kernel, rfl, by decide +kernel, by decide +kernel⟩
theorem ok_law {f : Addr} {fd : FuncData} (F : Fun K "law" "law" s_law f fd) (B : Bi mg) (GW : Gd P w K mg base CX0 1 "_law_well" ["script", "lap"] (spWell K)) (GR : Gd P w K mg base CX0 6 "_law_right" ["well"] spRight) :
    Fn P w K mg base CX0 7 f fd ["script"] (spLaw K) := by
  refine fun_q F sc_law (fun vs H Q E h => ?_) (fun cdv A outer s H vs Q E hr6 hq h => ?_)
  · obtain ⟨a, ns, rfl, _⟩ := h
    rfl
  obtain ⟨a, ns, rfl, hS, h63, k⟩ := h
  have hr1 : Room 1 _ := hr6.mono (by decide)
  refine ⟨_, (pss_one (ps_ret (pe_callB (cr_all rfl) (by rfl) B.all boot_all2 (pa_cons (pe_lc (own := [("lap", 1)]) (g := gName 1) (tt := tYes) rfl sc_law.nd (pi_range1 (by rfl) B.range (pa_cons (pe_callB (call_max2 rfl) (by rfl) B.max PyProof.Rows.boot_max (pa_cons pe_int (pa_cons (pe_callB (call_min2 rfl) (by rfl) B.min PyProof.Rows.boot_min (pa_cons (pe_callB call_len_seq (by rfl) B.len PySem.boot_len (pa_cons (pv 0) pa_nil)) (pa_cons pe_int pa_nil))) pa_nil))) pa_nil)) (blkOk_by (own := [("lap", 1)]) (N := ["script", "lap"]) (sc := defScope s_law) (by decide +kernel)) (fun _ _ _ _ _ => pg_name (i := 1) sc_law.nd rfl (Or.inl rfl)) (fun _ _ _ _ _ => pts_nil) (fun _ _ _ _ _ => (pe_g GR hr6 hq (pa_cons (pe_g GW hr1 hq (pa_cons (pv 0) (pa_cons (pv 1) pa_nil))) pa_nil)))) pa_nil)))), ?_⟩
  refine ⟨_, rfl, a, _, rfl, .inl hS, _, _, rfl, _, _, rfl, ?_⟩
  rw [List.length_map]
  refine ⟨_, rfl, ?_, ?_, fun D hD => ?_⟩
  · split <;> (try split) <;> omega
  · split <;> (try split) <;> omega
  obtain ⟨top, et, t3⟩ : ∃ top : Int, (if (if (3 : Int) < (ns.length : Int) then (3 : Int) else (ns.length : Int)) > 2 then (if (3 : Int) < (ns.length : Int) then (3 : Int) else (ns.length : Int)) else 2) = top ∧ top ≤ 3 := ⟨_, rfl, by split <;> (try split) <;> omega⟩
  rw [et]
  clear et
  refine lc_it walk_range (fun n H' => Same H H' ∧ H' D = some (.lst (List.replicate n (.bl true)))) ⟨same_new hD _, upd_same⟩ (fun _ _ _ _ => trivial) ?_ ?_
  · rintro n x H1 H1' hn ⟨s1, hD1⟩ ⟨e1, e2⟩
    subst e1 e2
    refine ⟨rfl, tYes_of ?_⟩
    refine ⟨_, rfl, _, rfl, a, ns, _, rfl, s1.seq hS, by omega, fun p H2 np s2 W2 => ?_⟩
    refine ⟨p, rfl, W2, fun H3 bt3 => ?_⟩
    have pD : D ≠ p := ne_of_none hD1 np
    have ph : ∀ b o, H b = some o → b ≠ p := fun b o e => ne_of_none (s1 _ _ e) np
    refine ⟨_, bt3 _ _ pD (s2 _ _ hD1), ?_, fun b o q => ?_, ?_⟩
    · rw [List.length_replicate, sizeLine_eq]
      omega
    · rw [upd_ne (ne_of_none q hD)]
      exact bt3 _ _ (ph b o q) (s2 _ _ (s1 b o q))
    · rw [upd_same]
      exact congrArg (fun z => some (HO.lst z)) (List.replicate_succ' ..).symm
  rintro H1 ⟨s1, hD1⟩
  refine ⟨D, List.replicate top.toNat true, rfl, SqL.of ?_, ?_⟩
  · rw [hD1, List.map_replicate]
  · have e : (List.replicate top.toNat true).all id = true := by simp
    rw [e]
    exact k _
end

theorem all_mk {P : Program} {w : World} {K : PySem.W.Frag} {h : Heap} {mg : Str → Option Value} {fa fW fD fO fI fM fK fT fP fC fR fL CB C0 C1 C2 C3 C4 C5 C6 C7 C8 C9 C10 C11 C12 C13 C14 C15 I0 I1 I2 I3 I4 I5 I6 I7 I8 I9 I10 I11 I12 I13 I14 I15 : Addr} {ocW kVW dcW pmW cdW ctW ocD kVD dcD pmD cdD ctD ocO kVO dcO pmO cdO ctO ocI kVI dcI pmI cdI ctI ocM kVM dcM pmM cdM ctM ocK kVK dcK pmK cdK ctK ocT kVT dcT pmT cdT ctT ocP kVP dcP pmP cdP ctP ocC kVC dcC pmC cdC ctC ocR kVR dcR pmR cdR ctR ocL kVL dcL pmL cdL ctL ioc0 ikV0 idc0 ipm0 icd0 ict0 ioc1 ikV1 idc1 ipm1 icd1 ict1 ioc2 ikV2 idc2 ipm2 icd2 ict2 ioc3 ikV3 idc3 ipm3 icd3 ict3 ioc4 ikV4 idc4 ipm4 icd4 ict4 ioc5 ikV5 idc5 ipm5 icd5 ict5 ioc6 ikV6 idc6 ipm6 icd6 ict6 ioc7 ikV7 idc7 ipm7 icd7 ict7 ioc8 ikV8 idc8 ipm8 icd8 ict8 ioc9 ikV9 idc9 ipm9 icd9 ict9 ioc10 ikV10 idc10 ipm10 icd10 ict10 ioc11 ikV11 idc11 ipm11 icd11 ict11 ioc12 ikV12 idc12 ipm12 icd12 ict12 ioc13 ikV13 idc13 ipm13 icd13 ict13 ioc14 ikV14 idc14 ipm14 icd14 ict14 ioc15 ikV15 idc15 ipm15 icd15 ict15 : Value} {odW anW odD anD odO anO odI anI odM anM odK anK odT anT odP anP odC anC odR anR odL anL iod0 ian0 cd0 iod1 ian1 cd1 iod2 ian2 cd2 iod3 ian3 cd3 iod4 ian4 cd4 iod5 ian5 cd5 iod6 ian6 cd6 iod7 ian7 cd7 iod8 ian8 cd8 iod9 ian9 cd9 iod10 ian10 cd10 iod11 ian11 cd11 iod12 ian12 cd12 iod13 ian13 cd13 iod14 ian14 cd14 iod15 ian15 cd15 : Option Addr} {slW slD slO slI slM slK slT slP slC slR slL isl0 isl1 isl2 isl3 isl4 isl5 isl6 isl7 isl8 isl9 isl10 isl11 isl12 isl13 isl14 isl15 : Array (Option Value)} {cn0 cq0 cn1 cq1 cn2 cq2 cn3 cq3 cn4 cq4 cn5 cq5 cn6 cq6 cn7 cq7 cn8 cq8 cn9 cq9 cn10 cq10 cn11 cq11 cn12 cq12 cn13 cq13 cn14 cq14 cn15 cq15 : Str} {cN0 cN1 cN2 cN3 cN4 cN5 cN6 cN7 cN8 cN9 cN10 cN11 cN12 cN13 cN14 cN15 : Addr} {cb0 cu0 cb1 cu1 cb2 cu2 cb3 cu3 cb4 cu4 cb5 cu5 cb6 cu6 cb7 cu7 cb8 cu8 cb9 cu9 cb10 cu10 cb11 cu11 cb12 cu12 cb13 cu13 cb14 cu14 cb15 cu15 : List Value} {cs0 cs1 cs2 cs3 cs4 cs5 cs6 cs7 cs8 cs9 cs10 cs11 cs12 cs13 cs14 cs15 : List Str} {cv0 cv1 cv2 cv3 cv4 cv5 cv6 cv7 cv8 cv9 cv10 cv11 cv12 cv13 cv14 cv15 : Bool} {cw0 cw1 cw2 cw3 cw4 cw5 cw6 cw7 cw8 cw9 cw10 cw11 cw12 cw13 cw14 cw15 : Option Bool} {x00 x10 x20 x30 x50 x01 x11 x21 x31 x51 x02 x12 x22 x32 x52 x03 x13 x23 x33 x53 x04 x14 x24 x34 x54 x05 x15 x25 x35 x55 x06 x16 x26 x36 x56 x07 x17 x27 x37 x57 x08 x18 x28 x38 x58 x09 x19 x29 x39 x59 x010 x110 x210 x310 x510 x011 x111 x211 x311 x511 x012 x112 x212 x312 x512 x013 x113 x213 x313 x513 x014 x114 x214 x314 x514 x015 x115 x215 x315 x515 : Option Value}
    (X : K.In h) (G : h.Ns mainGlobals mg) (hfa : mg "law" = some (.ref fa))
    (aW : PySem.W.nsIn K mainGlobals "_law_well" = some (some (.ref fW)))
    (lW : K.lookup fW = some ⟨ocW, odW, .func (PySem.W.fnOf "_law_well" "_law_well" (defArgs s_well) (defBody s_well) (defScope s_well) .none kVW dcW pmW anW cdW ctW), slW⟩)
    (cW : PySem.W.codeIn K cdW "_law_well" = true) (kW : PySem.W.keepIn K (.ref fW) = true)
    (aD : PySem.W.nsIn K mainGlobals "_law_draw" = some (some (.ref fD)))
    (lD : K.lookup fD = some ⟨ocD, odD, .func (PySem.W.fnOf "_law_draw" "_law_draw" (defArgs s_draw) (defBody s_draw) (defScope s_draw) .none kVD dcD pmD anD cdD ctD), slD⟩)
    (cD : PySem.W.codeIn K cdD "_law_draw" = true) (kD : PySem.W.keepIn K (.ref fD) = true)
    (aO : PySem.W.nsIn K mainGlobals "_law_one" = some (some (.ref fO)))
    (lO : K.lookup fO = some ⟨ocO, odO, .func (PySem.W.fnOf "_law_one" "_law_one" (defArgs s_one) (defBody s_one) (defScope s_one) .none kVO dcO pmO anO cdO ctO), slO⟩)
    (cO : PySem.W.codeIn K cdO "_law_one" = true) (kO : PySem.W.keepIn K (.ref fO) = true)
    (aI : PySem.W.nsIn K mainGlobals "_law_odd_thing" = some (some (.ref fI)))
    (lI : K.lookup fI = some ⟨ocI, odI, .func (PySem.W.fnOf "_law_odd_thing" "_law_odd_thing" (defArgs s_odd) (defBody s_odd) (defScope s_odd) .none kVI dcI pmI anI cdI ctI), slI⟩)
    (cI : PySem.W.codeIn K cdI "_law_odd_thing" = true) (kI : PySem.W.keepIn K (.ref fI) = true)
    (aM : PySem.W.nsIn K mainGlobals "_law_made" = some (some (.ref fM)))
    (lM : K.lookup fM = some ⟨ocM, odM, .func (PySem.W.fnOf "_law_made" "_law_made" (defArgs s_made) (defBody s_made) (defScope s_made) .none kVM dcM pmM anM cdM ctM), slM⟩)
    (cM : PySem.W.codeIn K cdM "_law_made" = true) (kM : PySem.W.keepIn K (.ref fM) = true)
    (aK : PySem.W.nsIn K mainGlobals "_law_kinds_of" = some (some (.ref fK)))
    (lK : K.lookup fK = some ⟨ocK, odK, .func (PySem.W.fnOf "_law_kinds_of" "_law_kinds_of" (defArgs s_kinds) (defBody s_kinds) (defScope s_kinds) .none kVK dcK pmK anK cdK ctK), slK⟩)
    (cK : PySem.W.codeIn K cdK "_law_kinds_of" = true) (kK : PySem.W.keepIn K (.ref fK) = true)
    (aT : PySem.W.nsIn K mainGlobals "_law_kept" = some (some (.ref fT)))
    (lT : K.lookup fT = some ⟨ocT, odT, .func (PySem.W.fnOf "_law_kept" "_law_kept" (defArgs s_kept) (defBody s_kept) (defScope s_kept) .none kVT dcT pmT anT cdT ctT), slT⟩)
    (cT : PySem.W.codeIn K cdT "_law_kept" = true) (kT : PySem.W.keepIn K (.ref fT) = true)
    (aP : PySem.W.nsIn K mainGlobals "_law_is_plain" = some (some (.ref fP)))
    (lP : K.lookup fP = some ⟨ocP, odP, .func (PySem.W.fnOf "_law_is_plain" "_law_is_plain" (defArgs s_plain) (defBody s_plain) (defScope s_plain) .none kVP dcP pmP anP cdP ctP), slP⟩)
    (cP : PySem.W.codeIn K cdP "_law_is_plain" = true) (kP : PySem.W.keepIn K (.ref fP) = true)
    (aC : PySem.W.nsIn K mainGlobals "_law_is_caught" = some (some (.ref fC)))
    (lC : K.lookup fC = some ⟨ocC, odC, .func (PySem.W.fnOf "_law_is_caught" "_law_is_caught" (defArgs s_caught) (defBody s_caught) (defScope s_caught) .none kVC dcC pmC anC cdC ctC), slC⟩)
    (cC : PySem.W.codeIn K cdC "_law_is_caught" = true) (kC : PySem.W.keepIn K (.ref fC) = true)
    (aR : PySem.W.nsIn K mainGlobals "_law_right" = some (some (.ref fR)))
    (lR : K.lookup fR = some ⟨ocR, odR, .func (PySem.W.fnOf "_law_right" "_law_right" (defArgs s_right) (defBody s_right) (defScope s_right) .none kVR dcR pmR anR cdR ctR), slR⟩)
    (cR : PySem.W.codeIn K cdR "_law_right" = true) (kR : PySem.W.keepIn K (.ref fR) = true)
    (aL : PySem.W.nsIn K mainGlobals "law" = some (some (.ref fL)))
    (lL : K.lookup fL = some ⟨ocL, odL, .func (PySem.W.fnOf "law" "law" (defArgs s_law) (defBody s_law) (defScope s_law) .none kVL dcL pmL anL cdL ctL), slL⟩)
    (cL : PySem.W.codeIn K cdL "law" = true) (kL : PySem.W.keepIn K (.ref fL) = true)
    (ca0 : PySem.W.nsIn K mainGlobals "InvalidSignature" = some (some (.ref C0)))
    (cx0 : K.lookup C0 = some (excClassObj cn0 cq0 C0 cN0 cb0 [.ref CB, .type "ValueError", .type "Exception", .type "BaseException", .type "object"] true cs0 cu0 cv0 cw0 cd0 x00 x10 x20 x30 x50 "ValueError.__new__"))
    (cf0 : PySem.W.findIn K (.ref C0) "__setattr__" = some (some (.builtin "object.__setattr__"))) (cg0 : PySem.W.findIn K (.ref C0) "given" = some none) (ci0 : PySem.W.findIn K (.ref C0) "__init__" = some (some (.ref I0))) (ct0 : PySem.W.typeIn K (.ref I0) = some (.type "function"))
    (cl0 : K.lookup I0 = some ⟨ioc0, iod0, .func (PySem.W.fnOf "__init__" "InvalidSignature.__init__" (defArgs (inClass (top 2) 0)) (defBody (inClass (top 2) 0)) (defScope (inClass (top 2) 0)) .none ikV0 idc0 ipm0 ian0 icd0 ict0), isl0⟩)
    (cc0 : PySem.W.codeIn K icd0 "InvalidSignature.__init__" = true) (cm0 : PySem.W.keepIn K (.ref I0) = true) (ck0 : PySem.W.keepIn K (.ref C0) = true) (ce0 : PySem.W.subIn K (.ref C0) (.type "BaseException") = some true) (cy0 : PySem.W.typeIn K (.ref C0) = some (.type "type"))
    (ca1 : PySem.W.nsIn K mainGlobals "InvalidKind" = some (some (.ref C1)))
    (cx1 : K.lookup C1 = some (excClassObj cn1 cq1 C1 cN1 cb1 [.ref CB, .type "ValueError", .type "Exception", .type "BaseException", .type "object"] true cs1 cu1 cv1 cw1 cd1 x01 x11 x21 x31 x51 "ValueError.__new__"))
    (cf1 : PySem.W.findIn K (.ref C1) "__setattr__" = some (some (.builtin "object.__setattr__"))) (cg1 : PySem.W.findIn K (.ref C1) "given" = some none) (ci1 : PySem.W.findIn K (.ref C1) "__init__" = some (some (.ref I1))) (ct1 : PySem.W.typeIn K (.ref I1) = some (.type "function"))
    (cl1 : K.lookup I1 = some ⟨ioc1, iod1, .func (PySem.W.fnOf "__init__" "InvalidKind.__init__" (defArgs (inClass (top 3) 0)) (defBody (inClass (top 3) 0)) (defScope (inClass (top 3) 0)) .none ikV1 idc1 ipm1 ian1 icd1 ict1), isl1⟩)
    (cc1 : PySem.W.codeIn K icd1 "InvalidKind.__init__" = true) (cm1 : PySem.W.keepIn K (.ref I1) = true) (ck1 : PySem.W.keepIn K (.ref C1) = true) (ce1 : PySem.W.subIn K (.ref C1) (.type "BaseException") = some true) (cy1 : PySem.W.typeIn K (.ref C1) = some (.type "type"))
    (ca2 : PySem.W.nsIn K mainGlobals "InvalidPatterns" = some (some (.ref C2)))
    (cx2 : K.lookup C2 = some (excClassObj cn2 cq2 C2 cN2 cb2 [.ref CB, .type "ValueError", .type "Exception", .type "BaseException", .type "object"] true cs2 cu2 cv2 cw2 cd2 x02 x12 x22 x32 x52 "ValueError.__new__"))
    (cf2 : PySem.W.findIn K (.ref C2) "__setattr__" = some (some (.builtin "object.__setattr__"))) (cg2 : PySem.W.findIn K (.ref C2) "given" = some none) (ci2 : PySem.W.findIn K (.ref C2) "__init__" = some (some (.ref I2))) (ct2 : PySem.W.typeIn K (.ref I2) = some (.type "function"))
    (cl2 : K.lookup I2 = some ⟨ioc2, iod2, .func (PySem.W.fnOf "__init__" "InvalidPatterns.__init__" (defArgs (inClass (top 4) 0)) (defBody (inClass (top 4) 0)) (defScope (inClass (top 4) 0)) .none ikV2 idc2 ipm2 ian2 icd2 ict2), isl2⟩)
    (cc2 : PySem.W.codeIn K icd2 "InvalidPatterns.__init__" = true) (cm2 : PySem.W.keepIn K (.ref I2) = true) (ck2 : PySem.W.keepIn K (.ref C2) = true) (ce2 : PySem.W.subIn K (.ref C2) (.type "BaseException") = some true) (cy2 : PySem.W.typeIn K (.ref C2) = some (.type "type"))
    (ca3 : PySem.W.nsIn K mainGlobals "InvalidNumber" = some (some (.ref C3)))
    (cx3 : K.lookup C3 = some (excClassObj cn3 cq3 C3 cN3 cb3 [.ref CB, .type "ValueError", .type "Exception", .type "BaseException", .type "object"] true cs3 cu3 cv3 cw3 cd3 x03 x13 x23 x33 x53 "ValueError.__new__"))
    (cf3 : PySem.W.findIn K (.ref C3) "__setattr__" = some (some (.builtin "object.__setattr__"))) (cg3 : PySem.W.findIn K (.ref C3) "given" = some none) (ci3 : PySem.W.findIn K (.ref C3) "__init__" = some (some (.ref I3))) (ct3 : PySem.W.typeIn K (.ref I3) = some (.type "function"))
    (cl3 : K.lookup I3 = some ⟨ioc3, iod3, .func (PySem.W.fnOf "__init__" "InvalidNumber.__init__" (defArgs (inClass (top 5) 0)) (defBody (inClass (top 5) 0)) (defScope (inClass (top 5) 0)) .none ikV3 idc3 ipm3 ian3 icd3 ict3), isl3⟩)
    (cc3 : PySem.W.codeIn K icd3 "InvalidNumber.__init__" = true) (cm3 : PySem.W.keepIn K (.ref I3) = true) (ck3 : PySem.W.keepIn K (.ref C3) = true) (ce3 : PySem.W.subIn K (.ref C3) (.type "BaseException") = some true) (cy3 : PySem.W.typeIn K (.ref C3) = some (.type "type"))
    (ca4 : PySem.W.nsIn K mainGlobals "InvalidTable" = some (some (.ref C4)))
    (cx4 : K.lookup C4 = some (excClassObj cn4 cq4 C4 cN4 cb4 [.ref CB, .type "ValueError", .type "Exception", .type "BaseException", .type "object"] true cs4 cu4 cv4 cw4 cd4 x04 x14 x24 x34 x54 "ValueError.__new__"))
    (cf4 : PySem.W.findIn K (.ref C4) "__setattr__" = some (some (.builtin "object.__setattr__"))) (cg4 : PySem.W.findIn K (.ref C4) "given" = some none) (ci4 : PySem.W.findIn K (.ref C4) "__init__" = some (some (.ref I4))) (ct4 : PySem.W.typeIn K (.ref I4) = some (.type "function"))
    (cl4 : K.lookup I4 = some ⟨ioc4, iod4, .func (PySem.W.fnOf "__init__" "InvalidTable.__init__" (defArgs (inClass (top 6) 0)) (defBody (inClass (top 6) 0)) (defScope (inClass (top 6) 0)) .none ikV4 idc4 ipm4 ian4 icd4 ict4), isl4⟩)
    (cc4 : PySem.W.codeIn K icd4 "InvalidTable.__init__" = true) (cm4 : PySem.W.keepIn K (.ref I4) = true) (ck4 : PySem.W.keepIn K (.ref C4) = true) (ce4 : PySem.W.subIn K (.ref C4) (.type "BaseException") = some true) (cy4 : PySem.W.typeIn K (.ref C4) = some (.type "type"))
    (ca5 : PySem.W.nsIn K mainGlobals "InvalidName" = some (some (.ref C5)))
    (cx5 : K.lookup C5 = some (excClassObj cn5 cq5 C5 cN5 cb5 [.ref CB, .type "ValueError", .type "Exception", .type "BaseException", .type "object"] true cs5 cu5 cv5 cw5 cd5 x05 x15 x25 x35 x55 "ValueError.__new__"))
    (cf5 : PySem.W.findIn K (.ref C5) "__setattr__" = some (some (.builtin "object.__setattr__"))) (cg5 : PySem.W.findIn K (.ref C5) "given" = some none) (ci5 : PySem.W.findIn K (.ref C5) "__init__" = some (some (.ref I5))) (ct5 : PySem.W.typeIn K (.ref I5) = some (.type "function"))
    (cl5 : K.lookup I5 = some ⟨ioc5, iod5, .func (PySem.W.fnOf "__init__" "InvalidName.__init__" (defArgs (inClass (top 7) 0)) (defBody (inClass (top 7) 0)) (defScope (inClass (top 7) 0)) .none ikV5 idc5 ipm5 ian5 icd5 ict5), isl5⟩)
    (cc5 : PySem.W.codeIn K icd5 "InvalidName.__init__" = true) (cm5 : PySem.W.keepIn K (.ref I5) = true) (ck5 : PySem.W.keepIn K (.ref C5) = true) (ce5 : PySem.W.subIn K (.ref C5) (.type "BaseException") = some true) (cy5 : PySem.W.typeIn K (.ref C5) = some (.type "type"))
    (ca6 : PySem.W.nsIn K mainGlobals "InvalidUse" = some (some (.ref C6)))
    (cx6 : K.lookup C6 = some (excClassObj cn6 cq6 C6 cN6 cb6 [.ref CB, .type "ValueError", .type "Exception", .type "BaseException", .type "object"] true cs6 cu6 cv6 cw6 cd6 x06 x16 x26 x36 x56 "ValueError.__new__"))
    (cf6 : PySem.W.findIn K (.ref C6) "__setattr__" = some (some (.builtin "object.__setattr__"))) (cg6 : PySem.W.findIn K (.ref C6) "given" = some none) (ci6 : PySem.W.findIn K (.ref C6) "__init__" = some (some (.ref I6))) (ct6 : PySem.W.typeIn K (.ref I6) = some (.type "function"))
    (cl6 : K.lookup I6 = some ⟨ioc6, iod6, .func (PySem.W.fnOf "__init__" "InvalidUse.__init__" (defArgs (inClass (top 8) 0)) (defBody (inClass (top 8) 0)) (defScope (inClass (top 8) 0)) .none ikV6 idc6 ipm6 ian6 icd6 ict6), isl6⟩)
    (cc6 : PySem.W.codeIn K icd6 "InvalidUse.__init__" = true) (cm6 : PySem.W.keepIn K (.ref I6) = true) (ck6 : PySem.W.keepIn K (.ref C6) = true) (ce6 : PySem.W.subIn K (.ref C6) (.type "BaseException") = some true) (cy6 : PySem.W.typeIn K (.ref C6) = some (.type "type"))
    (ca7 : PySem.W.nsIn K mainGlobals "InvalidProgram" = some (some (.ref C7)))
    (cx7 : K.lookup C7 = some (excClassObj cn7 cq7 C7 cN7 cb7 [.ref CB, .type "ValueError", .type "Exception", .type "BaseException", .type "object"] true cs7 cu7 cv7 cw7 cd7 x07 x17 x27 x37 x57 "ValueError.__new__"))
    (cf7 : PySem.W.findIn K (.ref C7) "__setattr__" = some (some (.builtin "object.__setattr__"))) (cg7 : PySem.W.findIn K (.ref C7) "given" = some none) (ci7 : PySem.W.findIn K (.ref C7) "__init__" = some (some (.ref I7))) (ct7 : PySem.W.typeIn K (.ref I7) = some (.type "function"))
    (cl7 : K.lookup I7 = some ⟨ioc7, iod7, .func (PySem.W.fnOf "__init__" "InvalidProgram.__init__" (defArgs (inClass (top 9) 0)) (defBody (inClass (top 9) 0)) (defScope (inClass (top 9) 0)) .none ikV7 idc7 ipm7 ian7 icd7 ict7), isl7⟩)
    (cc7 : PySem.W.codeIn K icd7 "InvalidProgram.__init__" = true) (cm7 : PySem.W.keepIn K (.ref I7) = true) (ck7 : PySem.W.keepIn K (.ref C7) = true) (ce7 : PySem.W.subIn K (.ref C7) (.type "BaseException") = some true) (cy7 : PySem.W.typeIn K (.ref C7) = some (.type "type"))
    (ca8 : PySem.W.nsIn K mainGlobals "Unformed" = some (some (.ref C8)))
    (cx8 : K.lookup C8 = some (excClassObj cn8 cq8 C8 cN8 cb8 [.ref CB, .type "ValueError", .type "Exception", .type "BaseException", .type "object"] true cs8 cu8 cv8 cw8 cd8 x08 x18 x28 x38 x58 "ValueError.__new__"))
    (cf8 : PySem.W.findIn K (.ref C8) "__setattr__" = some (some (.builtin "object.__setattr__"))) (cg8 : PySem.W.findIn K (.ref C8) "given" = some none) (ci8 : PySem.W.findIn K (.ref C8) "__init__" = some (some (.ref I8))) (ct8 : PySem.W.typeIn K (.ref I8) = some (.type "function"))
    (cl8 : K.lookup I8 = some ⟨ioc8, iod8, .func (PySem.W.fnOf "__init__" "Unformed.__init__" (defArgs (inClass (top 10) 0)) (defBody (inClass (top 10) 0)) (defScope (inClass (top 10) 0)) .none ikV8 idc8 ipm8 ian8 icd8 ict8), isl8⟩)
    (cc8 : PySem.W.codeIn K icd8 "Unformed.__init__" = true) (cm8 : PySem.W.keepIn K (.ref I8) = true) (ck8 : PySem.W.keepIn K (.ref C8) = true) (ce8 : PySem.W.subIn K (.ref C8) (.type "BaseException") = some true) (cy8 : PySem.W.typeIn K (.ref C8) = some (.type "type"))
    (ca9 : PySem.W.nsIn K mainGlobals "Unsound" = some (some (.ref C9)))
    (cx9 : K.lookup C9 = some (excClassObj cn9 cq9 C9 cN9 cb9 [.ref CB, .type "ValueError", .type "Exception", .type "BaseException", .type "object"] true cs9 cu9 cv9 cw9 cd9 x09 x19 x29 x39 x59 "ValueError.__new__"))
    (cf9 : PySem.W.findIn K (.ref C9) "__setattr__" = some (some (.builtin "object.__setattr__"))) (cg9 : PySem.W.findIn K (.ref C9) "given" = some none) (ci9 : PySem.W.findIn K (.ref C9) "__init__" = some (some (.ref I9))) (ct9 : PySem.W.typeIn K (.ref I9) = some (.type "function"))
    (cl9 : K.lookup I9 = some ⟨ioc9, iod9, .func (PySem.W.fnOf "__init__" "Unsound.__init__" (defArgs (inClass (top 11) 0)) (defBody (inClass (top 11) 0)) (defScope (inClass (top 11) 0)) .none ikV9 idc9 ipm9 ian9 icd9 ict9), isl9⟩)
    (cc9 : PySem.W.codeIn K icd9 "Unsound.__init__" = true) (cm9 : PySem.W.keepIn K (.ref I9) = true) (ck9 : PySem.W.keepIn K (.ref C9) = true) (ce9 : PySem.W.subIn K (.ref C9) (.type "BaseException") = some true) (cy9 : PySem.W.typeIn K (.ref C9) = some (.type "type"))
    (ca10 : PySem.W.nsIn K mainGlobals "NoValue" = some (some (.ref C10)))
    (cx10 : K.lookup C10 = some (excClassObj cn10 cq10 C10 cN10 cb10 [.ref CB, .type "ValueError", .type "Exception", .type "BaseException", .type "object"] true cs10 cu10 cv10 cw10 cd10 x010 x110 x210 x310 x510 "ValueError.__new__"))
    (cf10 : PySem.W.findIn K (.ref C10) "__setattr__" = some (some (.builtin "object.__setattr__"))) (cg10 : PySem.W.findIn K (.ref C10) "given" = some none) (ci10 : PySem.W.findIn K (.ref C10) "__init__" = some (some (.ref I10))) (ct10 : PySem.W.typeIn K (.ref I10) = some (.type "function"))
    (cl10 : K.lookup I10 = some ⟨ioc10, iod10, .func (PySem.W.fnOf "__init__" "NoValue.__init__" (defArgs (inClass (top 12) 0)) (defBody (inClass (top 12) 0)) (defScope (inClass (top 12) 0)) .none ikV10 idc10 ipm10 ian10 icd10 ict10), isl10⟩)
    (cc10 : PySem.W.codeIn K icd10 "NoValue.__init__" = true) (cm10 : PySem.W.keepIn K (.ref I10) = true) (ck10 : PySem.W.keepIn K (.ref C10) = true) (ce10 : PySem.W.subIn K (.ref C10) (.type "BaseException") = some true) (cy10 : PySem.W.typeIn K (.ref C10) = some (.type "type"))
    (ca11 : PySem.W.nsIn K mainGlobals "InvalidTerms" = some (some (.ref C11)))
    (cx11 : K.lookup C11 = some (excClassObj cn11 cq11 C11 cN11 cb11 [.ref CB, .type "ValueError", .type "Exception", .type "BaseException", .type "object"] true cs11 cu11 cv11 cw11 cd11 x011 x111 x211 x311 x511 "ValueError.__new__"))
    (cf11 : PySem.W.findIn K (.ref C11) "__setattr__" = some (some (.builtin "object.__setattr__"))) (cg11 : PySem.W.findIn K (.ref C11) "index" = some none) (ci11 : PySem.W.findIn K (.ref C11) "__init__" = some (some (.ref I11))) (ct11 : PySem.W.typeIn K (.ref I11) = some (.type "function"))
    (cl11 : K.lookup I11 = some ⟨ioc11, iod11, .func (PySem.W.fnOf "__init__" "InvalidTerms.__init__" (defArgs (inClass (top 13) 0)) (defBody (inClass (top 13) 0)) (defScope (inClass (top 13) 0)) .none ikV11 idc11 ipm11 ian11 icd11 ict11), isl11⟩)
    (cc11 : PySem.W.codeIn K icd11 "InvalidTerms.__init__" = true) (cm11 : PySem.W.keepIn K (.ref I11) = true) (ck11 : PySem.W.keepIn K (.ref C11) = true) (ce11 : PySem.W.subIn K (.ref C11) (.type "BaseException") = some true) (cy11 : PySem.W.typeIn K (.ref C11) = some (.type "type"))
    (ca12 : PySem.W.nsIn K mainGlobals "InvalidRows" = some (some (.ref C12)))
    (cx12 : K.lookup C12 = some (excClassObj cn12 cq12 C12 cN12 cb12 [.ref CB, .type "ValueError", .type "Exception", .type "BaseException", .type "object"] true cs12 cu12 cv12 cw12 cd12 x012 x112 x212 x312 x512 "ValueError.__new__"))
    (cf12 : PySem.W.findIn K (.ref C12) "__setattr__" = some (some (.builtin "object.__setattr__"))) (cg12 : PySem.W.findIn K (.ref C12) "index" = some none) (ci12 : PySem.W.findIn K (.ref C12) "__init__" = some (some (.ref I12))) (ct12 : PySem.W.typeIn K (.ref I12) = some (.type "function"))
    (cl12 : K.lookup I12 = some ⟨ioc12, iod12, .func (PySem.W.fnOf "__init__" "InvalidRows.__init__" (defArgs (inClass (top 14) 0)) (defBody (inClass (top 14) 0)) (defScope (inClass (top 14) 0)) .none ikV12 idc12 ipm12 ian12 icd12 ict12), isl12⟩)
    (cc12 : PySem.W.codeIn K icd12 "InvalidRows.__init__" = true) (cm12 : PySem.W.keepIn K (.ref I12) = true) (ck12 : PySem.W.keepIn K (.ref C12) = true) (ce12 : PySem.W.subIn K (.ref C12) (.type "BaseException") = some true) (cy12 : PySem.W.typeIn K (.ref C12) = some (.type "type"))
    (ca13 : PySem.W.nsIn K mainGlobals "InvalidText" = some (some (.ref C13)))
    (cx13 : K.lookup C13 = some (excClassObj cn13 cq13 C13 cN13 cb13 [.ref CB, .type "ValueError", .type "Exception", .type "BaseException", .type "object"] true cs13 cu13 cv13 cw13 cd13 x013 x113 x213 x313 x513 "ValueError.__new__"))
    (cf13 : PySem.W.findIn K (.ref C13) "__setattr__" = some (some (.builtin "object.__setattr__"))) (cg13 : PySem.W.findIn K (.ref C13) "index" = some none) (ci13 : PySem.W.findIn K (.ref C13) "__init__" = some (some (.ref I13))) (ct13 : PySem.W.typeIn K (.ref I13) = some (.type "function"))
    (cl13 : K.lookup I13 = some ⟨ioc13, iod13, .func (PySem.W.fnOf "__init__" "InvalidText.__init__" (defArgs (inClass (top 15) 0)) (defBody (inClass (top 15) 0)) (defScope (inClass (top 15) 0)) .none ikV13 idc13 ipm13 ian13 icd13 ict13), isl13⟩)
    (cc13 : PySem.W.codeIn K icd13 "InvalidText.__init__" = true) (cm13 : PySem.W.keepIn K (.ref I13) = true) (ck13 : PySem.W.keepIn K (.ref C13) = true) (ce13 : PySem.W.subIn K (.ref C13) (.type "BaseException") = some true) (cy13 : PySem.W.typeIn K (.ref C13) = some (.type "type"))
    (ca14 : PySem.W.nsIn K mainGlobals "InvalidLines" = some (some (.ref C14)))
    (cx14 : K.lookup C14 = some (excClassObj cn14 cq14 C14 cN14 cb14 [.ref CB, .type "ValueError", .type "Exception", .type "BaseException", .type "object"] true cs14 cu14 cv14 cw14 cd14 x014 x114 x214 x314 x514 "ValueError.__new__"))
    (cf14 : PySem.W.findIn K (.ref C14) "__setattr__" = some (some (.builtin "object.__setattr__"))) (cg14 : PySem.W.findIn K (.ref C14) "index" = some none) (ci14 : PySem.W.findIn K (.ref C14) "__init__" = some (some (.ref I14))) (ct14 : PySem.W.typeIn K (.ref I14) = some (.type "function"))
    (cl14 : K.lookup I14 = some ⟨ioc14, iod14, .func (PySem.W.fnOf "__init__" "InvalidLines.__init__" (defArgs (inClass (top 16) 0)) (defBody (inClass (top 16) 0)) (defScope (inClass (top 16) 0)) .none ikV14 idc14 ipm14 ian14 icd14 ict14), isl14⟩)
    (cc14 : PySem.W.codeIn K icd14 "InvalidLines.__init__" = true) (cm14 : PySem.W.keepIn K (.ref I14) = true) (ck14 : PySem.W.keepIn K (.ref C14) = true) (ce14 : PySem.W.subIn K (.ref C14) (.type "BaseException") = some true) (cy14 : PySem.W.typeIn K (.ref C14) = some (.type "type"))
    (ca15 : PySem.W.nsIn K mainGlobals "BadLabel" = some (some (.ref C15)))
    (cx15 : K.lookup C15 = some (excClassObj cn15 cq15 C15 cN15 cb15 [.ref CB, .type "ValueError", .type "Exception", .type "BaseException", .type "object"] true cs15 cu15 cv15 cw15 cd15 x015 x115 x215 x315 x515 "ValueError.__new__"))
    (cf15 : PySem.W.findIn K (.ref C15) "__setattr__" = some (some (.builtin "object.__setattr__"))) (cg15 : PySem.W.findIn K (.ref C15) "spot" = some none) (ci15 : PySem.W.findIn K (.ref C15) "__init__" = some (some (.ref I15))) (ct15 : PySem.W.typeIn K (.ref I15) = some (.type "function"))
    (cl15 : K.lookup I15 = some ⟨ioc15, iod15, .func (PySem.W.fnOf "__init__" "BadLabel.__init__" (defArgs (inClass (top 17) 0)) (defBody (inClass (top 17) 0)) (defScope (inClass (top 17) 0)) .none ikV15 idc15 ipm15 ian15 icd15 ict15), isl15⟩)
    (cc15 : PySem.W.codeIn K icd15 "BadLabel.__init__" = true) (cm15 : PySem.W.keepIn K (.ref I15) = true) (ck15 : PySem.W.keepIn K (.ref C15) = true) (ce15 : PySem.W.subIn K (.ref C15) (.type "BaseException") = some true) (cy15 : PySem.W.typeIn K (.ref C15) = some (.type "type"))
    (ba : PySem.W.nsIn K mainGlobals "TemplateError" = some (some (.ref CB))) (bk : PySem.W.keepIn K (.ref CB) = true)
    (zint : PySem.W.nsIn K mainGlobals "int" = some none)
    (zabs : PySem.W.nsIn K mainGlobals "abs" = some none)
    (zdivmod : PySem.W.nsIn K mainGlobals "divmod" = some none)
    (zlen : PySem.W.nsIn K mainGlobals "len" = some none)
    (zall : PySem.W.nsIn K mainGlobals "all" = some none)
    (zrange : PySem.W.nsIn K mainGlobals "range" = some none)
    (zmax : PySem.W.nsIn K mainGlobals "max" = some none)
    (zmin : PySem.W.nsIn K mainGlobals "min" = some none)
    (zrepr : PySem.W.nsIn K mainGlobals "repr" = some none)
    (zisinstance : PySem.W.nsIn K mainGlobals "isinstance" = some none)
    (zverr : PySem.W.nsIn K mainGlobals "ValueError" = some none)
    (zlerr : PySem.W.nsIn K mainGlobals "LookupError" = some none)
    (zaerr : PySem.W.nsIn K mainGlobals "ArithmeticError" = some none)
    (zterr : PySem.W.nsIn K mainGlobals "TypeError" = some none)
    (zatterr : PySem.W.nsIn K mainGlobals "AttributeError" = some none)
    (zrerr : PySem.W.nsIn K mainGlobals "RuntimeError" = some none)
    (zserr : PySem.W.nsIn K mainGlobals "StopIteration" = some none)
    (zenumerate : PySem.W.nsIn K mainGlobals "enumerate" = some none)
    (xB : PySem.W.excIn K CB [.type "ValueError", .type "Exception", .type "BaseException", .type "object"] "ValueError.__new__" = true) (chk : allB K CB [C0, C1, C2, C3, C4, C5, C6, C7, C8, C9, C10, C11, C12, C13, C14, C15] = true) (chx : ([C0, C1, C2, C3, C4, C5, C6, C7, C8, C9, C10, C11, C12, C13, C14, C15] : List Addr).all (fun C => decide (PySem.W.exmOne K (.ref C) (.ref CB) = some true)) = true) (nd : (CB :: [C0, C1, C2, C3, C4, C5, C6, C7, C8, C9, C10, C11, C12, C13, C14, C15] : List Addr).Nodup) :
    ∃ fd : FuncData, (∀ (s : Shared) (u : Value), BindsTo s fd ⟨[u], []⟩ [("script", u)]) ∧ ∀ base : Heap, K.In base → base.Ns mainGlobals mg → Fn P w K mg base CX0 7 fa fd ["script"] (spLaw K) := by
  have e := hfa.symm.trans (PySem.W.mg_of X G aL)
  cases e
  have FW := fun_mk (st := s_well) lW cW kW
  have DW : Df K mg "_law_well" s_well := ⟨_, _, PySem.W.mg_of X G aW, FW⟩
  have FD := fun_mk (st := s_draw) lD cD kD
  have DD : Df K mg "_law_draw" s_draw := ⟨_, _, PySem.W.mg_of X G aD, FD⟩
  have FO := fun_mk (st := s_one) lO cO kO
  have DO : Df K mg "_law_one" s_one := ⟨_, _, PySem.W.mg_of X G aO, FO⟩
  have FI := fun_mk (st := s_odd) lI cI kI
  have DI : Df K mg "_law_odd_thing" s_odd := ⟨_, _, PySem.W.mg_of X G aI, FI⟩
  have FM := fun_mk (st := s_made) lM cM kM
  have DM : Df K mg "_law_made" s_made := ⟨_, _, PySem.W.mg_of X G aM, FM⟩
  have FK := fun_mk (st := s_kinds) lK cK kK
  have DK : Df K mg "_law_kinds_of" s_kinds := ⟨_, _, PySem.W.mg_of X G aK, FK⟩
  have FT := fun_mk (st := s_kept) lT cT kT
  have DT : Df K mg "_law_kept" s_kept := ⟨_, _, PySem.W.mg_of X G aT, FT⟩
  have FP := fun_mk (st := s_plain) lP cP kP
  have DP : Df K mg "_law_is_plain" s_plain := ⟨_, _, PySem.W.mg_of X G aP, FP⟩
  have FC := fun_mk (st := s_caught) lC cC kC
  have DC : Df K mg "_law_is_caught" s_caught := ⟨_, _, PySem.W.mg_of X G aC, FC⟩
  have FR := fun_mk (st := s_right) lR cR kR
  have DR : Df K mg "_law_right" s_right := ⟨_, _, PySem.W.mg_of X G aR, FR⟩
  have FL := fun_mk (st := s_law) lL cL kL
  have B : Bi mg := ⟨PySem.W.mg_none_of X G zint, PySem.W.mg_none_of X G zabs, PySem.W.mg_none_of X G zdivmod, PySem.W.mg_none_of X G zlen, PySem.W.mg_none_of X G zall, PySem.W.mg_none_of X G zrange, PySem.W.mg_none_of X G zmax, PySem.W.mg_none_of X G zmin, PySem.W.mg_none_of X G zrepr, PySem.W.mg_none_of X G zisinstance, PySem.W.mg_none_of X G zverr, PySem.W.mg_none_of X G zlerr, PySem.W.mg_none_of X G zaerr, PySem.W.mg_none_of X G zterr, PySem.W.mg_none_of X G zatterr, PySem.W.mg_none_of X G zrerr, PySem.W.mg_none_of X G zserr, PySem.W.mg_none_of X G zenumerate⟩
  have Kt := kits_of chk
  have hm : ∀ C ∈ ([C0, C1, C2, C3, C4, C5, C6, C7, C8, C9, C10, C11, C12, C13, C14, C15] : List Addr), PySem.W.exmOne K (.ref C) (.ref CB) = some true := fun C hC => of_decide_eq_true (List.all_eq_true.mp chx C hC)
  refine ⟨PySem.W.fnOf "law" "law" (defArgs s_law) (defBody s_law) (defScope s_law) .none kVL dcL pmL anL cdL ctL, fun s u => .of_eq rfl, fun base _ _ => ?_⟩
  have J0 := fun_mk (st := inClass (top 2) 0) (qual := "InvalidSignature.__init__") cl0 cc0 cm0
  have J1 := fun_mk (st := inClass (top 3) 0) (qual := "InvalidKind.__init__") cl1 cc1 cm1
  have J2 := fun_mk (st := inClass (top 4) 0) (qual := "InvalidPatterns.__init__") cl2 cc2 cm2
  have J3 := fun_mk (st := inClass (top 5) 0) (qual := "InvalidNumber.__init__") cl3 cc3 cm3
  have J4 := fun_mk (st := inClass (top 6) 0) (qual := "InvalidTable.__init__") cl4 cc4 cm4
  have J5 := fun_mk (st := inClass (top 7) 0) (qual := "InvalidName.__init__") cl5 cc5 cm5
  have J6 := fun_mk (st := inClass (top 8) 0) (qual := "InvalidUse.__init__") cl6 cc6 cm6
  have J7 := fun_mk (st := inClass (top 9) 0) (qual := "InvalidProgram.__init__") cl7 cc7 cm7
  have J8 := fun_mk (st := inClass (top 10) 0) (qual := "Unformed.__init__") cl8 cc8 cm8
  have J9 := fun_mk (st := inClass (top 11) 0) (qual := "Unsound.__init__") cl9 cc9 cm9
  have J10 := fun_mk (st := inClass (top 12) 0) (qual := "NoValue.__init__") cl10 cc10 cm10
  have J11 := fun_mk (st := inClass (top 13) 0) (qual := "InvalidTerms.__init__") cl11 cc11 cm11
  have J12 := fun_mk (st := inClass (top 14) 0) (qual := "InvalidRows.__init__") cl12 cc12 cm12
  have J13 := fun_mk (st := inClass (top 15) 0) (qual := "InvalidText.__init__") cl13 cc13 cm13
  have J14 := fun_mk (st := inClass (top 16) 0) (qual := "InvalidLines.__init__") cl14 cc14 cm14
  have J15 := fun_mk (st := inClass (top 17) 0) (qual := "BadLabel.__init__") cl15 cc15 cm15
  have E : Ecs P w K mg base CB C0 C1 C2 C3 C4 C5 C6 C7 C8 C9 C10 C11 C12 C13 C14 C15 := {
    e0 := ⟨⟨⟨_, _, _, _, _, _, _, _, _, _, _, _, _, _, _, cx0, rfl⟩, cf0, ce0, cy0, ck0⟩, PySem.W.mg_of X G ca0, cg0, ⟨_, _, ci0, ct0, ok_exinit (.inl rfl) rfl ⟨rfl, rfl, rfl, by decide +kernel, rfl, by decide +kernel, by decide +kernel⟩ J0, fun _ _ _ => .of_eq rfl, fun _ _ _ => .of_eq rfl⟩⟩
    e1 := ⟨⟨⟨_, _, _, _, _, _, _, _, _, _, _, _, _, _, _, cx1, rfl⟩, cf1, ce1, cy1, ck1⟩, PySem.W.mg_of X G ca1, cg1, ⟨_, _, ci1, ct1, ok_exinit (.inl rfl) rfl ⟨rfl, rfl, rfl, by decide +kernel, rfl, by decide +kernel, by decide +kernel⟩ J1, fun _ _ _ => .of_eq rfl, fun _ _ _ => .of_eq rfl⟩⟩
    e2 := ⟨⟨⟨_, _, _, _, _, _, _, _, _, _, _, _, _, _, _, cx2, rfl⟩, cf2, ce2, cy2, ck2⟩, PySem.W.mg_of X G ca2, cg2, ⟨_, _, ci2, ct2, ok_exinit (.inl rfl) rfl ⟨rfl, rfl, rfl, by decide +kernel, rfl, by decide +kernel, by decide +kernel⟩ J2, fun _ _ _ => .of_eq rfl, fun _ _ _ => .of_eq rfl⟩⟩
    e3 := ⟨⟨⟨_, _, _, _, _, _, _, _, _, _, _, _, _, _, _, cx3, rfl⟩, cf3, ce3, cy3, ck3⟩, PySem.W.mg_of X G ca3, cg3, ⟨_, _, ci3, ct3, ok_exinit (.inl rfl) rfl ⟨rfl, rfl, rfl, by decide +kernel, rfl, by decide +kernel, by decide +kernel⟩ J3, fun _ _ _ => .of_eq rfl, fun _ _ _ => .of_eq rfl⟩⟩
    e4 := ⟨⟨⟨_, _, _, _, _, _, _, _, _, _, _, _, _, _, _, cx4, rfl⟩, cf4, ce4, cy4, ck4⟩, PySem.W.mg_of X G ca4, cg4, ⟨_, _, ci4, ct4, ok_exinit (.inl rfl) rfl ⟨rfl, rfl, rfl, by decide +kernel, rfl, by decide +kernel, by decide +kernel⟩ J4, fun _ _ _ => .of_eq rfl, fun _ _ _ => .of_eq rfl⟩⟩
    e5 := ⟨⟨⟨_, _, _, _, _, _, _, _, _, _, _, _, _, _, _, cx5, rfl⟩, cf5, ce5, cy5, ck5⟩, PySem.W.mg_of X G ca5, cg5, ⟨_, _, ci5, ct5, ok_exinit (.inl rfl) rfl ⟨rfl, rfl, rfl, by decide +kernel, rfl, by decide +kernel, by decide +kernel⟩ J5, fun _ _ _ => .of_eq rfl, fun _ _ _ => .of_eq rfl⟩⟩
    e6 := ⟨⟨⟨_, _, _, _, _, _, _, _, _, _, _, _, _, _, _, cx6, rfl⟩, cf6, ce6, cy6, ck6⟩, PySem.W.mg_of X G ca6, cg6, ⟨_, _, ci6, ct6, ok_exinit (.inl rfl) rfl ⟨rfl, rfl, rfl, by decide +kernel, rfl, by decide +kernel, by decide +kernel⟩ J6, fun _ _ _ => .of_eq rfl, fun _ _ _ => .of_eq rfl⟩⟩
    e7 := ⟨⟨⟨_, _, _, _, _, _, _, _, _, _, _, _, _, _, _, cx7, rfl⟩, cf7, ce7, cy7, ck7⟩, PySem.W.mg_of X G ca7, cg7, ⟨_, _, ci7, ct7, ok_exinit (.inl rfl) rfl ⟨rfl, rfl, rfl, by decide +kernel, rfl, by decide +kernel, by decide +kernel⟩ J7, fun _ _ _ => .of_eq rfl, fun _ _ _ => .of_eq rfl⟩⟩
    e8 := ⟨⟨⟨_, _, _, _, _, _, _, _, _, _, _, _, _, _, _, cx8, rfl⟩, cf8, ce8, cy8, ck8⟩, PySem.W.mg_of X G ca8, cg8, ⟨_, _, ci8, ct8, ok_exinit (.inl rfl) rfl ⟨rfl, rfl, rfl, by decide +kernel, rfl, by decide +kernel, by decide +kernel⟩ J8, fun _ _ _ => .of_eq rfl, fun _ _ _ => .of_eq rfl⟩⟩
    e9 := ⟨⟨⟨_, _, _, _, _, _, _, _, _, _, _, _, _, _, _, cx9, rfl⟩, cf9, ce9, cy9, ck9⟩, PySem.W.mg_of X G ca9, cg9, ⟨_, _, ci9, ct9, ok_exinit (.inl rfl) rfl ⟨rfl, rfl, rfl, by decide +kernel, rfl, by decide +kernel, by decide +kernel⟩ J9, fun _ _ _ => .of_eq rfl, fun _ _ _ => .of_eq rfl⟩⟩
    e10 := ⟨⟨⟨_, _, _, _, _, _, _, _, _, _, _, _, _, _, _, cx10, rfl⟩, cf10, ce10, cy10, ck10⟩, PySem.W.mg_of X G ca10, cg10, ⟨_, _, ci10, ct10, ok_exinit (.inl rfl) rfl ⟨rfl, rfl, rfl, by decide +kernel, rfl, by decide +kernel, by decide +kernel⟩ J10, fun _ _ _ => .of_eq rfl, fun _ _ _ => .of_eq rfl⟩⟩
    e11 := ⟨⟨⟨_, _, _, _, _, _, _, _, _, _, _, _, _, _, _, cx11, rfl⟩, cf11, ce11, cy11, ck11⟩, PySem.W.mg_of X G ca11, cg11, ⟨_, _, ci11, ct11, ok_exinit (.inr (.inl rfl)) rfl ⟨rfl, rfl, rfl, by decide +kernel, rfl, by decide +kernel, by decide +kernel⟩ J11, fun _ _ _ => .of_eq rfl, fun _ _ _ => .of_eq rfl⟩⟩
    e12 := ⟨⟨⟨_, _, _, _, _, _, _, _, _, _, _, _, _, _, _, cx12, rfl⟩, cf12, ce12, cy12, ck12⟩, PySem.W.mg_of X G ca12, cg12, ⟨_, _, ci12, ct12, ok_exinit (.inr (.inl rfl)) rfl ⟨rfl, rfl, rfl, by decide +kernel, rfl, by decide +kernel, by decide +kernel⟩ J12, fun _ _ _ => .of_eq rfl, fun _ _ _ => .of_eq rfl⟩⟩
    e13 := ⟨⟨⟨_, _, _, _, _, _, _, _, _, _, _, _, _, _, _, cx13, rfl⟩, cf13, ce13, cy13, ck13⟩, PySem.W.mg_of X G ca13, cg13, ⟨_, _, ci13, ct13, ok_exinit (.inr (.inl rfl)) rfl ⟨rfl, rfl, rfl, by decide +kernel, rfl, by decide +kernel, by decide +kernel⟩ J13, fun _ _ _ => .of_eq rfl, fun _ _ _ => .of_eq rfl⟩⟩
    e14 := ⟨⟨⟨_, _, _, _, _, _, _, _, _, _, _, _, _, _, _, cx14, rfl⟩, cf14, ce14, cy14, ck14⟩, PySem.W.mg_of X G ca14, cg14, ⟨_, _, ci14, ct14, ok_exinit (.inr (.inl rfl)) rfl ⟨rfl, rfl, rfl, by decide +kernel, rfl, by decide +kernel, by decide +kernel⟩ J14, fun _ _ _ => .of_eq rfl, fun _ _ _ => .of_eq rfl⟩⟩
    e15 := ⟨⟨⟨_, _, _, _, _, _, _, _, _, _, _, _, _, _, _, cx15, rfl⟩, cf15, ce15, cy15, ck15⟩, PySem.W.mg_of X G ca15, cg15, ⟨_, _, ci15, ct15, ok_exinit (.inr (.inr rfl)) rfl ⟨rfl, rfl, rfl, by decide +kernel, rfl, by decide +kernel, by decide +kernel⟩ J15, fun _ _ _ => .of_eq rfl, fun _ _ _ => .of_eq rfl⟩⟩
    gB := PySem.W.mg_of X G ba
    kB := bk
    xB := xB }
  have GW := ok_well (P := P) (w := w) (base := base) DW B
  have GD := ok_draw (P := P) (w := w) (base := base) DD B
  have GO := ok_one DO B GD
  have GI := ok_odd DI B GO
  have GM := ok_made DM E
  have GK := ok_kinds DK B E Kt
  have GP := ok_plain DP B E Kt
  have GT := ok_kept (P := P) (w := w) (base := base) DT
  have GC := ok_caught DC DK DP B E Kt (List.nodup_cons.mp nd).2 hm
  have GR := ok_right DR B E Kt nd GD GO GI GM GK GP GT GC
  exact ok_law FL B GW GR

end Q0
open PySem PySem.W PyProof.Rows
set_option maxRecDepth 100000 in
set_option maxHeartbeats 0 in
theorem PySem.Challenge.cw_instances_k01_errors_each_of_its_own_holds : PySem.Challenge.rw_instances_k01_errors_each_of_its_own.Holds := by
  w_on; o_law; k_head; (case hw => w_witness2)
  k_fill
  refine Q0.walk_end (l := PySem.Challenge.rw_instances_k01_errors_each_of_its_own) (k := 7) (x := "script") rfl rfl ⟨rfl, by decide, by decide⟩ (fun w h Y => PySem.W.kIn_of Y) ?F
  case F =>
    intro w mg fa h KX G hmg
    refine' Q0.all_mk KX G hmg ?aW ?lW ?cW ?kW ?aD ?lD ?cD ?kD ?aO ?lO ?cO ?kO ?aI ?lI ?cI ?kI ?aM ?lM ?cM ?kM ?aK ?lK ?cK ?kK ?aT ?lT ?cT ?kT ?aP ?lP ?cP ?kP ?aC ?lC ?cC ?kC ?aR ?lR ?cR ?kR ?aL ?lL ?cL ?kL ?ca0 ?cx0 ?cf0 ?cg0 ?ci0 ?ct0 ?cl0 ?cc0 ?cm0 ?ck0 ?ce0 ?cy0 ?ca1 ?cx1 ?cf1 ?cg1 ?ci1 ?ct1 ?cl1 ?cc1 ?cm1 ?ck1 ?ce1 ?cy1 ?ca2 ?cx2 ?cf2 ?cg2 ?ci2 ?ct2 ?cl2 ?cc2 ?cm2 ?ck2 ?ce2 ?cy2 ?ca3 ?cx3 ?cf3 ?cg3 ?ci3 ?ct3 ?cl3 ?cc3 ?cm3 ?ck3 ?ce3 ?cy3 ?ca4 ?cx4 ?cf4 ?cg4 ?ci4 ?ct4 ?cl4 ?cc4 ?cm4 ?ck4 ?ce4 ?cy4 ?ca5 ?cx5 ?cf5 ?cg5 ?ci5 ?ct5 ?cl5 ?cc5 ?cm5 ?ck5 ?ce5 ?cy5 ?ca6 ?cx6 ?cf6 ?cg6 ?ci6 ?ct6 ?cl6 ?cc6 ?cm6 ?ck6 ?ce6 ?cy6 ?ca7 ?cx7 ?cf7 ?cg7 ?ci7 ?ct7 ?cl7 ?cc7 ?cm7 ?ck7 ?ce7 ?cy7 ?ca8 ?cx8 ?cf8 ?cg8 ?ci8 ?ct8 ?cl8 ?cc8 ?cm8 ?ck8 ?ce8 ?cy8 ?ca9 ?cx9 ?cf9 ?cg9 ?ci9 ?ct9 ?cl9 ?cc9 ?cm9 ?ck9 ?ce9 ?cy9 ?ca10 ?cx10 ?cf10 ?cg10 ?ci10 ?ct10 ?cl10 ?cc10 ?cm10 ?ck10 ?ce10 ?cy10 ?ca11 ?cx11 ?cf11 ?cg11 ?ci11 ?ct11 ?cl11 ?cc11 ?cm11 ?ck11 ?ce11 ?cy11 ?ca12 ?cx12 ?cf12 ?cg12 ?ci12 ?ct12 ?cl12 ?cc12 ?cm12 ?ck12 ?ce12 ?cy12 ?ca13 ?cx13 ?cf13 ?cg13 ?ci13 ?ct13 ?cl13 ?cc13 ?cm13 ?ck13 ?ce13 ?cy13 ?ca14 ?cx14 ?cf14 ?cg14 ?ci14 ?ct14 ?cl14 ?cc14 ?cm14 ?ck14 ?ce14 ?cy14 ?ca15 ?cx15 ?cf15 ?cg15 ?ci15 ?ct15 ?cl15 ?cc15 ?cm15 ?ck15 ?ce15 ?cy15 ?ba ?bk ?zint ?zabs ?zdivmod ?zlen ?zall ?zrange ?zmax ?zmin ?zrepr ?zisinstance ?zverr ?zlerr ?zaerr ?zterr ?zatterr ?zrerr ?zserr ?zenumerate ?xB ?chk ?chx ?nd
    (case ba => k_is); (case aW => k_is); (case lW => k_is); (case cW => k_is); (case kW => k_is); (case aD => k_is); (case lD => k_is); (case cD => k_is); (case kD => k_is); (case aO => k_is); (case lO => k_is); (case cO => k_is); (case kO => k_is); (case aI => k_is); (case lI => k_is); (case cI => k_is); (case kI => k_is); (case aM => k_is); (case lM => k_is); (case cM => k_is); (case kM => k_is); (case aK => k_is); (case lK => k_is); (case cK => k_is); (case kK => k_is); (case aT => k_is); (case lT => k_is); (case cT => k_is); (case kT => k_is); (case aP => k_is); (case lP => k_is); (case cP => k_is); (case kP => k_is); (case aC => k_is); (case lC => k_is); (case cC => k_is); (case kC => k_is); (case aR => k_is); (case lR => k_is); (case cR => k_is); (case kR => k_is); (case aL => k_is); (case lL => k_is); (case cL => k_is); (case kL => k_is); (case ca0 => k_is); (case cx0 => k_is); (case cf0 => k_is); (case cg0 => k_is); (case ci0 => k_is); (case ct0 => k_is); (case cl0 => k_is); (case cc0 => k_is); (case cm0 => k_is); (case ck0 => k_is); (case ce0 => k_is); (case cy0 => k_is); (case ca1 => k_is); (case cx1 => k_is); (case cf1 => k_is); (case cg1 => k_is); (case ci1 => k_is); (case ct1 => k_is); (case cl1 => k_is); (case cc1 => k_is); (case cm1 => k_is); (case ck1 => k_is); (case ce1 => k_is); (case cy1 => k_is); (case ca2 => k_is); (case cx2 => k_is); (case cf2 => k_is); (case cg2 => k_is); (case ci2 => k_is); (case ct2 => k_is); (case cl2 => k_is); (case cc2 => k_is); (case cm2 => k_is); (case ck2 => k_is); (case ce2 => k_is); (case cy2 => k_is); (case ca3 => k_is); (case cx3 => k_is); (case cf3 => k_is); (case cg3 => k_is); (case ci3 => k_is); (case ct3 => k_is); (case cl3 => k_is); (case cc3 => k_is); (case cm3 => k_is); (case ck3 => k_is); (case ce3 => k_is); (case cy3 => k_is); (case ca4 => k_is); (case cx4 => k_is); (case cf4 => k_is); (case cg4 => k_is); (case ci4 => k_is); (case ct4 => k_is); (case cl4 => k_is); (case cc4 => k_is); (case cm4 => k_is); (case ck4 => k_is); (case ce4 => k_is); (case cy4 => k_is); (case ca5 => k_is); (case cx5 => k_is); (case cf5 => k_is); (case cg5 => k_is); (case ci5 => k_is); (case ct5 => k_is); (case cl5 => k_is); (case cc5 => k_is); (case cm5 => k_is); (case ck5 => k_is); (case ce5 => k_is); (case cy5 => k_is); (case ca6 => k_is); (case cx6 => k_is); (case cf6 => k_is); (case cg6 => k_is); (case ci6 => k_is); (case ct6 => k_is); (case cl6 => k_is); (case cc6 => k_is); (case cm6 => k_is); (case ck6 => k_is); (case ce6 => k_is); (case cy6 => k_is); (case ca7 => k_is); (case cx7 => k_is); (case cf7 => k_is); (case cg7 => k_is); (case ci7 => k_is); (case ct7 => k_is); (case cl7 => k_is); (case cc7 => k_is); (case cm7 => k_is); (case ck7 => k_is); (case ce7 => k_is); (case cy7 => k_is); (case ca8 => k_is); (case cx8 => k_is); (case cf8 => k_is); (case cg8 => k_is); (case ci8 => k_is); (case ct8 => k_is); (case cl8 => k_is); (case cc8 => k_is); (case cm8 => k_is); (case ck8 => k_is); (case ce8 => k_is); (case cy8 => k_is); (case ca9 => k_is); (case cx9 => k_is); (case cf9 => k_is); (case cg9 => k_is); (case ci9 => k_is); (case ct9 => k_is); (case cl9 => k_is); (case cc9 => k_is); (case cm9 => k_is); (case ck9 => k_is); (case ce9 => k_is); (case cy9 => k_is); (case ca10 => k_is); (case cx10 => k_is); (case cf10 => k_is); (case cg10 => k_is); (case ci10 => k_is); (case ct10 => k_is); (case cl10 => k_is); (case cc10 => k_is); (case cm10 => k_is); (case ck10 => k_is); (case ce10 => k_is); (case cy10 => k_is); (case ca11 => k_is); (case cx11 => k_is); (case cf11 => k_is); (case cg11 => k_is); (case ci11 => k_is); (case ct11 => k_is); (case cl11 => k_is); (case cc11 => k_is); (case cm11 => k_is); (case ck11 => k_is); (case ce11 => k_is); (case cy11 => k_is); (case ca12 => k_is); (case cx12 => k_is); (case cf12 => k_is); (case cg12 => k_is); (case ci12 => k_is); (case ct12 => k_is); (case cl12 => k_is); (case cc12 => k_is); (case cm12 => k_is); (case ck12 => k_is); (case ce12 => k_is); (case cy12 => k_is); (case ca13 => k_is); (case cx13 => k_is); (case cf13 => k_is); (case cg13 => k_is); (case ci13 => k_is); (case ct13 => k_is); (case cl13 => k_is); (case cc13 => k_is); (case cm13 => k_is); (case ck13 => k_is); (case ce13 => k_is); (case cy13 => k_is); (case ca14 => k_is); (case cx14 => k_is); (case cf14 => k_is); (case cg14 => k_is); (case ci14 => k_is); (case ct14 => k_is); (case cl14 => k_is); (case cc14 => k_is); (case cm14 => k_is); (case ck14 => k_is); (case ce14 => k_is); (case cy14 => k_is); (case ca15 => k_is); (case cx15 => k_is); (case cf15 => k_is); (case cg15 => k_is); (case ci15 => k_is); (case ct15 => k_is); (case cl15 => k_is); (case cc15 => k_is); (case cm15 => k_is); (case ck15 => k_is); (case ce15 => k_is); (case cy15 => k_is); (case bk => k_is); (case zint => k_is); (case zabs => k_is); (case zdivmod => k_is); (case zlen => k_is); (case zall => k_is); (case zrange => k_is); (case zmax => k_is); (case zmin => k_is); (case zrepr => k_is); (case zisinstance => k_is); (case zverr => k_is); (case zlerr => k_is); (case zaerr => k_is); (case zterr => k_is); (case zatterr => k_is); (case zrerr => k_is); (case zserr => k_is); (case zenumerate => k_is)
    (case xB => k_exc)
    (case chk => kernel_rfl)
    (case chx => kernel_rfl)
    (case nd => decide)
