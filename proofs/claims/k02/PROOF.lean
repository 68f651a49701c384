import PyProof.Rows.All
import Wide.All
import OpenK.AllK
import Wide.FinOn
import HandS.ForMost
import HandS.Defaults
import HandS.IsInst
import HandS.Flow
import HandS.Codes
import HandS.TryOnly
import PyProof.ReprRoads
import PyProof.CallFns
import HandS.ExcInit
import HandS.ExcIs
import HandS.ExcField
import HandS.ExcValue
import KE.KExcIs
import HandS.SetFor
import HandS.Strs
import HandS.DictComp
import HandS.Deep
import HandS.Walk
import KE.KDictCopyH
import HandS.Sort
import HandS.TupAny
import HandS.TupMul
import PyProof.StrOps2
import HandS.Style
import HandS.ForExc
import PySem.Challenge.RW_instances_k02_signatures_of_anything_sma
set_option Elab.async false
set_option linter.all false
set_option maxRecDepth 100000
set_option maxHeartbeats 4000000
/-! A layer of our own over HandS: promises of defs that are kept where nothing is being shown (so that repr of data may be asked for in them). -/
namespace Q0
open PySem PySem.Spec PyProof.Rows L2

/-- nothing is being shown around -/
abbrev Qt (A : Around) : Prop := A.guards = some []

/-- a def's promise, kept where nothing is being shown -/
structure Fn (P : Program) (w : World) (K : PySem.W.Frag) (mg : Str → Option Value) (base : Heap)
    (CX : CXT) (k : Nat) (f : Addr) (fd : FuncData) (ps : List Str) (sp : Sp) : Prop where
  len : ∀ vs H Q E, sp vs H Q E → vs.length = ps.length
  run : ∀ (A : Around) (outer : List Env) (s : Shared) (H : Hp) (args : Args) (us : List Value)
    (vs : List V) (Q : VK) (E : XK), Room k A → Qt A → Env0 P w K mg base A outer s H →
    BindsTo s fd args (ps.zip us) → Vals vs us → sp vs H Q E →
    codeAny (model P w) A (.call (.ref f) args) (CR CX outer P w H s Q E) s

section
variable {P : Program} {w : World} {K : PySem.W.Frag} {mg : Str → Option Value} {base : Heap} {CX : CXT}
  {k j : Nat} {f : Addr} {fd : FuncData} {ps : List Str} {sp sp' : Sp}
theorem Fn.mono (F : Fn P w K mg base CX j f fd ps sp) (h : j ≤ k) : Fn P w K mg base CX k f fd ps sp :=
  ⟨F.len, fun A outer s H args us vs Q E hr hq => F.run A outer s H args us vs Q E (hr.mono h) hq⟩
theorem Fn.imp (F : Fn P w K mg base CX k f fd ps sp) (h : ∀ vs H Q E, sp' vs H Q E → sp vs H Q E) :
    Fn P w K mg base CX k f fd ps sp' :=
  ⟨fun vs H Q E q => F.len vs H Q E (h _ _ _ _ q), fun A outer s H args us vs Q E hr hq he hb hv hs =>
    F.run A outer s H args us vs Q E hr hq he hb hv (h _ _ _ _ hs)⟩

/-- a def by its body; an exception that leaves it is told by CX -/
theorem fun_qX {x qual : Str} {st : Stmt} {N : List Str} (F : Fun K x qual st f fd) (S : FnScope N ps (defScope st))
    (len : ∀ vs H Q E, sp vs H Q E → vs.length = ps.length)
    (hbody : ∀ (cdv : Value) (A : Around) (outer : List Env) (s : Shared) (H : Hp) (vs : List V) (Q : VK) (E : XK),
      Room k (A.deeper (envOfC qual (defScope st) s.heap.objs.size f cdv)) → Qt A → sp vs H Q E →
      ∃ t, PSs (cxOf CX P w K mg base N qual (defScope st) f cdv A outer s H E) (defBody st) t ∧
        t { nx := fun _ H' => Q .non H', rt := Q } (start N vs) H) :
    Fn P w K mg base CX (k + 1) f fd ps sp := by
  obtain ⟨oc, od, kV, doc, pm, an, cdv, ct, osl, rfl, lk, hcd⟩ := F.ex
  refine ⟨len, fun A outer s H args us vs Q E hr hq e0 hb r hsp => ?_⟩
  have old : ∀ b o, base.get? b = some o → s.heap.get? b = some o := fun b o e => (e0.bs b o e).1
  have KX : K.In s.heap := e0.mod.kin.keeps old
  have hkind : ∀ y ∈ ps.zip us, (defScope st).names.lookup y.1 = some .local ∨
      ((defScope st).names.lookup y.1 = some .cell ∧
        ((cellsFrom (s.heap.objs.size + 1) (defScope st).names []).lookup y.1).isSome = true) := by
    intro ⟨n, v⟩ hy
    cases S.par n (List.of_mem_zip hy).1 with
    | inl q => exact .inl q
    | inr q => exact .inr ⟨q, PySem.W.cellsFrom_some _ _ _ (.inl q)⟩
  refine codeAny_call_function hr.depth (KX _ _ lk) rfl S.co S.gen rfl (PySem.W.codeRec_of KX hcd) (hb _ _ _ _ ?_)
  refine wpAny_newFunctionEnv_cells S.kind hkind fun env he s1 x => ?_
  subst he
  refine ⟨(e0.mod.nolimit.keeps old).keeps x.toInCall.keep, codeAny_func ?_⟩
  obtain ⟨t, ht, ht2⟩ := hbody cdv A outer s H vs Q E (hr.deeper _) hq hsp
  have I := inv_start (CX := CX) (E := E) (qual := qual) (f := f) (cd := cdv) S hr.hd e0 (len _ _ _ _ hsp) r x
  refine wpAny_mono (ht.run [] s1 (start N vs) H _ I ht2) (fun fl s' hs => ?_) fun e s' hs => hs
  cases fl with
  | ret u =>
    obtain ⟨v, σ', H', J, rv, q⟩ := hs
    exact (⟨v, H', J.os, J.bare, J.base, J.hok, rv, q⟩ : CE outer P w H s Q u s')
  | next =>
    obtain ⟨σ', H', J, q⟩ := hs
    exact (⟨V.non, H', J.os, J.bare, J.base, J.hok, rfl, q⟩ : CE outer P w H s Q Value.none s')
  | brk => exact False.elim hs.choose_spec.choose_spec.2
  | cont => exact False.elim hs.choose_spec.choose_spec.2
/-- a def by its body; nothing is raised -/
theorem fun_q {x qual : Str} {st : Stmt} {N : List Str} (F : Fun K x qual st f fd) (S : FnScope N ps (defScope st))
    (len : ∀ vs H Q E, sp vs H Q E → vs.length = ps.length)
    (hbody : ∀ (cdv : Value) (A : Around) (outer : List Env) (s : Shared) (H : Hp) (vs : List V) (Q : VK) (E : XK),
      Room k (A.deeper (envOfC qual (defScope st) s.heap.objs.size f cdv)) → Qt A → sp vs H Q E →
      ∃ t, PSs (cxOf CX0 P w K mg base N qual (defScope st) f cdv A outer s H E).nox (defBody st) t ∧
        t { nx := fun _ H' => Q .non H', rt := Q } (start N vs) H) :
    Fn P w K mg base CX0 (k + 1) f fd ps sp :=
  fun_qX F S len fun cdv A outer s H vs Q E hr hq hsp =>
    let ⟨t, h, q⟩ := hbody cdv A outer s H vs Q E hr hq hsp
    ⟨t, h.nox, q⟩
end

/-! ### calls -/
section
variable {X : Cx} {CX : CXT} {k : Nat} {f : Addr} {fd : FuncData} {ps : List Str} {sp : Sp} {E : XK}
theorem run_q {pins : List (Addr × Obj)} {σ : L2.St} {H : Hp} {s : Shared} {Q : VK} {us : List Value} {vs : List V}
    (F : Fn X.prog X.w X.K X.mg X.base CX k f fd ps sp) (hr : Room k X.A) (hq : Qt X.A) (hb : Binds X.K fd ps [])
    (hx : Passes CX X E) (I : Inv X pins σ H s) (r : Vals vs us) (h : sp vs H Q E) :
    wpAny (model X.prog X.w) X.A (call (.ref f) us) (EP X pins σ Q) X.xe s := by
  have hl : (us ++ []).length = ps.length := by
    rw [List.append_nil, ← r.length]
    exact F.len _ _ _ _ h
  have bt := hb s us I.kIn hl
  rw [List.append_nil] at bt
  refine wpAny_call (codeAny_mono (F.run X.A X.stack s H ⟨us, []⟩ us vs Q E hr hq I.env0 bt r h) fun r s' hs => ?_)
  match r, hs with
  | .error e, hs => exact hx pins σ H s e s' I hs
  | .ok (.ret u), hs => exact I.after hs
end

/-- a def of the module, told by its name -/
structure Gd (P : Program) (w : World) (K : PySem.W.Frag) (mg : Str → Option Value) (base : Heap)
    (CX : CXT) (k : Nat) (x : Str) (ps : List Str) (sp : Sp) : Prop where
  ex : ∃ (f : Addr) (fd : FuncData), mg x = some (.ref f) ∧ PySem.W.keepIn K (.ref f) = true ∧ Binds K fd ps [] ∧
    Fn P w K mg base CX k f fd ps sp
theorem Gd.mono {P : Program} {w : World} {K : PySem.W.Frag} {mg : Str → Option Value} {base : Heap} {CX : CXT} {j k : Nat}
    {x : Str} {ps : List Str} {sp : Sp} (G : Gd P w K mg base CX j x ps sp) (h : j ≤ k) : Gd P w K mg base CX k x ps sp :=
  let ⟨f, fd, a, b, c, d⟩ := G.ex
  ⟨f, fd, a, b, c, d.mono h⟩

section
variable {X : Cx} {CX : CXT} {k : Nat} {ps : List Str} {sp : Sp} {E : XK} {x : Str} {p pos : Pos} {e : Expr} {es : List Expr} {t : TA}
theorem pe_gX (G : Gd X.prog X.w X.K X.mg X.base CX k x ps sp) (hr : Room k X.A) (hq : Qt X.A) (hx : Passes CX X E)
    (ha : PA X (e :: es) t) (hg : Gl X x := by rfl) (hdb : (x == ("__debug__" : Str)) = false := by decide)
    (he : starEach (e :: es) X.env = (false, eval e X.env) :: starEach es X.env := by rfl)
    (hpl : (backTo pos (starEach es X.env)).any (·.1) = false := by rfl) :
    PE X (.Call (.Name x p) (e :: es) [] pos) (tCall sp [] E t) := by
  obtain ⟨f, fd, hm, hk, hb, F⟩ := G.ex
  constructor
  intro pins s σ H Q I h
  refine wpAny_Call_Name_kw (ld_glob I hg hm ?_ hdb)
  refine PySem.W.callWith_K (h₀ := X.base) I.ok.mod.kin hk ?_ he hpl
  refine thn (ha.run pos pins s σ H _ I h) fun us s1 ⟨vs, H1, I1, r, q⟩ => ⟨I1.kIn, ?_⟩
  have q2 : sp (vs ++ []) H1 Q E := q
  rw [List.append_nil] at q2
  exact run_q F hr hq hb hx I1 r q2
/-- f(e, ..), a def that raises nothing -/
theorem pe_g (G : Gd X.prog X.w X.K X.mg X.base CX0 k x ps sp) (hr : Room k X.A) (hq : Qt X.A)
    (ha : PA X (e :: es) t) (hg : Gl X x := by rfl) (hdb : (x == ("__debug__" : Str)) = false := by decide)
    (he : starEach (e :: es) X.env = (false, eval e X.env) :: starEach es X.env := by rfl)
    (hpl : (backTo pos (starEach es X.env)).any (·.1) = false := by rfl) :
    PE X (.Call (.Name x p) (e :: es) [] pos) (tCall sp [] E0 t) := pe_gX G hr hq pass0 ha hg hdb he hpl
end

/-! ### the end -/
/-- what law(script) promises -/
def spLaw (K : PySem.W.Frag) : Sp := fun vs H Q _ => ∃ (a : Addr) (ns : List Int), vs = [.ref a] ∧ SqL K H a (ns.map V.int) ∧ ns.length ≤ 63 ∧ ∀ H', Q (.bl true) H'

theorem law_end {P : Program} {w : World} {K : PySem.W.Frag} {mg mb : Str → Option Value} {k : Nat} {fa a : Addr} {fd : FuncData} {x : Str} {s₁ : Shared} {vs : List Value} {ns : List Int}
    (KX : K.In s₁.heap) (hns : s₁.heap.Ns mainGlobals mg) (hb : s₁.heap.Ns builtinsNs mb)
    (hbb : ∀ x : Str, x ≠ "__name__" → mb x = bootBuiltins x) (hlim : s₁.heap.NoLimit) (hg : s₁.gens = #[])
    (ha : s₁.heap.get? a = some { cls := .type "list", data := .seq vs.toArray }) (hi : IntsAre vs ns) (hl : ns.length ≤ 63)
    (hr : Room k callerA)
    (F : ∀ base : Heap, K.In base → base.Ns mainGlobals mg → Fn P w K mg base CX0 k fa fd [x] (spLaw K))
    (hbind : ∀ (s : Shared) (u : Value), BindsTo s fd ⟨[u], []⟩ [(x, u)]) :
    codeAny (model P w) callerA (.call (.ref fa) ⟨[.ref a], []⟩)
      (fun r s' => r = .ok (.ret (.bool true)) ∧ OldK s₁.heap s'.heap ∧ s'.os = s₁.os ∧ AllBare s'.gens) s₁ := by
  have rv := vals_ints hi
  have hz : ns.length ≤ sizeLine := Nat.le_trans hl (by decide)
  -- what holds from a heap in which nothing but the script is tracked
  have core : ∀ H : Hp, (∀ b, H b ≠ none → b = a ∧ K.lookup a = none) → (∀ b u, H b = some u → ∃ ob xs, u = .frz ob (.lst xs)) →
      SqL K H a (ns.map V.int) → HOk P w H s₁.heap →
      codeAny (model P w) callerA (.call (.ref fa) ⟨[.ref a], []⟩)
        (fun r s' => r = .ok (.ret (.bool true)) ∧ OldK s₁.heap s'.heap ∧ s'.os = s₁.os ∧ AllBare s'.gens) s₁ := by
    intro H hA hO hS hok
    have none_of : ∀ {b : Addr} {o : Obj} {es : Array DictEntry} {ep : Nat}, s₁.heap.get? b = some o → o.data = .dict es ep → H b = none := by
      intro b o es ep e d
      refine Classical.byContradiction fun q => ?_
      obtain ⟨rfl, _⟩ := hA b q
      cases Option.some.inj (ha.symm.trans e)
      cases d
    have nsK : ∀ {b : Addr} {m : Str → Option Value}, s₁.heap.Ns b m → (hidT s₁.heap H).Ns b m :=
      fun ⟨o, es, ep, e, d, r⟩ => ⟨o, es, ep, hidT_get e (none_of e d), d, r⟩
    have hKb : K.In (hidT s₁.heap H) := fun b o e => hidT_get (KX b o e) (Classical.byContradiction fun q => by
      obtain ⟨rfl, z⟩ := hA b q
      rw [z] at e
      cases e)
    have hM : Mod K mg (hidT s₁.heap H) :=
      ⟨hKb, nsK hns, ⟨mb, nsK hb, hbb⟩, let ⟨mc, h1, h2⟩ := hlim; ⟨mc, nsK h1, h2⟩⟩
    have e0 : Env0 P w K mg (hidT s₁.heap H) callerA [] s₁ H :=
      ⟨rfl, hM, fun b o e => of_hidT e, Nat.le_of_eq (hidT_size _ _), trivial, fun b hb => (nomatch (show b ∈ ([] : List Addr) from hb)), hok, .of_eq hg⟩
    have go := (F _ hKb (nsK hns)).run callerA [] s₁ H ⟨[.ref a], []⟩ [.ref a] [.ref a] (fun v _ => v = .bl true) (fun _ _ _ => False) hr rfl e0
      (hbind s₁ (.ref a)) (.cons rfl .nil) ⟨a, ns, rfl, hS, hl, fun _ => rfl⟩
    refine codeAny_mono go fun r s' h => ?_
    match r, h with
    | .ok (.ret u), h =>
      obtain ⟨v, H', os, bare, un, hok', r', q⟩ := h
      obtain rfl : v = .bl true := q
      obtain rfl : u = Value.bool true := r'
      refine ⟨rfl, OldK.of_keep fun b o e => ?_, os, bare⟩
      cases q : H b with
      | none => exact un.keep b o e q (fun z => nomatch (show b ∈ ([] : List Addr) from z)) (fun z => nomatch z)
      | some u =>
        obtain ⟨ob, xs, rfl⟩ := hO b u q
        obtain ⟨e1, _⟩ := hok b _ q
        obtain ⟨e2, _⟩ := hok' b _ (un.frzs b ob _ q)
        cases Option.some.inj (e.symm.trans e1)
        exact e2
  cases hk : K.lookup a with
  | some o =>
    -- the script is one of the module's own objects
    have e := (KX a o hk).symm.trans ha
    cases Option.some.inj e
    refine core (fun _ => none) (fun b z => absurd rfl z) (fun b u z => nomatch z) (.inr ⟨_, vs.toArray, _, hk, rfl, rfl, rfl, ?_, by simpa using rv⟩) (fun b u z => nomatch z)
    rw [List.size_toArray, hi.length]
    exact hz
  | none =>
    let ob : Obj := { cls := .type "list", data := .seq vs.toArray }
    have at_ : ∀ b u, (if b = a then some (HO.frz ob (.lst (ns.map V.int))) else none) = some u → b = a ∧ u = HO.frz ob (.lst (ns.map V.int)) := by
      intro b u z
      by_cases h : b = a
      · rw [if_pos h] at z
        exact ⟨h, (Option.some.inj z).symm⟩
      · rw [if_neg h] at z
        cases z
    refine core (fun b => if b = a then some (HO.frz ob (.lst (ns.map V.int))) else none) (fun b z => ?_) (fun b u z => ⟨_, _, (at_ b u z).2⟩) (.inl (.inr ⟨ob, if_pos rfl⟩)) (fun b u z => ?_)
    · by_cases h : b = a
      · exact ⟨h, hk⟩
      · exact absurd (if_neg h) z
    · obtain ⟨rfl, rfl⟩ := at_ b u z
      exact ⟨ha, (by rw [List.length_map]; exact hz), vs, _, rv, ha⟩

/-- the goal behind k_head, from the promise of law -/
theorem walk_end {l : PySem.W.OpenLaw} {k : Nat} {q : Program} {loose : List Str} {XP : (Str → Option Value) → Heap → Prop} {YP : World → Heap → Prop} {d : DefRec} {K : Params → PySem.W.Frag} {x : Str}
    (hn : l.most = some 63) (hdf : d.params.defaults = []) (hr : Room k callerA) (hY : ∀ (w : World) (h : Heap), YP w h → (K w.params).In h)
    (F : ∀ (w : World) (mg : Str → Option Value) (fa : Addr) (h : Heap), (K w.params).In h → h.Ns mainGlobals mg → mg d.name = some (.ref fa) →
      ∃ fd : FuncData, (∀ (s : Shared) (u : Value), BindsTo s fd ⟨[u], []⟩ [(x, u)]) ∧
        ∀ base : Heap, (K w.params).In base → base.Ns mainGlobals mg → Fn l.prog w (K w.params) mg base CX0 k fa fd [x] (spLaw (K w.params))) :
    PySem.W.WalkO q loose XP YP l.row.toRowW d [] (fun f vs => PySem.call f vs) := by
  refine Att.attach_call hn hdf ?_
  intro w s₀ s₁ mg mb fa o pm cd doc a vs ns G Y ho hd hcd hmg hobj hints hlen hg
  obtain ⟨fd, hb, hF⟩ := F w mg fa _ (hY w _ Y) G.T.g hmg
  exact law_end (hY w _ Y) G.T.g G.T.b G.T.builtins G.T.nolimit hg hobj hints hlen hr hF hb
end Q0

/-! Data of any depth in the abstract heap: None, bools, ints, texts, lists, tuples, empty dicts; what is written in the text; repr. -/
namespace Q0
open PySem PySem.Spec PyProof.Rows L2

theorem same_new {H : Hp} {p : Addr} (h : H p = none) (o : HO) : Same H (upd H p o) := fun b u q => by rw [upd_ne (ne_of_none q h)]; exact q

mutual
/-- v is the data d -/
inductive Dd (H : Hp) : V → PyData → Prop
  | non : Dd H .non .none
  | bl (b : Bool) : Dd H (.bl b) (.bool b)
  | int (i : Int) : Dd H (.int i) (.int i)
  | str (x : Str) : Dd H (.str x) (.str x)
  | lst {a : Addr} {xs : List V} {ds : List PyData} : H a = some (.lst xs) → a ≠ sysModules → DdA H xs ds → Dd H (.ref a) (.list ds)
  | tup {a : Addr} {xs : List V} {ds : List PyData} : H a = some (.tup xs) → DdA H xs ds → Dd H (.ref a) (.tuple ds)
  | dic {a : Addr} : H a = some (.dK []) → Dd H (.ref a) (.dict [])
inductive DdA (H : Hp) : List V → List PyData → Prop
  | nil : DdA H [] []
  | cons {v : V} {vs : List V} {d : PyData} {ds : List PyData} : Dd H v d → DdA H vs ds → DdA H (v :: vs) (d :: ds)
end
mutual
theorem Dd.mono {H H' : Hp} (s : Same H H') : ∀ {v : V} {d : PyData}, Dd H v d → Dd H' v d
  | _, _, .non => .non
  | _, _, .bl b => .bl b
  | _, _, .int i => .int i
  | _, _, .str x => .str x
  | _, _, .lst h n a => .lst (s _ _ h) n (DdA.mono s a)
  | _, _, .tup h a => .tup (s _ _ h) (DdA.mono s a)
  | _, _, .dic h => .dic (s _ _ h)
theorem DdA.mono {H H' : Hp} (s : Same H H') : ∀ {vs : List V} {ds : List PyData}, DdA H vs ds → DdA H' vs ds
  | _, _, .nil => .nil
  | _, _, .cons h t => .cons (Dd.mono s h) (DdA.mono s t)
end
theorem DdA.length {H : Hp} : ∀ {vs : List V} {ds : List PyData}, DdA H vs ds → vs.length = ds.length
  | _, _, .nil => rfl
  | _, _, .cons _ t => congrArg Nat.succ t.length
theorem DdA.get {H : Hp} : ∀ {vs : List V} {ds : List PyData} {i : Nat} {v : V}, DdA H vs ds → vs[i]? = some v → ∃ d, ds[i]? = some d ∧ Dd H v d
  | _, _, _, _, .nil, e => by simp at e
  | _, _, 0, _, .cons h _, e => by
    simp only [List.getElem?_cons_zero, Option.some.injEq] at e
    subst e
    exact ⟨_, rfl, h⟩
  | _, _, i + 1, _, .cons _ t, e => by
    obtain ⟨d, h1, h2⟩ := t.get (i := i) (by simpa using e)
    exact ⟨d, by simpa using h1, h2⟩
theorem DdA.append {H : Hp} : ∀ {vs ws : List V} {ds es : List PyData}, DdA H vs ds → DdA H ws es → DdA H (vs ++ ws) (ds ++ es)
  | _, _, _, _, .nil, s => s
  | _, _, _, _, .cons h t, s => .cons h (t.append s)

section
variable {X : Cx} {pins : List (Addr × Obj)} {σ : L2.St} {H : Hp} {s : Shared}
mutual
theorem Dd.reads (I : Inv X pins σ H s) : ∀ (d : PyData) (v : V) (u : Value), Dd H v d → RelV v u → ∃ as, Reads s.heap u d as ∧ sysModules ∉ as
  | .none, _, _, h, r => by
    cases h
    cases r
    exact ⟨_, Reads.none, fun z => nomatch z⟩
  | .bool b, _, _, h, r => by
    cases h
    cases r
    exact ⟨_, Reads.bool b, fun z => nomatch z⟩
  | .int i, _, _, h, r => by
    cases h
    obtain ⟨t, rfl⟩ := r
    exact ⟨_, Reads.int i t, fun z => nomatch z⟩
  | .str x, _, _, h, r => by
    cases h
    obtain ⟨t, rfl⟩ := r
    exact ⟨_, Reads.str x t, fun z => nomatch z⟩
  | .list ds, _, _, h, r => by
    cases h with
    | lst hs hn ha =>
      cases r
      obtain ⟨its, rv, ⟨o, n, ho, hc, _, hd⟩, _⟩ := I.list (SqL.of hs)
      obtain ⟨as, hr, ns⟩ := Dd.readsAll I ds _ its ha rv
      refine ⟨_, Reads.list ho hc hd hr, fun z => ?_⟩
      cases z with
      | head => exact hn rfl
      | tail _ z => exact ns z
  | .tuple ds, _, _, h, r => by
    cases h with
    | tup hs ha =>
      cases r
      obtain ⟨its, rv, ⟨o, ho, hc, n, hd⟩, _⟩ := I.tuple (SqT.of hs)
      obtain ⟨as, hr, ns⟩ := Dd.readsAll I ds _ its ha rv
      exact ⟨_, Reads.tuple ho hc hd hr, ns⟩
  | .dict kvs, _, _, h, r => by
    cases h with
    | dic hs =>
      cases r
      obtain ⟨_, hm, vs, kv, o, es, ep, h1, h2, h3, h4⟩ := dk_of I.hok hs
      cases kv
      have e0 : es = #[] := by
        have z := h4.2.1
        cases e : es.toList with
        | nil => exact Array.toList_inj.mp (by rw [e])
        | cons a l => rw [e] at z; exact absurd z (by first | exact fun q => nomatch q | simp [Pairs])
      subst e0
      refine ⟨_, Reads.dict (kvs := []) h1 h2.1 h3 ReadsAll.nil ReadsAll.nil, fun z => ?_⟩
      simp at z
      subst z
      simp at hm
theorem Dd.readsAll (I : Inv X pins σ H s) : ∀ (ds : List PyData) (vs : List V) (us : List Value), DdA H vs ds → Vals vs us → ∃ as, ReadsAll s.heap us ds as ∧ sysModules ∉ as
  | [], _, _, h, r => by
    cases h
    cases r
    exact ⟨_, ReadsAll.nil, fun z => nomatch z⟩
  | d :: ds, _, _, h, r => by
    cases h with
    | cons h1 h2 =>
      cases r with
      | cons r1 r2 =>
        obtain ⟨as, q1, n1⟩ := Dd.reads I d _ _ h1 r1
        obtain ⟨bs, q2, n2⟩ := Dd.readsAll I ds _ _ h2 r2
        exact ⟨_, ReadsAll.cons q1 q2, fun z => (List.mem_append.mp z).elim n1 n2⟩
end
end

section
variable {X : Cx}
/-- repr(x), x data -/
def rRepr : List V → Hp → VK → Prop := fun xs H Q => ∃ (v : V) (d : PyData), xs = [v] ∧ Dd H v d ∧ d.showable = true ∧ d.depth ≤ 60 ∧ d.shown.length ≤ sizeLine ∧ Q (.str d.shown) H
theorem call_repr (hq : Qt X.A) (hu : X.A.units + 64 < cLine) : CallR X (.builtin "repr") rRepr := by
  intro pins s σ H xs us Q I r h
  obtain ⟨v, d, rfl, hd, hs, hz, hl, q⟩ := h
  cases r with
  | cons rv rr =>
    cases rr
    rename_i u
    obtain ⟨as, hr, ns⟩ := Dd.reads I d v u hd rv
    cases hr with
    | none => exact PySem.P.repr_of_none ⟨.str _, H, I.tok _, ⟨_, rfl⟩, q⟩
    | bool b => exact PySem.P.repr_of_bool ⟨.str _, H, I.tok _, ⟨_, rfl⟩, q⟩
    | int i t => exact PySem.P.repr_of_int (by simpa [PyData.showable] using hs) ⟨.str _, H, I.tok _, ⟨_, rfl⟩, q⟩
    | str x t => exact PySem.P.repr_of_str ⟨.str _, H, I.tok _, ⟨_, rfl⟩, q⟩ hl
    | list h1 h2 h3 h4 =>
      exact repr_of_reads' (.list h1 h2 h3 h4) hs (fun _ => ns) hq (by omega) (fun _ _ e => e) (fun h' u tk hk => ⟨.str _, H, I.kept hk, ⟨_, rfl⟩, q⟩) hl
    | tuple h1 h2 h3 h4 =>
      exact repr_of_reads' (.tuple h1 h2 h3 h4) hs (fun _ => ns) hq (by omega) (fun _ _ e => e) (fun h' u tk hk => ⟨.str _, H, I.kept hk, ⟨_, rfl⟩, q⟩) hl
    | dict h1 h2 h3 h4 h5 =>
      exact repr_of_reads' (.dict h1 h2 h3 h4 h5) hs (fun _ => ns) hq (by omega) (fun _ _ e => e) (fun h' u tk hk => ⟨.str _, H, I.kept hk, ⟨_, rfl⟩, q⟩) hl
end

/-! ### displays of data: what is made stands at places that were free at the entry -/
/-- what stands in H' at places that are free in H0 -/
def news (H0 H' : Hp) : Hp := fun b => if H0 b = none then H' b else none
theorem news_some {H0 H' : Hp} {b : Addr} {o : HO} : news H0 H' b = some o ↔ H0 b = none ∧ H' b = some o := by
  unfold news
  by_cases h : H0 b = none
  · rw [if_pos h]
    exact ⟨fun q => ⟨h, q⟩, fun q => q.2⟩
  · rw [if_neg h]
    exact ⟨fun q => (nomatch q), fun q => absurd q.1 h⟩
theorem news_old {H0 H' : Hp} : Same (news H0 H') H' := fun b o q => (news_some.mp q).2
theorem news_same {H0 H1 H2 : Hp} (s : Same H1 H2) : Same (news H0 H1) (news H0 H2) := fun b o q => news_some.mpr ⟨(news_some.mp q).1, s b o (news_some.mp q).2⟩
/-- what stood still is no free place -/
def Bs (H0 H : Hp) : Prop := ∀ b, H b = none → H0 b = none
theorem Bs.refl {H : Hp} : Bs H H := fun _ q => q
theorem Bs.same {H0 H H' : Hp} (a : Bs H0 H) (s : Same H H') : Bs H0 H' := fun b q => a b (s.free q)
/-- what a reading wants ahead of a display, and keeps -/
def Stab (pre : L2.St → Hp → Prop) : Prop := ∀ σ H H', Same H H' → pre σ H → pre σ H'
def pT : L2.St → Hp → Prop := fun _ _ => True
def pV (H0 : Hp) (i : Nat) (d : PyData) : L2.St → Hp → Prop := fun σ H => ∃ v, σ[i]? = some (some v) ∧ Dd (news H0 H) v d
def pAnd (a b : L2.St → Hp → Prop) : L2.St → Hp → Prop := fun σ H => a σ H ∧ b σ H
theorem stab_T : Stab pT := fun _ _ _ _ h => h
theorem stab_V {H0 : Hp} {i : Nat} {d : PyData} : Stab (pV H0 i d) := fun _ _ _ s ⟨v, h1, h2⟩ => ⟨v, h1, h2.mono (news_same s)⟩
theorem stab_and {a b : L2.St → Hp → Prop} (ha : Stab a) (hb : Stab b) : Stab (pAnd a b) := fun σ H H' s ⟨h1, h2⟩ => ⟨ha σ H H' s h1, hb σ H H' s h2⟩
section
variable {X : Cx} {e : Expr} {es : List Expr} {t t' : TE} {H0 : Hp} {p1 p2 : L2.St → Hp → Prop}
theorem pe_imp (h : PE X e t) (i : ∀ σ H Q, t' σ H Q → t σ H Q) : PE X e t' := ⟨fun pins s σ H Q I q => h.run pins s σ H Q I (i σ H Q q)⟩
def tD (H0 : Hp) (pre : L2.St → Hp → Prop) (d : PyData) : TE := fun σ H Q => Bs H0 H ∧ pre σ H ∧ ∀ v H', Same H H' → Dd (news H0 H') v d → Q v H'
def tDs (H0 : Hp) (pre : L2.St → Hp → Prop) (ds : List PyData) : TA := fun σ H Q => Bs H0 H ∧ pre σ H ∧ ∀ vs H', Same H H' → DdA (news H0 H') vs ds → Q vs H'
variable {d : PyData} {ds : List PyData} {pos : Pos}
theorem da_of (h : PE X e t) (i : ∀ σ H Q, (∀ v, (∀ H', Dd H' v d) → Q v H) → t σ H Q) : PE X e (tD H0 pT d) := pe_imp h fun σ H Q q => i σ H Q fun v k => q.2.2 v H (Same.refl H) (k _)
theorem da_none {j : Nat} : PE X (.Constant .none j pos) (tD H0 pT .none) := da_of pe_non fun σ H Q q => q _ fun _ => .non
theorem da_bool {b : Bool} {j : Nat} : PE X (.Constant (.bool b) j pos) (tD H0 pT (.bool b)) := da_of pe_bl fun σ H Q q => q _ fun _ => .bl b
theorem da_int {i : Int} {j : Nat} : PE X (.Constant (.int i) j pos) (tD H0 pT (.int i)) := da_of pe_int fun σ H Q q => q _ fun _ => .int i
theorem da_str {x : Str} {j : Nat} : PE X (.Constant (.str x) j pos) (tD H0 pT (.str x)) := da_of pe_str fun σ H Q q => q _ fun _ => .str x
theorem da_var {i : Nat} (h : PE X e (tVar i)) : PE X e (tD H0 (pV H0 i d) d) := pe_imp h fun σ H Q ⟨_, ⟨v, h1, h2⟩, k⟩ => ⟨v, h1, k v H (Same.refl H) h2⟩
theorem da_nil : PA X [] (tDs H0 pT []) := ⟨fun pos pins s σ H Q I q => pa_nil.run pos pins s σ H Q I (q.2.2 _ _ (Same.refl H) .nil)⟩
theorem da_cons (st : Stab p2) (h : PE X e (tD H0 p1 d)) (hs : PA X es (tDs H0 p2 ds)) (he : starEach (e :: es) X.env = (false, eval e X.env) :: starEach es X.env := by rfl) : PA X (e :: es) (tDs H0 (pAnd p1 p2) (d :: ds)) :=
  ⟨fun pos pins s σ H Q I ⟨b, ⟨q1, q2⟩, k⟩ => (pa_cons h hs he).run pos pins s σ H Q I
    (show tD H0 p1 d σ H _ from ⟨b, q1, fun v H1 s1 h1 => show tDs H0 p2 ds σ H1 _ from ⟨b.same s1, st σ H H1 s1 q2, fun vs H2 s2 h2 => k _ _ (s1.trans s2) (.cons (h1.mono (news_same s2)) h2)⟩⟩)⟩
theorem at_new {H0 H : Hp} {p : Addr} {o : HO} (b : Bs H0 H) (n : H p = none) : news H0 (upd H p o) p = some o := news_some.mpr ⟨b p n, upd_same⟩
theorem da_tup {k} (h : PA X es (tDs H0 p1 ds)) (hl : ds.length ≤ sizeLine := by first | decide | (rw [sizeLine_eq]; simp only [List.length_cons, List.length_nil]; decide)) : PE X (.Tuple es k pos) (tD H0 p1 (.tuple ds)) :=
  pe_imp (pe_tup h) fun σ H Q ⟨b, q, k⟩ => show tDs H0 p1 ds σ H _ from ⟨b, q, fun vs H1 s1 h1 => ⟨by rw [h1.length]; exact hl, fun p hp => k _ _ (s1.trans (same_new hp _)) (.tup (at_new (b.same s1) hp) (h1.mono (news_same (same_new hp _))))⟩⟩
theorem da_lst (h : PA X es (tDs H0 p1 ds)) (hl : ds.length ≤ sizeLine := by first | decide | (rw [sizeLine_eq]; simp only [List.length_cons, List.length_nil]; decide)) : PE X (.List es pos) (tD H0 p1 (.list ds)) := by
  constructor
  rintro pins s σ H Q I ⟨b, q, k⟩
  refine wpAny_List_spliced (thn (h.run pos pins s σ H (fun vs H1 => Same H H1 ∧ DdA (news H0 H1) vs ds) I ⟨b, q, fun vs H1 s1 h1 => ⟨s1, h1⟩⟩) ?_)
  rintro us s1 ⟨vs, H1, I1, r, sm, h1⟩
  have z : vs.length ≤ sizeLine := by rw [h1.length]; exact hl
  have hf : H1 s1.heap.objs.size = none := I1.hok.fresh (Nat.le_refl _)
  refine ⟨by rw [← r.length]; exact z, .ref s1.heap.objs.size, upd H1 s1.heap.objs.size (.lst vs), I1.laid (t' := s1.toks) (fun b u e => Heap.get?_push_of_some _ e) (Nat.le_refl _) ?_, rfl,
    k _ _ (sm.trans (same_new hf _)) (.lst (at_new (b.same sm) hf) (Nat.ne_of_gt I1.big) (h1.mono (news_same (same_new hf _))))⟩
  exact ⟨z, us, 0, r, Heap.get?_push_size _ rfl⟩
theorem da_dict : PE X (.Dict [] [] pos) (tD H0 pT (.dict [])) := pe_imp pe_dnewK fun σ H Q ⟨b, _, k⟩ p hp => k _ _ (same_new hp _) (.dic (at_new b hp))
end
end Q0

/-! Own exceptions with an __init__ that keeps one field, as values: made by position and by name. -/
namespace PySem
namespace EK
open PySem.W PySem.Calls PyProof.Rows PySem.HandSPX Builtin Builtin.ObjectAttr
section
variable {M : Model} {A : Around} {E : Value → Shared → Prop} {h : Heap} {g : Array GenState} {d : Drawn} {t : Nat} {os : OsState}
  {nm q : Str} {C N : Addr} {bs bm bmB : List Value} {hdct : Bool} {sn : List Str} {sub : List Value} {ab : Bool} {col : Option Bool}
  {dd : Option Addr} {k0 k1 k2 k3 k5 : Option Value} {B newId initId : String} {kw : List (Str × Value)}

theorem check_new_kw (F : ExcBaseFacts B newId initId bmB) (hT : ∀ X : String, bm.contains (.type X) = bmB.contains (.type X))
    {Q : Unit → Shared → Prop} (hC : h.get? C = some (excClassObj nm q C N bs bm hdct sn sub ab col dd k0 k1 k2 k3 k5 newId))
    (hq : Q () ⟨h, g, d, t, os⟩) : wpAny M A (checkBuiltinCall newId ⟨[.ref C], kw⟩) Q E ⟨h, g, d, t, os⟩ := by
  have inB : (Value.ref C :: bm).contains (.type B) = true := by
    rw [List.contains_cons, hT, F.hasB, Bool.or_true]
  have ns := F.noStar
  simp only [checkBuiltinCall, F.newKind, F.newSplit, F.newRow]
  repeat (first
    | refine wpAny_loadPart_at hC ?_
    | (refine wpAny_isSubtype_exc hC ?_; rw [inB])
    | refine wpAny_staticBase_exc hC ?_
    | refine wpAny_madeBy_exc hC ?_
    | simp only [bne_self_eq_false, Bool.false_eq_true, if_false]
    | wp_step)
  exact hq
theorem check_type_call_kw {Q : Unit → Shared → Prop} (hC : h.get? C = some (excClassObj nm q C N bs bm hdct sn sub ab col dd k0 k1 k2 k3 k5 newId))
    (hq : Q () ⟨h, g, d, t, os⟩) : wpAny M A (checkBuiltinCall "type.__call__" ⟨[.ref C], kw⟩) Q E ⟨h, g, d, t, os⟩ := by
  have f3 := tc_sub
  have hT : (⟨h, g, d, t, os⟩ : Shared).TypeIs (.ref C) "type" := ⟨_, hC, rfl⟩
  simp only [checkBuiltinCall, tc_kind, tc_split]
  repeat (any_goals (first
    | assumption
    | with_reducible refine wpAny_loadPart_at hC ?_
    | with_reducible refine wpAny_onRaise ?_
    | with_reducible refine wpAny_map ?_
    | wp_step))
end
section
variable {prog : Program} {w : World} {A : Around} {E : Value → Shared → Prop} {R : Result → Shared → Prop} {h : Heap}
  {g : Array GenState} {d : Drawn} {t : Nat} {os : OsState} {nm q : Str} {C N : Addr} {bs bm bmB : List Value} {hdct : Bool}
  {sn : List Str} {sub : List Value} {ab : Bool} {col : Option Bool} {dd : Option Addr} {k0 k1 k2 k3 k5 : Option Value}
  {B newId initId : String} {kw : List (Str × Value)}

theorem new_kw (F : ExcBaseFacts B newId initId bmB) (hT : ∀ X : String, bm.contains (.type X) = bmB.contains (.type X))
    (hC : h.get? C = some (excClassObj nm q C N bs bm hdct sn sub ab col dd k0 k1 k2 k3 k5 newId))
    (hq : R (.ok (.ret (.ref (h.objs.size + 1)))) ⟨(h.push (W.kdv_tup [])).push (excO C h.objs.size), g, d, t, os⟩) :
    codeAny (model prog w) A (.builtin newId ⟨[.ref C], kw⟩) R ⟨h, g, d, t, os⟩ := by
  have ends := F.ends
  have inB : (Value.ref C :: bm).contains (.type B) = true := by
    rw [List.contains_cons, hT, F.hasB, Bool.or_true]
  have notA : (Value.ref C :: bm).contains (.type "AttributeError") = false := by
    rw [List.contains_cons, hT, F.noAttr]
    rfl
  have notN : (Value.ref C :: bm).contains (.type "NameError") = false := by
    rw [List.contains_cons, hT, F.noName]
    rfl
  refine codeAny_builtinAt F.entry ?_
  unfold Builtin.«BaseException.__new__»
  refine wpAt_bind ?_
  show wpAt _ _ _ (stack >>= _) _ _ _
  refine wpAt_bind (wpAt_stack fun p below => wpAt_of_wpAny ?_)
  wp_walk
  refine wpAt_of_wpAny ?_
  rw [F.owner]
  repeat (first
    | with_reducible refine wpAny_madeHere_exc F.canon hC ?_
    | with_reducible refine wpAny_loadPart_at hC ?_
    | (with_reducible refine wpAny_isSubtype_exc hC ?_; first | rw [inB] | rw [notA] | rw [notN])
    | wp_step)
  show R _ _
  rw [Heap.size_push]
  exact hq

theorem type_call_kw (F : ExcBaseFacts B newId initId bmB) (hT : ∀ X : String, bm.contains (.type X) = bmB.contains (.type X))
    {fI : Addr} {Q : Fin → Shared → Prop} (hC : h.get? C = some (excClassObj nm q C N bs bm hdct sn sub ab col dd k0 k1 k2 k3 k5 newId))
    (hi : W.Looks (model prog w) h (typeLookup (.ref C) "__init__") (some (.ref fI)))
    (hb : ∀ self, W.Looks (model prog w) h (bindSpecial (.ref fI) self) (.ref fI, [self]))
    (hq : codeAny (model prog w) A (.call (.ref fI) ⟨[.ref (h.objs.size + 1)], kw⟩)
      (fun r s' => match r with
        | .ok (.ret v) => v = .none ∧ Q (.done (.ret (.ref (h.objs.size + 1)))) s'
        | .ok _ => False
        | .error e => E e s')
      ⟨(h.push (W.kdv_tup [])).push (excO C h.objs.size), g, d, t, os⟩) :
    wpAny (model prog w) A (Builtin.«type.__call__» ⟨[.ref C], kw⟩) Q E ⟨h, g, d, t, os⟩ := by
  repeat (first
    | with_reducible refine wpAny_loadPart_at hC ?_
    | with_reducible refine wpAny_madeBy_exc hC ?_
    | wp_step)
  refine codeAny_call_builtin_code (Code.quiet_builtin _ F.quiet) (check_new_kw F hT hC ?_)
  refine new_kw F hT hC ?_
  show wpAny _ _ _ _ _ _
  have k : ∀ b o, h.get? b = some o → ((h.push (W.kdv_tup [])).push (excO C h.objs.size)).get? b = some o :=
    fun b o e => Heap.get?_push_of_some _ (Heap.get?_push_of_some _ e)
  have hC1 := k _ _ hC
  have self : ((h.push (W.kdv_tup [])).push (excO C h.objs.size)).get? (h.objs.size + 1) = some (excO C h.objs.size) := by heap_get
  have own : (Value.ref C :: bm).contains (.ref C) = true := by simp
  have i1 := hi.keeps k
  have b1 := (hb (.ref (h.objs.size + 1))).keeps k
  unfold isInstance
  repeat (first
    | with_reducible refine wpAny_loadPart_at self ?_
    | (with_reducible refine wpAny_isSubtype_exc hC1 ?_; rw [own])
    | wp_step)
  show wpAny _ _ (typeLookup (.ref C) _) _ _ _
  refine i1.at ?_
  refine wpAny_holding (wpAny_bind (b1.at ?_))
  refine wpAny_bind (wpAny_call (codeAny_mono hq fun r s' z => ?_))
  match r, z with
  | .error e, z => exact z
  | .ok (.ret v), ⟨e, z⟩ =>
    subst e
    first
      | exact wpAny_pure (wpAny_pure z)
      | (wp_walk; exact z)

/-- C(f = v, ..), C an own exception class with its own __init__ -/
theorem call_kw (F : ExcBaseFacts B newId initId bmB) (hT : ∀ X : String, bm.contains (.type X) = bmB.contains (.type X)) {fI : Addr}
    (hC : h.get? C = some (excClassObj nm q C N bs bm hdct sn sub ab col dd k0 k1 k2 k3 k5 newId))
    (hi : W.Looks (model prog w) h (typeLookup (.ref C) "__init__") (some (.ref fI)))
    (hb : ∀ self, W.Looks (model prog w) h (bindSpecial (.ref fI) self) (.ref fI, [self]))
    (hq : codeAny (model prog w) (A.under (.builtin "type.__call__" ⟨[.ref C], kw⟩)) (.call (.ref fI) ⟨[.ref (h.objs.size + 1)], kw⟩)
      (W.InitBack (h.objs.size + 1) R) ⟨(h.push (W.kdv_tup [])).push (excO C h.objs.size), g, d, t, os⟩) :
    codeAny (model prog w) A (.call (.ref C) ⟨[], kw⟩) R ⟨h, g, d, t, os⟩ := by
  have f1 := tc_lookup
  have f2 := tc_bind (.ref C)
  have hTy : (⟨h, g, d, t, os⟩ : Shared).TypeIs (.ref C) "type" := ⟨_, hC, rfl⟩
  refine codeAny_of_tree ?_
  show wpAny _ _ (callAny (.ref C) _) _ _ _
  repeat (any_goals (first | assumption | with_reducible refine wpAny_loadPart_at hC ?_ | wp_step))
  refine ⟨rfl, ?_⟩
  refine codeAny_call_builtin_at (Code.quiet_builtin _ (by decide +kernel)) entry_typeCall (check_type_call_kw hC (type_call_kw F hT hC hi hb ?_))
  refine codeAny_mono hq fun r s' z => ?_
  rcases r with e | (v | _ | _ | _) <;> exact z
end
end EK
end PySem

/-! Sets of texts: set(list), len, sorted. -/
namespace Q0
open PySem PySem.Spec PyProof.Rows L2

/-- one more text, if it is not there -/
def ins (k : Str) (L : List Str) : List Str := if k ∈ L then L else k :: L
theorem ins_nodup {k : Str} {L : List Str} (d : L.Nodup) : (ins k L).Nodup := by
  unfold ins; split
  · exact d
  · exact List.nodup_cons.mpr ⟨by assumption, d⟩
theorem ins_len {k : Str} {L : List Str} : (ins k L).length ≤ L.length + 1 := by unfold ins; split <;> simp
theorem mem_ins' {k x : Str} {L : List Str} : x ∈ ins k L ↔ x = k ∨ x ∈ L := by
  unfold ins; split
  · rename_i c
    exact ⟨.inr, fun z => z.elim (fun e => e ▸ c) id⟩
  · exact List.mem_cons

/-- an entry of a set of texts, and its text -/
def TxE (w : World) (e : Int × Value) : Prop := ∃ x tk, e.2 = Value.str x tk ∧ e.1 = hashStr w x
def txOf (e : Int × Value) : Str := match e.2 with | .str x _ => x | _ => Str.empty
/-- at a stands the set of the texts L; it can be walked -/
structure TxAt (w : World) (a : Addr) (o : Obj) (es : Array (Int × Value)) (ep : Nat) (t : SetTable) (L : List Str) : Prop where
  ex : o.ExactSet
  dt : o.data = .set es ep t
  en : ∀ e ∈ es.toList, TxE w e
  nd : L.Nodup
  pm : (es.toList.map txOf).Perm L
  lt : es.size < scanBound
  ft : t.fits es.size = true
  rs : Ris t.place.toList
  ld : w.params.followText "set-order" = true ∨ t.led = true
def TxSet (w : World) (h : Heap) (a : Addr) (L : List Str) : Prop := ∃ o es ep t, h.get? a = some o ∧ TxAt w a o es ep t L

section
variable {P : Program} {w : World} {h h' : Heap} {a : Addr} {L : List Str}
theorem TxSet.at (R : TxSet w h a L) (k : ∀ o, h.get? a = some o → h'.get? a = some o) : TxSet w h' a L :=
  let ⟨o, es, ep, t, e, r⟩ := R
  ⟨o, es, ep, t, k o e, r⟩
theorem TxSet.nodup (R : TxSet w h a L) : L.Nodup := let ⟨_, _, _, _, _, r⟩ := R; r.nd
theorem tx_is {e : Int × Value} (g : TxE w e) (k : Str) : (PySem.strKind P w).is k e.2 = true ↔ txOf e = k := by
  obtain ⟨x, tk, e1, _⟩ := g
  have e2 : txOf e = x := by unfold txOf; rw [e1]
  rw [e1, e2]
  constructor
  · intro q
    exact (PySem.strKind P w).inj _ _ _ (strKind_is P w x tk) q
  · rintro rfl
    exact strKind_is P w _ tk
theorem tx_elems {l : List (Int × Value)} (g : ∀ e ∈ l, TxE w e) : ElemsOf (PySem.strKind P w) l := fun e he => by
  obtain ⟨x, tk, e1, e2⟩ := g e he
  exact ⟨⟨x, by rw [e1]; exact strKind_is P w x tk, e2⟩, by rw [e1] <;> rfl⟩
theorem tx_mem {l : List (Int × Value)} (g : ∀ e ∈ l, TxE w e) (k : Str) : (∃ e ∈ l, (PySem.strKind P w).is k e.2 = true) ↔ k ∈ l.map txOf := by
  rw [List.mem_map]
  exact ⟨fun ⟨e, m, q⟩ => ⟨e, m, (tx_is (g e m) k).1 q⟩, fun ⟨e, m, q⟩ => ⟨e, m, (tx_is (g e m) k).2 q⟩⟩
end

section
variable {P : Program} {w : World} {A : Around} {E : Value → Shared → Prop} {s : Shared} {a : Addr} {L : List Str}
theorem put_at {h : Heap} {o : Obj} {es es' : Array (Int × Value)} {ep : Nat} {t t' : SetTable} (ho : h.get? a = some o) (hd : o.data = .set es ep t) :
    (h.update a (Obj.putSet es' t')).get? a = some { o with data := .set es' (ep + 1) t' } := by
  rw [Heap.get?_update_self (Obj.putSet es' t') ho (by rw [putSet_of es' t' hd]; rfl), putSet_of es' t' hd]
/-- the entries and their table are stored; where it got full it is laid anew -/
theorem tx_tail {g : Bool → Sem Unit} (hg : ∀ (b : Bool) (z : Shared) (Q' : Unit → Shared → Prop), Q' () z → wpAny (model P w) A (g b) Q' E z)
    {o : Obj} {es : Array (Int × Value)} {ep : Nat} {t : SetTable} (ho : s.heap.get? a = some o) (hx : o.ExactSet) (hd : o.data = .set es ep t)
    {fs : Array (Int × Value)} {u : SetTable} (en : ∀ e ∈ fs.toList, TxE w e) (nd : L.Nodup) (pm : (fs.toList.map txOf).Perm L)
    (lt : fs.size < scanBound) (ft : u.fits fs.size = true) (rs : Ris u.place.toList) (ld : w.params.followText "set-order" = true ∨ u.led = true) {dm : Bool} {R : Option Bool → Shared → Prop}
    (k : ∀ h', Heap.SameBut a s.heap h' → TxSet w h' a L → R (some true) { s with heap := h' }) :
    wpAny (model P w) A (do
        storeSet a fs u
        if (!dm && u.tooFull) = true then do
            g (relayAll u fs (SetTable.grown fs.size)).2.2
            storeSet a (relayAll u fs (SetTable.grown fs.size)).1 (relayAll u fs (SetTable.grown fs.size)).2.1
            pure (some true)
          else pure (some true)) R E s := by
  refine wpAny_bind (wpAny_storeSet_of ho hd ?_ (fits_of_scanBound lt))
  have e1 := put_at (es' := fs) (t' := u) ho hd
  have b1 := Heap.SameBut.update s.heap a (Obj.putSet fs u)
  by_cases c : (!dm && u.tooFull) = true
  · rw [if_pos c]
    have p3 := relayAll_perm u fs (SetTable.grown fs.size)
    have f3 := relayAll_fits u fs (SetTable.grown fs.size)
    have r3 := relayAll_ris u fs (SetTable.grown fs.size)
    have l3 := relayAll_led u fs (SetTable.grown fs.size)
    revert p3 f3 r3 l3
    generalize relayAll u fs (SetTable.grown fs.size) = Z
    obtain ⟨gs, v, gave⟩ := Z
    intro p3 f3 r3 l3
    have z3 : gs.size = fs.size := by have := p3.length_eq; simpa using this
    refine wpAny_bind (hg _ _ _ (wpAny_bind (wpAny_storeSet_of e1 rfl ?_ (fits_of_scanBound (by show gs.size < _; omega)))))
    refine wpAny_pure (k _ (b1.trans (Heap.SameBut.update _ a _)) ⟨_, gs, _, v, put_at e1 rfl, hx, rfl, fun e m => en e (p3.mem_iff.mp m), nd, (p3.map txOf).trans pm, by omega, f3, r3, ?_⟩)
    exact ld.imp id fun q => l3.trans q
  · rw [if_neg c]
    exact wpAny_pure (k _ b1 ⟨_, fs, _, u, e1, hx, rfl, en, nd, pm, lt, ft, rs, ld⟩)
/-- a text is added by its hash -/
theorem tx_add {k : Str} {tk : Tok} {Q : Bool → Shared → Prop} (T : TxSet w s.heap a L) (room : L.length + 1 < scanBound)
    (q : ∀ (b : Bool) h', Heap.SameBut a s.heap h' → TxSet w h' a (ins k L) → Q b { s with heap := h' }) :
    wpAny (model P w) A (setAddHashed a (.str k tk) ((PySem.strKind P w).hash k)) Q E s := by
  obtain ⟨o, es, ep, t, ho, ⟨hx, hd, en, nd, pm, lt, ft, rs, ld⟩⟩ := T
  have kk := strKind_is P w k tk
  have sc : (Value.str k tk).scannable = true := rfl
  have el : ElemsOf (PySem.strKind P w) es.toList := tx_elems en
  have sz : es.size = L.length := by have := pm.length_eq; simpa using this
  unfold setAddHashed setAddHashedIn
  refine wpAny_holding (wpAny_bind (wpAny_setState_of ho hd ft ?_))
  dsimp only
  rw [byScan_of sc lt el]
  simp only [↓reduceIte]
  unfold setAddByScan
  refine wpAny_bind (wpAny_bind (wpAny_rule (wpAny_bind (wpAny_setScan_of kk ho hd ft el ?_))))
  cases f : List.findIdx? (fun e => (PySem.strKind P w).is k e.2) es.toList with
  | some j =>
    obtain ⟨hj, pj, _⟩ := List.findIdx?_eq_some_iff_getElem.mp f
    have m : k ∈ L := pm.mem_iff.mp ((tx_mem (P := P) en k).1 ⟨es.toList[j], List.getElem_mem hj, pj⟩)
    refine wpAny_pure (wpAny_pure (q _ s.heap (Heap.SameBut.refl a s.heap) ⟨o, es, ep, t, ho, hx, hd, en, ?_, ?_, lt, ft, rs, ld⟩))
    · unfold ins; rw [if_pos m]; exact nd
    · unfold ins; rw [if_pos m]; exact pm
  | none =>
    have m : k ∉ L := fun z => by
      obtain ⟨e, me, c⟩ := (tx_mem (P := P) en k).2 (pm.mem_iff.mpr z)
      exact absurd (c.symm.trans (List.findIdx?_eq_none_iff.mp f e me)) (fun y => nomatch y)
    have gw : ∀ (b : Bool) (z : Shared) (Q' : Unit → Shared → Prop), Q' () z → wpAny (model P w) A (match b with | true => rule "set.scan.the-table-gave-way" | false => pure ()) Q' E z := by
      intro b z Q' y
      cases b
      · exact wpAny_pure y
      · exact wpAny_rule y
    have p1 := layNew_perm t es ((PySem.strKind P w).hash k) (.str k tk)
    have f1 := layNew_fits t es ((PySem.strKind P w).hash k) (.str k tk)
    have r1 := layNew_ris t es ((PySem.strKind P w).hash k) (.str k tk) rs
    have l1 := layNew_led t es ((PySem.strKind P w).hash k) (.str k tk)
    revert p1 f1 r1 l1
    dsimp only
    generalize layNew t es ((PySem.strKind P w).hash k) (.str k tk) = Z
    obtain ⟨fs, u, dm, gave⟩ := Z
    intro p1 f1 r1 l1
    dsimp only at p1 f1 r1 l1 ⊢
    have pc : fs.toList.Perm (((PySem.strKind P w).hash k, Value.str k tk) :: es.toList) := (by rw [Array.toList_push] at p1; exact p1.trans (List.perm_append_singleton _ _))
    have en1 : ∀ e ∈ fs.toList, TxE w e := fun e me => by
      rcases List.mem_cons.mp (pc.mem_iff.mp me) with y | y
      · subst y; exact ⟨k, tk, rfl, rfl⟩
      · exact en e y
    have ei : ins k L = k :: L := by unfold ins; rw [if_neg m]
    have pm1 : (fs.toList.map txOf).Perm (ins k L) := by
      rw [ei]
      exact (pc.map txOf).trans (pm.cons k)
    have sz1 : fs.size = es.size + 1 := by have := pc.length_eq; simpa using this
    have ld1 : w.params.followText "set-order" = true ∨ u.led = true := ld.imp id fun y => l1.trans y
    refine wpAny_bind (gw _ _ _ ?_)
    split
    · refine wpAny_bind ?_
      rw [hashByValue_scannable 8 sc]
      refine wpAny_pure (tx_tail (L := ins k L) gw ho hx hd en1 (ins_nodup nd) pm1 (by omega) ?_ ?_ ?_ fun h' sb r => ?_)
      · first | exact f1 | (split <;> first | exact f1 | exact SetTable.fits_plain_off f1)
      · first | exact r1 | (split <;> exact r1)
      · first | exact ld1 | (split <;> exact ld1)
      · dsimp only; exact wpAny_pure (q _ h' sb r)
    · refine wpAny_bind (wpAny_pure ?_)
      simp only [↓reduceIte]
      refine tx_tail (L := ins k L) gw ho hx hd en1 (ins_nodup nd) pm1 (by omega) f1 r1 ld1 fun h' sb r => ?_
      dsimp only; exact wpAny_pure (q _ h' sb r)
end
end Q0

/-! set(list of texts), and what is done with it. -/
namespace Q0
open PySem PySem.Spec PyProof.Rows L2

/-- the texts, each once -/
def once : List Str → List Str → List Str
  | L, [] => L
  | L, x :: xs => once (ins x L) xs
theorem once_snoc : ∀ (xs L : List Str) (y : Str), once L (xs ++ [y]) = ins y (once L xs)
  | [], _, _ => rfl
  | x :: xs, L, y => once_snoc xs (ins x L) y
theorem once_len : ∀ (xs L : List Str), (once L xs).length ≤ L.length + xs.length
  | [], _ => Nat.le_refl _
  | x :: xs, L => by
    have h1 := once_len xs (ins x L)
    have h2 := ins_len (k := x) (L := L)
    simp only [once, List.length_cons]
    omega
theorem once_eq : ∀ (xs L : List Str), (once L xs).length = L.length + xs.length ↔ xs.Nodup ∧ ∀ x ∈ xs, x ∉ L
  | [], L => by simp [once]
  | x :: xs, L => by
    have h1 := once_len xs (ins x L)
    have ih := once_eq xs (ins x L)
    simp only [once, List.length_cons, List.nodup_cons]
    by_cases c : x ∈ L
    · have e : ins x L = L := if_pos c
      rw [e] at h1 ⊢
      constructor
      · intro q; omega
      · rintro ⟨_, q⟩
        exact absurd c (q x (List.mem_cons_self ..))
    · have e : ins x L = x :: L := if_neg c
      rw [e, List.length_cons] at ih
      rw [e]
      rw [show L.length + (xs.length + 1) = L.length + 1 + xs.length by omega, ih]
      constructor
      · rintro ⟨d, q⟩
        refine ⟨⟨fun z => q x z (List.mem_cons_self ..), d⟩, fun y hy => ?_⟩
        rcases List.mem_cons.mp hy with z | z
        · exact z ▸ c
        · exact fun m => q y z (List.mem_cons_of_mem _ m)
      · rintro ⟨⟨m, d⟩, q⟩
        refine ⟨d, fun y hy z => ?_⟩
        rcases List.mem_cons.mp z with z | z
        · exact m (z ▸ hy)
        · exact q y (List.mem_cons_of_mem _ hy) z
/-- as many as there are: no text twice -/
theorem once_nodup (xs : List Str) : (once [] xs).length = xs.length ↔ xs.Nodup := by
  have h := once_eq xs []
  simpa using h

/-- a new set, as it stands in the heap -/
abbrev nset (w : World) : Obj := { cls := .type "set", dict := none, data := .set #[] 0 (.fresh 0 0 (!w.params.followText "set-order")) }
theorem nset_at {w : World} {h : Heap} {a : Addr} (e : h.get? a = some (nset w)) : TxSet w h a [] :=
  ⟨_, #[], 0, _, e, ⟨rfl, rfl, rfl⟩, rfl, fun _ m => (by simp at m), List.nodup_nil, List.Perm.refl _, by decide, rfl, List.Pairwise.nil, by
    cases q : w.params.followText "set-order"
    · exact .inr (by simp [SetTable.fresh])
    · exact .inl rfl⟩
section
variable {P : Program} {w : World} {A : Around} {E : Value → Shared → Prop} {s : Shared}
theorem strs_get : ∀ {us : List Value} {xs : List Str}, StrsAre us xs → ∀ (i : Nat) (v : Value), us[i]? = some v → ∃ x t, xs[i]? = some x ∧ v = .str x t
  | _, _, .nil, i, v, h => by simp at h
  | _, _, .cons x t hr, 0, v, h => by
    simp only [List.getElem?_cons_zero, Option.some.injEq] at h
    exact ⟨x, t, rfl, h.symm⟩
  | _, _, .cons x t hr, i + 1, v, h => strs_get hr i v (by simpa using h)
/-- one by one -/
theorem tx_loop {I : Addr} {fp wr : List Addr} {G : Array GenState → Array GenState → Prop} {n : Nat} {Pv : Nat → Value → Prop} {St : Nat → Shared → Prop} {R : Result → Shared → Prop}
    (W : WalksS P w A.in1 I fp wr G n Pv St) (S : Addr) (nS : S ∉ fp) (xs : List Str) (en : n = xs.length) (room : xs.length + 1 < scanBound) (hv : ∀ i v, Pv i v → ∃ x t, xs[i]? = some x ∧ v = .str x t) :
    ∀ (k i : Nat) (s : Shared), n - i = k → i ≤ n → St i s → TxSet w s.heap S (once [] (xs.take i)) →
      (∀ s', Moved (S :: wr) G s s' → TxSet w s'.heap S (once [] xs) → R (.ok (.ret .none)) s') →
      codeAny (model P w) A (.builtin "set.update.loop" ⟨[.ref S, .ref I], []⟩) R s := by
  have nW : S ∉ wr := fun m => nS (W.sub _ m)
  have sb : ∀ b ∈ wr, b ∈ S :: wr := fun b m => List.mem_cons_of_mem _ m
  intro k
  induction k with
  | zero =>
    intro i s ek hi st T hR
    obtain rfl : i = n := by omega
    refine codeAny_builtin F.entry_set_update_loop ?_
    rw [Around.under_plainId F.plain_set_update_loop _]
    show wpAny _ A.in1 (pyNext (.ref I) >>= _) _ _ s
    refine wpAny_bind (W.done s _ _ st fun z mv => ?_)
    rw [List.take_of_length_le (by omega)] at T
    exact wpAny_pure (hR z (mv.mono sb) (T.at fun o e => mv.heap S o nW e))
  | succ k ih =>
    intro i s ek hi st T hR
    have lt : i < n := by omega
    refine codeAny_builtin F.entry_set_update_loop ?_
    rw [Around.under_plainId F.plain_set_update_loop _]
    show wpAny _ A.in1 (pyNext (.ref I) >>= _) _ _ s
    refine wpAny_bind (W.item i s _ _ lt st fun v z pv st' mv => ?_)
    obtain ⟨x, t, hx, rfl⟩ := hv i v pv
    have T' : TxSet w z.heap S (once [] (xs.take i)) := T.at fun o e => mv.heap S o nW e
    show wpAny _ A.in1 (holding [Value.str x t] (setAdd S (.str x t)) >>= _) _ _ z
    refine wpAny_bind (wpAny_holding ?_)
    unfold setAdd
    refine wpAny_holding (wpAny_bind ((PySem.strKind P w).pyHash (k := x) (strKind_is _ _ _ _) ?_))
    have few : (once [] (xs.take i)).length + 1 < scanBound := by
      have q1 := once_len (xs.take i) []
      have q2 := List.length_take_le i xs
      simp only [List.length_nil] at q1
      omega
    refine tx_add (s := { z with toks := z.toks + 1 }) T' few fun _ h' same T2 => ?_
    have T3 : TxSet w h' S (once [] (xs.take (i + 1))) := by
      rw [List.take_add_one, hx]
      show TxSet w h' S (once [] (xs.take i ++ [x]))
      rw [once_snoc]
      exact T2
    refine wpAny_pure ⟨plainId_quiet F.plain_set_update_loop _, ih (i + 1) _ (by omega) lt (W.frame _ z _ _ st' (Nat.le_succ _) fun b m o e => ?_) T3 fun y mv2 T4 => ?_⟩
    · exact (same.2 b fun q : b = S => nS (q ▸ m)).trans e
    · refine hR y (Moved.trans W.gtrans ((mv.mono sb).then_heap (Nat.le_succ _) fun b o m e => ?_) mv2) T4
      exact (same.2 b fun q : b = S => m (by rw [q]; exact List.mem_cons_self)).trans e

set_option maxHeartbeats 6400000 in
/-- set(l), l a list of texts -/
theorem tx_call {l : Addr} {its : Array Value} (xs : List Str) {Q : Value → Shared → Prop} (hh : A.handled = none) (hl : s.heap.IsList l its) (hi : StrsAre its.toList xs) (room : xs.length + 1 < scanBound)
    (q : ∀ (h' : Heap) (tk : Nat), TxSet w h' s.heap.objs.size (once [] xs) → (∀ b o, s.heap.get? b = some o → h'.get? b = some o) → Q (.ref s.heap.objs.size) { s with heap := h', toks := tk }) :
    wpAny (model P w) A (call (.type "set") [.ref l]) Q E s := by
  have sz : xs.length = its.size := by rw [← StrsAre.len_eq hi, Array.length_toList]
  obtain ⟨c, tl, hmro⟩ := F.called_set.mro
  have f1 := F.called_set.made
  have f2 := F.called_set.sub
  refine wpAny_call (codeAny_of_tree ?_)
  show wpAny _ _ (callAny (.type "set") _) _ _ _
  refine wpAny_pure ⟨Code.quiet_builtin _ (by decide +kernel), codeAny_builtin F.entry_type_call ?_⟩
  rw [Around.under_plain (weight_type_call_type "set" [.ref l] []) rfl]
  have f3 := F.called_set.notType
  have f4 := F.called_set.canCreate
  have f5 := F.typeCall_set_1 (.ref l)
  repeat (any_goals (first | assumption | wp_step))
  refine codeAny_mono (code_set_led1 (.ref l) (E := E) (Q₁ := fun u z => u = .ref s.heap.objs.size ∧ z = { s with heap := s.heap.push (nset w) }) ⟨rfl, rfl⟩) fun r z hr => ?_
  match r, hr with
  | .error e, hr => exact hr
  | .ok (.ret u), hr =>
    obtain ⟨rfl, rfl⟩ := hr
    have eS : (s.heap.push (nset w)).get? s.heap.objs.size = some (nset w) := Heap.get?_push_size _ rfl
    have tS : Shared.TypeIs { s with heap := s.heap.push (nset w) } (.ref s.heap.objs.size) "set" := ⟨_, eS, rfl⟩
    have f6 := F.called_set.init.lookup
    have f7 := F.called_set.init.bind (.ref s.heap.objs.size)
    repeat (any_goals (first | assumption | wp_step))
    refine codeAny_mono (codeAny_call_builtin (R := wants (fun r y => r = .none ∧ ∃ h' tk, y = { s with heap := h', toks := tk } ∧ TxSet w h' s.heap.objs.size (once [] xs) ∧
        (∀ b o, s.heap.get? b = some o → h'.get? b = some o)) E) F.called_set.init.plain F.entry_set_init (check_set_init_1 tS ?_)) fun r y hr2 => ?_
    · obtain ⟨⟨kc, kd, kt, ks⟩, e1, e2, m, e3⟩ := hl
      simp only at e2 e3
      subst e2 e3
      have e4 : (s.heap.push (nset w)).get? l = some { cls := .type "list", dict := kd, data := .seq its m, slots := ks } := Heap.get?_push_of_some _ e1
      have g1 := F.sub_list_set
      have g2 := F.sub_list_frozenset
      have g3 : (Value.type "list" == Value.type "dict") = false := by decide
      have l1 : (s.heap.push (nset w)).IsList l its := ⟨_, e4, rfl, m, rfl⟩
      unfold Builtin.«set.__init__» noKeywords Builtin.Frozenset.updateFrom
      generalize ePI : pyIter = PI
      wp_walk
      subst ePI
      refine wpAny_pyIter_list l1 (wpAny_bind (wpAny_runValue ?_))
      have lS : l < s.heap.objs.size := Heap.lt_size e1
      have h3 : A.in1.in1.in1.handled = none := by simp [hh]
      have z1 : (s.heap.push (nset w)).objs.size = s.heap.objs.size + 1 := Heap.size_push ..
      have n1 : l ≠ (s.heap.push (nset w)).objs.size := by rw [z1]; exact Nat.ne_of_lt (Nat.lt_succ_of_lt lS)
      have n2 : s.heap.objs.size ∉ [(s.heap.push (nset w)).objs.size, l] := by
        rw [z1]
        intro m
        rcases List.mem_cons.mp m with m | m
        · exact absurd m (Nat.ne_of_lt (Nat.lt_succ_self _))
        · exact absurd (List.mem_singleton.mp m) (Nat.ne_of_gt lS)
      refine tx_loop ((Walks.list h3 _ l n1 its).toS) s.heap.objs.size n2 xs sz.symm room (fun i v e => strs_get hi i v (by rw [Array.getElem?_toList]; exact e)) (its.size - 0) 0 _ (by omega) (Nat.zero_le _)
        ⟨⟨_, Heap.get?_push_size _ rfl, rfl, rfl⟩, (l1.push _)⟩ (nset_at (Heap.get?_push_of_some _ eS)) fun y mv T => ?_
      obtain ⟨h', g', d', tk', os'⟩ := y
      obtain rfl : g' = s.gens := mv.gens
      obtain rfl : d' = s.drawn := mv.drawn
      obtain rfl : os' = s.os := mv.os
      show wpAny _ _ _ _ _ _
      refine wpAny_pure ?_
      show wpAny _ _ (ret Value.none) _ _ _
      refine wpAny_pure ⟨rfl, h', tk', rfl, T, fun b o e => ?_⟩
      have b0 : b < s.heap.objs.size := Heap.lt_size e
      refine mv.heap b o (fun m => ?_) (Heap.get?_push_of_some _ (Heap.get?_push_of_some _ e))
      rcases List.mem_cons.mp m with m | m
      · exact absurd m (Nat.ne_of_lt b0)
      · have m := List.mem_singleton.mp m
        rw [z1] at m
        exact absurd m (Nat.ne_of_lt (Nat.lt_succ_of_lt b0))
    · match r, hr2 with
      | .error e, hr2 => exact hr2
      | .ok (.ret u), hr2 =>
        obtain ⟨rfl, h', tk, rfl, T, kp⟩ := hr2
        repeat (any_goals (first | assumption | wp_step))
        exact q _ _ T kp
end
end Q0

/-! set(..), len(set), sorted(set) for texts, over the abstract heap. -/
namespace Q0
open PySem PySem.Spec PyProof.Rows L2
section
variable {P : Program} {w : World} {A : Around} {E : Value → Shared → Prop} {s : Shared} {a : Addr} {L : List Str}
theorem tx_sorted {Q : Value → Shared → Prop} (T : TxSet w s.heap a L) (hh : A.handled = none) (few : L.length < 64)
    (q : ∀ (z : Shared) (p : Addr) (out : Array Value) (c : Nat) (ys : List Str), (∀ b o, s.heap.get? b = some o → z.heap.get? b = some o) → z.gens = s.gens → z.os = s.os → s.heap.objs.size ≤ p →
      z.heap.get? p = some (seqObj "list" out c) → StrsAre out.toList ys → ys.Perm L → sortedS ys = true → Q (.ref p) z) :
    wpAny (model P w) A (call (.builtin "sorted") [.ref a]) Q E s := by
  obtain ⟨o, es, ep, t, ho, ⟨hx, hd, en, nd, pm, lt, ft, rs, ld⟩⟩ := T
  refine Calls.call_function_entry kind_sorted plain_sorted entry_sorted (args_sorted1 _) ?_
  unfold Builtin.«sorted»
  refine wpAny_bind (m := checkCount "sorted" 1 1 _) (wpAny_pure ?_)
  refine wpAny_bind (collect_set (A := A.in1) hh ⟨o, ho, hx.1, hd⟩ ft lt rs ld fun z vs kp hz eg eo pv => ?_)
  have sS : StrsAre vs (vs.map strOf) := strsAre_map vs fun v m => by
    obtain ⟨e, me, rfl⟩ := List.mem_map.mp (pv.mem_iff.mp m)
    obtain ⟨x, tk, e1, _⟩ := en e me
    exact ⟨x, tk, e1⟩
  have pL : (vs.map strOf).Perm L := by
    refine (pv.map strOf).trans ?_
    rw [List.map_map]
    refine (List.Perm.of_eq (List.map_congr_left fun e me => ?_)).trans pm
    obtain ⟨x, tk, e1, _⟩ := en e me
    show strOf e.2 = txOf e
    unfold txOf strOf
    rw [e1]
  have vl : vs.length < 64 := by have := pL.length_eq; rw [List.length_map] at this; omega
  refine wpAny_bind (wpAny_newList ?_ (small64 vl))
  have eL : (z.heap.push (seqObj "list" vs.toArray 0)).get? z.heap.objs.size = some (seqObj "list" vs.toArray 0) := Heap.get?_push_size _ rfl
  refine wpAny_bind (wpAny_holding (wpAny_call_entry slot_list_sort ⟨_, eL, rfl⟩ entry_list_sort (list_sort_treeK strKind_oneLt eL sS.keysOf (fun v₁ v₂ rest e => keyKind_strs (ss := vs.map strOf) (by rw [← e]; exact sS)) vl fun st hp hs => ?_) (args_list_sort _)))
  obtain ⟨ys, h1, h2, h3⟩ := sorted_out_str sS hp hs
  obtain ⟨c, ec⟩ := sortedHeap_at (vs := vs) (out := (arrOf st).map (·.2)) eL
  refine ⟨_, rfl, wpAny_pure ⟨_, rfl, q _ z.heap.objs.size _ c ys (fun b u e => ?_) eg eo hz ec h1 (h2.trans pL) h3⟩⟩
  have k1 := kp b u e
  have lb := Heap.lt_size k1
  show (sortedHeap (z.heap.push (seqObj "list" vs.toArray 0)) z.heap.objs.size vs _).get? b = some u
  rw [sortedHeap_old (Nat.ne_of_lt lb) (by rw [size_push']; exact Nat.lt_succ_of_lt lb)]
  exact Heap.get?_push_of_some _ k1
end
/-- the set of the texts L, as a tracked thing -/
def TxO (w : World) (a : Addr) (L : List Str) : HO := .ext fun h => TxSet w h a L
section
variable {X : Cx}
theorem txO_new {w : World} {P : Program} {H : Hp} {h : Heap} {a : Addr} {L : List Str} (T : TxSet w h a L) : ObjOk P w H h a (TxO w a L) :=
  let ⟨o, _, _, _, e, _⟩ := T
  ⟨T, ⟨o, e⟩, fun _ _ p k => TxSet.at p k⟩
/-- set(xs), xs a list of texts -/
def rSetS (K : PySem.W.Frag) (w : World) : List V → Hp → VK → Prop := fun vs H Q => ∃ (l : Addr) (xs : List Str), vs = [.ref l] ∧ SqL K H l (xs.map V.str) ∧ xs.length + 1 < scanBound ∧
  ∀ p, H p = none → Q (.ref p) (upd H p (TxO w p (once [] xs)))
theorem cr_setS (hc : X.calm = true) : CallR X (.type "set") (rSetS X.K X.w) := by
  intro pins s σ H vs us Q I r h
  obtain ⟨l, xs, rfl, hs, room, q⟩ := h
  obtain ⟨its, rv, hl, _⟩ := I.list hs
  rw [Vals.ref1 r]
  refine tx_call xs (I.ok.hd hc) hl.isList (by simpa using rv.strs) room fun h' tk T kp => ?_
  exact ⟨.ref _, upd H s.heap.objs.size (TxO X.w s.heap.objs.size (once [] xs)), I.laid (t' := tk) (fun b u e => kp b u e) (Nat.le_refl _) (txO_new T), rfl, q _ (I.hok.fresh (Nat.le_refl _))⟩
/-- len of such a set -/
def rLenTx (w : World) : List V → Hp → VK → Prop := fun vs H Q => ∃ (a : Addr) (L : List Str), vs = [.ref a] ∧ H a = some (TxO w a L) ∧ Q (.int L.length) H
theorem call_lenTx : CallR X (.builtin "len") (rLenTx X.w) := by
  intro pins s σ H vs us Q I r h
  obtain ⟨a, L, rfl, ha, q⟩ := h
  rw [Vals.ref1 r]
  obtain ⟨o, es, ep, t, ho, T⟩ : TxSet X.w s.heap a L := (I.hok a _ ha).1
  have sz : es.size = L.length := by have := T.pm.length_eq; simpa using this
  have lt := T.lt
  refine call_len_set ho T.ex T.dt T.ft (by unfold scanBound at lt; omega) ⟨.int L.length, H, I.tok _, ⟨_, by rw [sz]⟩, q⟩
/-- sorted of such a set -/
def rSortTx (w : World) : List V → Hp → VK → Prop := fun vs H Q => ∃ (a : Addr) (L : List Str), vs = [.ref a] ∧ H a = some (TxO w a L) ∧ L.length < 64 ∧
  ∀ (ys : List Str) (p : Addr), ys.Perm L → sortedS ys = true → H p = none → Q (.ref p) (upd H p (.lst (ys.map V.str)))
theorem cr_sortTx (hc : X.calm = true) : CallR X (.builtin "sorted") (rSortTx X.w) := by
  intro pins s σ H vs us Q I r h
  obtain ⟨a, L, rfl, ha, few, q⟩ := h
  rw [Vals.ref1 r]
  have T : TxSet X.w s.heap a L := (I.hok a _ ha).1
  refine tx_sorted T (I.ok.hd hc) few fun z p out c ys kp eg eo lp ec sS pm srt => ?_
  obtain ⟨h', g', d', tk', os'⟩ := z
  obtain ⟨h0, g0, d0, tk0, os0⟩ := s
  cases eg
  cases eo
  have lz : (ys.map V.str).length ≤ sizeLine := by rw [List.length_map, pm.length_eq]; exact small64 few
  have fr : H p = none := I.hok.fresh lp
  exact ⟨.ref p, _, I.call (d' := d') (t' := tk') (ch := []) (Un.laid kp lp fr) (I.hok.laid kp lp (o := .lst (ys.map V.str)) ⟨lz, out.toList, c, vals_of_strs sS, ec⟩) I.bare (fun _ z => nomatch z), rfl, q ys p pm srt fr⟩
end
end Q0

/-! Data and what the language asks of it: isinstance, unpacking, comprehensions. -/
namespace Q0
open PySem PySem.Spec PyProof.Rows L2

def tyName : PyData → String
  | .none => "NoneType"
  | .bool _ => "bool"
  | .int _ => "int"
  | .str _ => "str"
  | .list _ => "list"
  | .tuple _ => "tuple"
  | .dict _ => "dict"
theorem Dd.ty {K : PySem.W.Frag} {H : Hp} {v : V} {d : PyData} (h : Dd H v d) : TyX K H v (.type (tyName d)) := by
  cases h with
  | non => exact .base .non
  | bl b => exact .base (.bl b)
  | int i => exact .base (.int i)
  | str x => exact .base (.str x)
  | lst e _ _ => exact .base (.lst e)
  | tup e _ => exact .base (.tup e)
  | dic e => exact .base (.dK e)
def isTup : PyData → Bool | .tuple _ => true | _ => false
def isStr : PyData → Bool | .str _ => true | _ => false
def isInt : PyData → Bool | .int _ => true | .bool _ => true | _ => false
def isBool : PyData → Bool | .bool _ => true | _ => false
theorem kit_tup (d : PyData) : kitB (tyName d) "tuple" = some (isTup d) := by cases d <;> (simp only [tyName, isTup, isStr, isInt, isBool]; decide +kernel)
theorem kit_str (d : PyData) : kitB (tyName d) "str" = some (isStr d) := by cases d <;> (simp only [tyName, isTup, isStr, isInt, isBool]; decide +kernel)
theorem kit_int (d : PyData) : kitB (tyName d) "int" = some (isInt d) := by cases d <;> (simp only [tyName, isTup, isStr, isInt, isBool]; decide +kernel)
theorem kit_bool (d : PyData) : kitB (tyName d) "bool" = some (isBool d) := by cases d <;> (simp only [tyName, isTup, isStr, isInt, isBool]; decide +kernel)
theorem isi_dd {K : PySem.W.Frag} {H : Hp} {v : V} {d : PyData} {T : String} {b : Bool} {Q : VK} (h : Dd H v d) (k : kitB (tyName d) T = some b) (q : Q (.bl b) H) : rIsi K [v, .ty T] H Q :=
  ⟨v, .ty T, .type (tyName d), .type T, b, rfl, .ty T, h.ty, kit_ty k, q⟩

theorem Dd.tupD {H : Hp} {v : V} {ds : List PyData} (h : Dd H v (.tuple ds)) : ∃ a xs, v = .ref a ∧ H a = some (.tup xs) ∧ DdA H xs ds := by
  cases h with
  | tup e A => exact ⟨_, _, rfl, e, A⟩
theorem Dd.lstD {H : Hp} {v : V} {ds : List PyData} (h : Dd H v (.list ds)) : ∃ a xs, v = .ref a ∧ H a = some (.lst xs) ∧ DdA H xs ds := by
  cases h with
  | lst e _ A => exact ⟨_, _, rfl, e, A⟩
theorem Dd.strD {H : Hp} {v : V} {x : Str} (h : Dd H v (.str x)) : v = .str x := by cases h; rfl
theorem DdA.at {H : Hp} : ∀ {vs : List V} {ds : List PyData} {i : Nat} {d : PyData}, DdA H vs ds → ds[i]? = some d → ∃ v, vs[i]? = some v ∧ Dd H v d
  | _, _, _, _, .nil, e => by simp at e
  | _, _, 0, _, .cons h _, e => by
    simp only [List.getElem?_cons_zero, Option.some.injEq] at e
    subst e
    exact ⟨_, rfl, h⟩
  | _, _, i + 1, _, .cons _ t, e => by
    obtain ⟨d, h1, h2⟩ := t.at (i := i) (by simpa using e)
    exact ⟨d, by simpa using h1, h2⟩
theorem DdA.strs {H : Hp} : ∀ {vs : List V} {xs : List Str}, DdA H vs (xs.map PyData.str) → vs = xs.map V.str
  | _, [], h => by cases h; rfl
  | _, x :: xs, h => by
    cases h with
    | cons h t => rw [h.strD, t.strs]; rfl
theorem DdA.ofStrs {H : Hp} : ∀ (xs : List Str), DdA H (xs.map V.str) (xs.map PyData.str)
  | [] => .nil
  | x :: xs => .cons (.str x) (ofStrs xs)

/-! ### data whose texts are of a bearable length -/
mutual
def okT : PyData → Bool
  | .str x => decide (x.length ≤ 100000)
  | .list ds => okTs ds
  | .tuple ds => okTs ds
  | _ => true
def okTs : List PyData → Bool
  | [] => true
  | d :: ds => okT d && okTs ds
end
theorem okTs_at : ∀ {ds : List PyData} {i : Nat} {d : PyData}, okTs ds = true → ds[i]? = some d → okT d = true
  | [], _, _, _, e => by simp at e
  | x :: ds, 0, d, h, e => by
    simp only [List.getElem?_cons_zero, Option.some.injEq] at e
    subst e
    unfold okTs at h
    exact (Bool.and_eq_true_iff.mp h).1
  | x :: ds, i + 1, d, h, e => by
    unfold okTs at h
    exact okTs_at (Bool.and_eq_true_iff.mp h).2 (by simpa using e)

theorem range_bind {α β : Type} (g : α → Option β) : ∀ xs : List α, (List.range xs.length).filterMap (fun i => xs[i]?.bind g) = xs.filterMap g
  | [] => rfl
  | x :: xs => by
    have ih := range_bind g xs
    rw [List.length_cons, List.range_succ_eq_map, List.filterMap_cons, List.filterMap_cons]
    have e : (List.map Nat.succ (List.range xs.length)).filterMap (fun i => (x :: xs)[i]?.bind g) = xs.filterMap g := by
      rw [List.filterMap_map]
      exact ih
    rw [e] <;> rfl
theorem range_map' {α β : Type} (g : α → β) (xs : List α) : (List.range xs.length).filterMap (fun i => xs[i]?.map g) = xs.map g := by
  have h := range_bind (fun x => some (g x)) xs
  have e : xs.filterMap (fun x => some (g x)) = xs.map g := List.filterMap_eq_map ▸ rfl
  rw [← e, ← h]
  refine congrArg (fun f => List.filterMap f _) (funext fun i => ?_)
  cases xs[i]? <;> rfl
/-! ### comprehensions whose values are told ahead -/
theorem same_put {H H' : Hp} {D : Addr} {o : HO} (s : Same H H') (n : H D = none) : Same H (upd H' D o) := fun b u q => by
  rw [upd_ne (ne_of_none q n)]
  exact s b u q
/-- [e for .. if t]: f tells the value, or that it is left out; nothing that stood is changed -/
theorem lc_vals {J : It} {n : Nat} {G : Hp → Prop} {Y : Nat → Hp → V → Hp → Prop} (w : Walk J n G Y) {g : TG} {tt : TT} {te : TE} {vs : List Nat} {σ : L2.St} {H1 : Hp} {D : Addr} {Qd : Hp → Prop}
    (f : Nat → Option V) (hD : H1 D = none) (lz : n ≤ sizeLine) (hG : ∀ H, Same H1 H → G H)
    (hs : ∀ i x H H' (K : VK) (K0 : Hp → Prop), i < n → Same H1 H → Y i H x H' → (∀ v H4, f i = some v → Same H H4 → K v H4) → (∀ H4, f i = none → Same H H4 → K0 H4) →
      g x (wipe σ vs) H' fun σ2 H2 => wipe σ2 vs = wipe σ vs ∧ tt σ2 H2 fun b H3 => if b = true then te σ2 H3 K else K0 H3)
    (hd : ∀ H, Same H1 H → H D = some (.lst ((List.range n).filterMap f)) → Qd H) :
    ∃ W : Nat → Nat → Hp → Prop, (∃ m, W 0 m (upd H1 D (.lst []))) ∧ ∀ i m H, W i m H →
      (J.stop i H ∧ Qd H) ∨ (J.go i H ∧ ∃ Nx : Hp → Prop, (∀ H', Nx H' → ∃ m', m' < m ∧ W (i + 1) m' H') ∧ ∀ x H', J.yld i H x H' → g x (wipe σ vs) H' fun σ2 H2 => wipe σ2 vs = wipe σ vs ∧ tt σ2 H2 fun b H3 =>
        if b = true then te σ2 H3 fun y H4 => ∃ acc, H4 D = some (.lst acc) ∧ acc.length < sizeLine ∧ Nx (upd H4 D (.lst (acc ++ [y]))) else Nx H3) := by
  refine lc_it w (fun i H => Same H1 H ∧ H D = some (.lst ((List.range i).filterMap f))) ⟨same_new hD _, upd_same⟩ (fun i H _ p => hG H p.1) (fun i x H H' hi p y => ?_) (fun H p => hd H p.1 p.2)
  obtain ⟨s1, e1⟩ := p
  refine hs i x H H' _ _ hi s1 y (fun v H4 ef s4 => ?_) (fun H4 ef s4 => ⟨s1.trans s4, ?_⟩)
  · refine ⟨_, s4 _ _ e1, ?_, same_put (s1.trans s4) hD, ?_⟩
    · have := List.length_filterMap_le f (List.range i)
      rw [List.length_range] at this
      omega
    · rw [upd_same, List.range_succ, List.filterMap_append]
      simp [ef]
  · rw [s4 _ _ e1, List.range_succ, List.filterMap_append]
    simp [ef]
end Q0

/-! list(d.values()) -/
namespace Q0
open PySem PySem.Spec PyProof.Rows L2
section
variable {X : Cx}
def tListVals (td : TE) : TE := fun σ H Q => td σ H fun x H1 => ∃ (a : Addr) (kvs : List (Key × V)), x = V.ref a ∧ H1 a = some (.dK kvs) ∧ kvs.length ≤ sizeLine ∧ ∀ p, H1 p = none → Q (.ref p) (upd H1 p (.lst (kvs.map (·.2))))
theorem valsOf : ∀ {n : Nat} {vs : List V} {us : List Value}, vs.length = n → us.length = n → (∀ (i : Nat) (v : V) (u : Value), vs[i]? = some v → us[i]? = some u → RelV v u) → Vals vs us
  | _, [], [], _, _, _ => .nil
  | _, [], _ :: _, e1, e2, _ => by subst e1; cases e2
  | _, _ :: _, [], e1, e2, _ => by subst e2; cases e1
  | _, v :: vs, u :: us, e1, e2, h => .cons (h 0 v u rfl rfl) (valsOf (n := vs.length) rfl (by subst e1; simpa using e2) fun i a b ea eb => h (i + 1) a b (by simpa using ea) (by simpa using eb))
theorem pe_listVals {o : Expr} {p pos apos mpos : Pos} {td : TE} (hc : X.calm = true) (hm : X.mg "list" = none) (hd : PE X o td) (hg : Gl X "list" := by rfl) (hb : attributeBase o "values" X.env (eval o X.env) = eval o X.env := by rfl) (hl : (apos.endLine == mpos.line) = true := by rfl)
    (hs : starEach [Expr.Call (.Attribute o "values" apos) [] [] mpos] X.env = [(false, eval (Expr.Call (.Attribute o "values" apos) [] [] mpos) X.env)] := by rfl) :
    PE X (.Call (.Name "list" p) [.Call (.Attribute o "values" apos) [] [] mpos] [] pos) (tListVals td) := by
  refine ⟨fun pins s σ H Q I h => ?_⟩
  refine wpAny_Call_Name_kw (ld_blt I hg hm (u := .type "list") (by first | rfl | decide +kernel) ?_ (by first | decide +kernel | decide) (by first | decide +kernel | decide))
  rw [hs]
  refine PySem.callWith_type1 (wpAny_Call_method0_late hb hl (thn (hd.run pins s σ H _ I h) fun v s1 hx => ?_))
  obtain ⟨x, H1, I1, r1, a, kvs, rfl, ha, lz, q⟩ := hx
  obtain rfl : v = Value.ref a := r1
  obtain ⟨_, nsys, vs, rel, dof⟩ := dk_of I1.hok ha
  have dof0 := dof
  obtain ⟨ob, es0, ep0, e1, e2, e3, _⟩ := dof0
  refine ⟨"dict", "dict.values", F.plainAttrs_dict, F.slot_dict_values, F.type_dict_values, ⟨ob, e1, e2.1⟩, fun b e => ?_, Calls.callWith_builtin rfl (PySem.evalArgs_none ?_)⟩
  · cases e
    exact ⟨ob, e1, e2.2.1⟩
  refine call_meetsIn F.slot_dict_values ⟨ob, e1, e2.1⟩ F.entry_dict_values (F.args_dict_values_1 _) (meets_dict_values (mixKind X.prog X.w) a nsys) ⟨⟨vs, dof⟩, ?_⟩
  obtain ⟨es, ep, raw, sz, hat⟩ := dof.raw
  have lkv : kvs.length = vs.length := KV.length rel
  have raw1 := raw.push { cls := .type "dict_values", data := .fields #[.ref a] }
  refine PySem.W.kdl_call (n := es.size) (KdlSrc.rawValues (r := s1.heap.objs.size) (d := a) (es := es) (ep := ep)) (I.ok.hd hc) ⟨⟨_, Heap.get?_push_size _ rfl, rfl, rfl⟩, raw1⟩ (by rw [sz, ← lkv]; exact lz) fun h' tk acc c kp eL hacc => ?_
  have kp1 : ∀ b u, s1.heap.get? b = some u → h'.get? b = some u := fun b u e => kp b u (Heap.get?_push_of_some _ e)
  have z1 : s1.heap.objs.size ≤ (s1.heap.push { cls := .type "dict_values", data := .fields #[.ref a] }).objs.size := by rw [Heap.size_push]; exact Nat.le_succ _
  have fr := I1.hok.fresh z1
  have la : acc.size = es.size := hacc.1
  have rv : Vals (kvs.map (·.2)) acc.toList := by
    refine valsOf (n := kvs.length) (List.length_map _) (by rw [Array.length_toList, la, sz, lkv]) fun i v u ev eu => ?_
    rw [Array.getElem?_toList] at eu
    obtain ⟨hi, rfl⟩ := hacc.2 i u eu
    have hv : i < vs.length := sz ▸ hi
    obtain ⟨x, h1, h2⟩ := KV.at' rel (k := vs[i].1) (v := vs[i].2) (List.getElem?_eq_getElem hv)
    rw [List.getElem?_map, h1] at ev
    cases Option.some.inj ev
    rw [(hat i hi vs[i].1 vs[i].2 (List.getElem?_eq_getElem hv)).2]
    exact h2
  exact ⟨.ref _, upd H1 _ (.lst (kvs.map (·.2))), I1.laid (t' := tk) kp1 z1 (show ObjOk X.prog X.w (upd H1 _ (.lst (kvs.map (·.2)))) h' _ (.lst (kvs.map (·.2))) from ⟨by rw [List.length_map]; exact lz, acc.toList, c, rv, by simpa using eL⟩), rfl, q _ fr⟩
end
end Q0

namespace Q0
open PySem PySem.Spec PyProof.Rows L2
/-- a def of the top, by its name -/
def Df (K : PySem.W.Frag) (mg : Str → Option Value) (x : Str) (st : Stmt) : Prop :=
  ∃ (f : Addr) (fd : FuncData), mg x = some (.ref f) ∧ Fun K x x st f fd
theorem gd_of {P : Program} {w : World} {K : PySem.W.Frag} {mg : Str → Option Value} {base : Heap} {CX : CXT} {k : Nat} {x : Str} {st : Stmt} {ps : List Str} {sp : Sp}
    (D : Df K mg x st)
    (hb : ∀ (kV doc pm : Value) (an : Option Addr) (cdv ct : Value) (us : List Value), us.length = ps.length →
      bindArgs (PySem.W.fnOf x x (defArgs st) (defBody st) (defScope st) .none kV doc pm an cdv ct) ⟨us, []⟩ = pure (ps.zip us))
    (h : ∀ f fd, Fun K x x st f fd → Fn P w K mg base CX k f fd ps sp) : Gd P w K mg base CX k x ps sp :=
  let ⟨f, fd, m, F⟩ := D
  ⟨f, fd, m, F.kp, F.binds hb, h f fd F⟩

/-- names of built-ins that the text leaves alone -/
structure Bi (mg : Str → Option Value) : Prop where
  int : mg "int" = none
  abs : mg "abs" = none
  divmod : mg "divmod" = none
  len : mg "len" = none
  all : mg "all" = none
  range : mg "range" = none
  max : mg "max" = none
  min : mg "min" = none
  repr : mg "repr" = none
  isinstance : mg "isinstance" = none
  verr : mg "ValueError" = none
  lerr : mg "LookupError" = none
  aerr : mg "ArithmeticError" = none
  terr : mg "TypeError" = none
  atterr : mg "AttributeError" = none
  rerr : mg "RuntimeError" = none
  serr : mg "StopIteration" = none
  enumerate : mg "enumerate" = none
  tuple : mg "tuple" = none
  str : mg "str" = none
  list : mg "list" = none
  bool : mg "bool" = none
  set : mg "set" = none
  sorted : mg "sorted" = none

/-- the numbers of a well -/
structure WellN (a m c : Int) : Prop where
  a0 : 0 ≤ a
  m0 : 0 ≤ m
  m1 : m < 2147483543
  c0 : 0 ≤ c
/-- p holds a well -/
def Well (H : Hp) (p : Addr) : Prop := ∃ a m c, WellN a m c ∧ H p = some (.lst [.int a, .int m, .int c])
/-- all that stood but what is at p stands -/
def But (p : Addr) (H H' : Hp) : Prop := ∀ b o, b ≠ p → H b = some o → H' b = some o
theorem But.refl {p : Addr} {H : Hp} : But p H H := fun _ _ _ q => q
theorem But.trans {p : Addr} {H H1 H2 : Hp} (a : But p H H1) (b : But p H1 H2) : But p H H2 := fun c o n q => b c o n (a c o n q)
theorem But.new {p q : Addr} {H H1 : Hp} {o : HO} (a : But p H H1) (n : H1 q = none) : But p H (upd H1 q o) := fun c u nc e => by
  rw [upd_ne (ne_of_none (a c u nc e) n)]
  exact a c u nc e
theorem But.put {p : Addr} {H H1 : Hp} {o : HO} (a : But p H H1) : But p H (upd H1 p o) := fun c u nc e => by
  rw [upd_ne nc]
  exact a c u nc e
theorem Well.new {H : Hp} {p q : Addr} {o : HO} (h : Well H p) (n : H q = none) : Well (upd H q o) p :=
  let ⟨a, m, c, N, e⟩ := h
  ⟨a, m, c, N, by rw [upd_ne (ne_of_none e n)]; exact e⟩
theorem Well.ne {H : Hp} {p q : Addr} (h : Well H p) (n : H q = none) : p ≠ q := let ⟨_, _, _, _, e⟩ := h; ne_of_none e n
/-- _law_draw(well, few): a number from 0 to few - 1 -/
def spDraw : Sp := fun vs H Q _ => ∃ (p : Addr) (few : Int), vs = [.ref p, .int few] ∧ Well H p ∧ 0 < few ∧ few < 1000000 ∧
  ∀ (d : Int) (H' : Hp), 0 ≤ d → d < few → Well H' p → But p H H' → Q (.int d) H'
/-- _law_one(well, some): one of them -/
def spOne (K : PySem.W.Frag) : Sp := fun vs H Q _ => ∃ (p t : Addr) (xs : List V), vs = [.ref p, .ref t] ∧ Well H p ∧ SqT K H t xs ∧ p ≠ t ∧ 0 < xs.length ∧ xs.length < 1000000 ∧
  ∀ (i : Nat) (v : V) (H' : Hp), xs[i]? = some v → Well H' p → But p H H' → Q v H'
theorem But.seq {K : PySem.W.Frag} {p t : Addr} {xs : List V} {H H' : Hp} (a : But p H H') (n : t ≠ p) (h : SqT K H t xs) : SqT K H' t xs := by
  rcases h with h | h
  · rcases h with h | ⟨o, h⟩
    · exact .inl (.inl (a _ _ n h))
    · exact .inl (.inr ⟨o, a _ _ n h⟩)
  · exact .inr h
end Q0

/-! Data apart from the well: what is read off it, what is put together of it. -/
namespace Q0
open PySem PySem.Spec PyProof.Rows L2

/-! ### plain data: at most n deep, tuples of a bearable length, texts of at most a hundred signs -/
def shB : Nat → PyData → Bool
  | _, .none => true
  | _, .bool _ => true
  | _, .int _ => true
  | _, .str x => decide (x.length ≤ 100) && PyData.strOk x
  | n + 1, .tuple ds => decide (ds.length ≤ 1000) && ds.all (shB n)
  | _, _ => false
theorem shB_tup {n : Nat} {ds : List PyData} (h : shB (n + 1) (.tuple ds) = true) : ds.length ≤ 1000 ∧ ∀ d ∈ ds, shB n d = true := by
  have h : (decide (ds.length ≤ 1000) && ds.all (shB n)) = true := h
  rw [Bool.and_eq_true, decide_eq_true_iff, List.all_eq_true] at h
  exact h
theorem shB_of {n : Nat} {ds : List PyData} (h1 : ds.length ≤ 1000) (h2 : ∀ d ∈ ds, shB n d = true) : shB (n + 1) (.tuple ds) = true := by
  show (decide (ds.length ≤ 1000) && ds.all (shB n)) = true
  rw [Bool.and_eq_true, decide_eq_true_iff, List.all_eq_true]
  exact ⟨h1, h2⟩
theorem shB_zero {ds : List PyData} (h : shB 0 (.tuple ds) = true) : False := by cases h
theorem okTs_of : ∀ {ds : List PyData}, (∀ d ∈ ds, okT d = true) → okTs ds = true
  | [], _ => rfl
  | d :: ds, h => by
    unfold okTs
    rw [h d (List.mem_cons_self ..), okTs_of fun x hx => h x (List.mem_cons_of_mem _ hx)]
    rfl
theorem okTs_mem {ds : List PyData} (h : okTs ds = true) : ∀ d ∈ ds, okT d = true := fun d hd => by
  obtain ⟨i, hi, rfl⟩ := List.getElem_of_mem hd
  exact okTs_at h (List.getElem?_eq_getElem hi)
theorem shB_ok : ∀ {n : Nat} {d : PyData}, shB n d = true → okT d = true
  | _, .none, _ => rfl
  | _, .bool _, _ => rfl
  | _, .int _, _ => rfl
  | n, .str x, h => by
    have h : (decide (x.length ≤ 100) && PyData.strOk x) = true := by cases n <;> exact h
    rw [Bool.and_eq_true, decide_eq_true_iff] at h
    exact decide_eq_true (Nat.le_trans h.1 (by decide))
  | n + 1, .tuple ds, h => by
    show okTs ds = true
    exact okTs_of fun d hd => shB_ok ((shB_tup h).2 d hd)
  | 0, .tuple ds, h => (shB_zero h).elim
  | n, .list _, h => by cases n <;> cases h
  | n, .dict _, h => by cases n <;> cases h
theorem depthAll_le {n : Nat} : ∀ {ds : List PyData}, (∀ d ∈ ds, d.depth ≤ n) → PyData.depthAll ds ≤ n
  | [], _ => Nat.zero_le _
  | d :: ds, h => by
    unfold PyData.depthAll
    exact Nat.max_le.mpr ⟨h d (List.mem_cons_self ..), depthAll_le fun x hx => h x (List.mem_cons_of_mem _ hx)⟩
theorem canAll_of : ∀ {ds : List PyData}, (∀ d ∈ ds, d.canLay0 = true) → PyData.canLayAll0 ds = true
  | [], _ => rfl
  | d :: ds, h => by
    unfold PyData.canLayAll0
    rw [h d (List.mem_cons_self ..), canAll_of fun x hx => h x (List.mem_cons_of_mem _ hx)]
    rfl
theorem shB_lay : ∀ {n : Nat} {d : PyData}, shB n d = true → d.canLay0 = true ∧ d.depth ≤ n
  | _, .none, _ => ⟨rfl, Nat.zero_le _⟩
  | _, .bool _, _ => ⟨rfl, Nat.zero_le _⟩
  | _, .int _, _ => ⟨rfl, Nat.zero_le _⟩
  | n, .str x, h => by
    have h : (decide (x.length ≤ 100) && PyData.strOk x) = true := by cases n <;> exact h
    rw [Bool.and_eq_true] at h
    exact ⟨h.2, Nat.zero_le _⟩
  | n + 1, .tuple ds, h => ⟨canAll_of fun d hd => (shB_lay ((shB_tup h).2 d hd)).1, Nat.succ_le_succ (depthAll_le fun d hd => (shB_lay ((shB_tup h).2 d hd)).2)⟩
  | 0, .tuple ds, h => (shB_zero h).elim
  | n, .list _, h => by cases n <;> cases h
  | n, .dict _, h => by cases n <;> cases h
theorem shB_shaped {n : Nat} {d : PyData} (h : shB n d = true) (hn : n ≤ 64) : SeqAt.shaped d = true := by
  obtain ⟨h1, h2⟩ := shB_lay h
  unfold SeqAt.shaped
  rw [h1, decide_eq_true (Nat.le_trans h2 hn)]
  rfl
theorem list_shaped {n : Nat} {ds : List PyData} (h : ∀ d ∈ ds, shB n d = true) (hn : n ≤ 63) : SeqAt.shaped (.list ds) = true := by
  unfold SeqAt.shaped
  rw [show (PyData.list ds).canLay0 = true from canAll_of fun d hd => (shB_lay (h d hd)).1,
    decide_eq_true (Nat.le_trans (Nat.succ_le_succ (depthAll_le fun d hd => (shB_lay (h d hd)).2)) (Nat.succ_le_succ hn) : (PyData.list ds).depth ≤ 64)]
  rfl
theorem shB_mono : ∀ {n : Nat} {m : Nat} {d : PyData}, n ≤ m → shB n d = true → shB m d = true
  | _, m, .none, _, _ => by cases m <;> rfl
  | _, m, .bool _, _, _ => by cases m <;> rfl
  | _, m, .int _, _, _ => by cases m <;> rfl
  | n, m, .str x, _, h => by
    have h : (decide (x.length ≤ 100) && PyData.strOk x) = true := by cases n <;> exact h
    cases m <;> exact h
  | n + 1, m + 1, .tuple ds, l, h => shB_of (shB_tup h).1 fun d hd => shB_mono (Nat.le_of_succ_le_succ l) ((shB_tup h).2 d hd)
  | n + 1, 0, .tuple ds, l, h => absurd l (by omega)
  | 0, _, .tuple ds, _, h => (shB_zero h).elim
  | n, _, .list _, _, h => by cases n <;> cases h
  | n, _, .dict _, _, h => by cases n <;> cases h
mutual
theorem Dd.dp {K : PySem.W.Frag} {H : Hp} : ∀ {n : Nat} {v : V} {d : PyData}, shB n d = true → Dd H v d → Dp K H v d
  | _, _, _, _, .non => .non
  | _, _, _, _, .bl b => .bl b
  | _, _, _, _, .int i => .int i
  | _, _, _, _, .str x => .str x
  | n + 1, _, _, h, .tup e A => .tup (SqT.of e) (DdA.dp (shB_tup h).2 A)
  | 0, _, _, h, .tup e A => (shB_zero h).elim
  | n, _, _, h, .lst _ _ _ => by cases n <;> cases h
  | n, _, _, h, .dic _ => by cases n <;> cases h
theorem DdA.dp {K : PySem.W.Frag} {H : Hp} : ∀ {n : Nat} {vs : List V} {ds : List PyData}, (∀ d ∈ ds, shB n d = true) → DdA H vs ds → DpAll K H vs ds
  | _, _, _, _, .nil => .nil
  | _, _, _, h, .cons a t => .cons (Dd.dp (h _ (List.mem_cons_self ..)) a) (DdA.dp (fun x hx => h x (List.mem_cons_of_mem _ hx)) t)
end
theorem DdA.take {H : Hp} : ∀ {vs : List V} {ds : List PyData} (n : Nat), DdA H vs ds → DdA H (vs.take n) (ds.take n)
  | _, _, 0, _ => by rw [List.take_zero, List.take_zero]; exact .nil
  | _, _, n + 1, .nil => by rw [List.take_nil, List.take_nil]; exact .nil
  | _, _, n + 1, .cons a t => .cons a (t.take n)
theorem DdA.drop {H : Hp} : ∀ {vs : List V} {ds : List PyData} (n : Nat), DdA H vs ds → DdA H (vs.drop n) (ds.drop n)
  | _, _, 0, h => h
  | _, _, n + 1, .nil => by rw [List.drop_nil, List.drop_nil]; exact .nil
  | _, _, n + 1, .cons a t => t.drop n
theorem DdA.rev {H : Hp} : ∀ {vs : List V} {ds : List PyData}, DdA H vs ds → DdA H vs.reverse ds.reverse
  | _, _, .nil => .nil
  | _, _, .cons a t => by
    rw [List.reverse_cons, List.reverse_cons]
    exact t.rev.append (.cons a .nil)
theorem DdA.erase {H : Hp} : ∀ {vs : List V} {ds : List PyData} (n : Nat), DdA H vs ds → DdA H (vs.eraseIdx n) (ds.eraseIdx n)
  | _, _, _, .nil => .nil
  | _, _, 0, .cons _ t => t
  | _, _, n + 1, .cons a t => .cons a (t.erase n)

/-! ### the heap without the well -/
theorem But.del {p : Addr} {H H' : Hp} (b : But p H H') : Same (L2.del H p) (L2.del H' p) := fun a o q => by
  by_cases e : a = p
  · subst e
    rw [del_same] at q
    cases q
  · rw [del_ne e] at q ⊢
    exact b a o e q
theorem del_old {p : Addr} {H : Hp} : Same (L2.del H p) H := fun a o q => by
  by_cases e : a = p
  · subst e
    rw [del_same] at q
    cases q
  · rw [del_ne e] at q
    exact q
theorem Same.but {p : Addr} {H H' : Hp} (s : Same H H') : But p H H' := fun b o _ q => s b o q
theorem Well.some {H : Hp} {p : Addr} (h : Well H p) : H p ≠ none := fun z => by
  obtain ⟨_, _, _, _, e⟩ := h
  rw [e] at z
  cases z
theorem Well.same {H H' : Hp} {p : Addr} (s : Same H H') (h : Well H p) : Well H' p :=
  let ⟨a, m, c, N, e⟩ := h
  ⟨a, m, c, N, s _ _ e⟩
theorem Dd.but {p : Addr} {H H' : Hp} {v : V} {d : PyData} (b : But p H H') (h : Dd (L2.del H p) v d) : Dd (L2.del H' p) v d := h.mono b.del
theorem DdA.but {p : Addr} {H H' : Hp} {v : List V} {d : List PyData} (b : But p H H') (h : DdA (L2.del H p) v d) : DdA (L2.del H' p) v d := h.mono b.del
theorem Dd.all {p : Addr} {H : Hp} {v : V} {d : PyData} (h : Dd (L2.del H p) v d) : Dd H v d := h.mono del_old
theorem DdA.all {p : Addr} {H : Hp} {v : List V} {d : List PyData} (h : DdA (L2.del H p) v d) : DdA H v d := h.mono del_old
theorem news_del {H0 H : Hp} {p : Addr} (n : H0 p ≠ none) : Same (news H0 H) (L2.del H p) := fun b o q => by
  obtain ⟨q1, q2⟩ := news_some.mp q
  rw [del_ne (show b ≠ p from fun z => n (by rw [← z]; exact q1))]
  exact q2
theorem Dd.apart {H0 H : Hp} {p : Addr} {v : V} {d : PyData} (n : H0 p ≠ none) (h : Dd (news H0 H) v d) : Dd (L2.del H p) v d := h.mono (news_del n)
theorem del_new {H : Hp} {p q : Addr} {o : HO} (n : q ≠ p) : L2.del (upd H q o) p q = some o := by rw [del_ne n, upd_same]
theorem new_but {H : Hp} {p q : Addr} {o : HO} (n : H q = none) : But p H (upd H q o) := Same.but (same_new n o)

/-! ### rules whose new list is not the module table -/
section
variable {X : Cx}
def rListN (K : PySem.W.Frag) : List V → Hp → VK → Prop := fun xs H Q => ∃ p ys, xs = [.ref p] ∧ (SqL K H p ys ∨ SqT K H p ys) ∧ ∀ l, H l = none → l ≠ sysModules → Q (.ref l) (upd H l (.lst ys))
theorem call_list_N : CallR X (.type "list") (rListN X.K) := by
  intro pins s σ H xs us Q I r h
  obtain ⟨p, ys, rfl, hq, q⟩ := h
  obtain ⟨u, rfl, rx⟩ := vals1 r
  cases rx
  have fin : ∀ (its : List Value), Vals ys its → ys.length ≤ sizeLine → ∀ (h' : Heap) (c' : Nat), (∀ b o', s.heap.get? b = some o' → h'.get? b = some o') →
      h'.get? s.heap.objs.size = some { cls := .type "list", dict := none, data := .seq its.toArray c', slots := #[] } → EP X pins σ Q (.ref s.heap.objs.size) { s with heap := h' } := fun its r' hz h' c' kp e =>
    ⟨.ref s.heap.objs.size, _, I.laid (t' := s.toks) kp (Nat.le_refl _) (show ObjOk X.prog X.w _ h' _ (.lst ys) from ⟨hz, its, c', r', e⟩), rfl, q _ (I.hok.fresh (Nat.le_refl _)) (Nat.ne_of_gt I.big)⟩
  rcases hq with hq | hq
  · obtain ⟨its, r', pl, hz⟩ := I.list hq
    have hlen := r'.length
    obtain ⟨o, ho, hc, n, hd⟩ := pl.isList
    exact call_list_seq p (.inl rfl) ho hc hd (fun h' c' kp e => fin its r' hz h' c' kp e) (by simp only [List.size_toArray] <;> omega)
  · obtain ⟨its, r', pl, hz⟩ := I.tuple hq
    have hlen := r'.length
    obtain ⟨o, ho, hc, n, hd⟩ := pl
    exact call_list_seq p (.inr rfl) ho hc hd (fun h' c' kp e => fin its r' hz h' c' kp e) (by simp only [List.size_toArray] <;> omega)
def rCatN : R2 := fun x y H Q => ∃ l b xs zs, x = .ref l ∧ y = .ref b ∧ H l = some (.lst xs) ∧ H b = some (.lst zs) ∧ xs.length + zs.length ≤ sizeLine ∧ ∀ p, H p = none → p ≠ sysModules → Q (.ref p) (upd H p (.lst (xs ++ zs)))
theorem op_catN : OpR X (binaryOp .Add) rCatN := by
  intro pins s σ H x y v u Q I rx ry h
  obtain ⟨l, b, xs, zs, rfl, rfl, hH, hB, hz, q⟩ := h
  cases rx
  cases ry
  obtain ⟨z, its, n, r, hl, e⟩ := I.lstM hH
  obtain ⟨z2, its2, n2, r2, hl2, e2⟩ := I.lstM hB
  refine PySem.P.add_list e e2 ?_ (by rw [List.size_toArray, List.size_toArray]; omega)
  have ea : its.toArray ++ its2.toArray = (its ++ its2).toArray := by simp
  rw [ea]
  exact ⟨.ref _, _, I.lnew (t' := s.toks) (r.append r2) (by rw [List.length_append]; omega), rfl, q _ I.fresh (Nat.ne_of_gt I.big)⟩
def tLstN (t : TA) : TE := fun σ H Q => t σ H fun vs H1 => vs.length ≤ sizeLine ∧ ∀ p, H1 p = none → p ≠ sysModules → Q (.ref p) (upd H1 p (.lst vs))
theorem pe_lstN {es : List Expr} {t : TA} {pos : Pos} (h : PA X es t) : PE X (.List es pos) (tLstN t) := by
  constructor
  intro pins s σ H Q I q
  refine wpAny_List_spliced (thn (h.run pos pins s σ H _ I q) ?_)
  rintro us s1 ⟨vs, H1, I1, r, z, k⟩
  have hf : H1 s1.heap.objs.size = none := I1.hok.fresh (Nat.le_refl _)
  exact ⟨by rw [← r.length]; exact z, .ref s1.heap.objs.size, upd H1 s1.heap.objs.size (.lst vs), I1.laid (t' := s1.toks) (fun b u e => Heap.get?_push_of_some _ e) (Nat.le_refl _) ⟨z, us, 0, r, Heap.get?_push_size _ rfl⟩, rfl,
    k _ hf (Nat.ne_of_gt I1.big)⟩
/-- x in t, t a tuple of data -/
def rInDT (K : PySem.W.Frag) : R2 := fun x y H Q => ∃ d ds, Dp K H x d ∧ Dp K H y (.tuple ds) ∧ SeqAt.shaped d = true ∧ SeqAt.shaped (.tuple ds) = true ∧ Q (.bl (ds.any fun z => PyData.eqv z d)) H
theorem op_inDT (hu : X.A.units + 65 < cLine) : OpR X (compareOp .In) (rInDT X.K) := by
  intro pins s σ H x y v u Q I rx ry h
  obtain ⟨d, ds, hd, he, sd, se, q⟩ := h
  obtain ⟨as, r1⟩ := Dp.reads I d x v hd rx
  obtain ⟨bs, r2⟩ := Dp.reads I (.tuple ds) y u he ry
  exact SeqAt.in_tuple_reads r2 r1 (SeqAt.canLay_of_shaped se) (SeqAt.canLay_of_shaped sd) (room_in_shaped sd hu) ⟨.bl _, H, I, rfl, q⟩
theorem size_times (z : Array Nat) : ∀ (m : Nat) (a : Array Nat), ((List.replicate m z).foldl (· ++ ·) a).size = a.size + m * z.size
  | 0, a => by simp
  | m + 1, a => by
    rw [List.replicate_succ, List.foldl_cons, size_times z m (a ++ z), Array.size_append, Nat.add_mul]
    omega
/-- a text times a written number -/
def rMulS : R2 := fun x y H Q => ∃ (z : Str) (n : Int), x = .str z ∧ y = .int n ∧ 2 ≤ n ∧ n ≤ 100 ∧ 1 ≤ z.length ∧ z.length ≤ 100 ∧ Q (.str ⟨(List.replicate n.toNat z.cps).foldl (· ++ ·) #[]⟩) H
theorem op_mulS : OpR X (binaryOp .Mult) rMulS := by
  intro pins s σ H x y v u Q I rx ry h
  obtain ⟨z, n, rfl, rfl, n2, n100, z1, z100, q⟩ := h
  obtain ⟨t, rfl⟩ := rx
  obtain ⟨t', rfl⟩ := ry
  refine PySem.P.mul_str (by rw [decide_eq_false (by omega), decide_eq_false (by omega)]; rfl) (fun _ _ => ?_) (fun _ _ => ?_) ?_
  · have : (2 ^ 63 - 1) / n ≥ 101 := by
      refine Int.le_ediv_of_mul_le (by omega) ?_
      omega
    omega
  · have h1 : z.length * n.toNat ≤ 100 * 100 := Nat.mul_le_mul z100 (by omega)
    unfold Builtin.Str.tooLong
    exact decide_eq_false (by rw [sizeLine_eq]; omega)
  · rw [if_neg (by omega), if_neg (by simp; omega)]
    have h1 : z.length * n.toNat ≤ 100 * 100 := Nat.mul_le_mul z100 (by omega)
    have e : (⟨(List.replicate n.toNat z.cps).foldl (· ++ ·) #[]⟩ : Str).length = n.toNat * z.length := by
      show ((List.replicate n.toNat z.cps).foldl (· ++ ·) #[]).size = _
      rw [size_times]
      simp [Str.length]
    rw [Nat.mul_comm] at h1
    refine ⟨by rw [e, sizeLine_eq]; omega, ⟨.str _, H, I.tok _, ⟨_, rfl⟩, q⟩⟩
end
end Q0

/-! t[::-1] of a tuple; expressions that put data together apart from the well. -/
namespace Q0
open PySem PySem.Spec PyProof.Rows L2 HT
section
variable {prog : Program} {w : World} {A : Around} {E : Value → Shared → Prop} {s : Shared}
theorem adjust_rev (n : Nat) : Builtin.Slice.sliceAdjust none none (-1) (n : Int) = ((n : Int) - 1, -1) := by
  unfold Builtin.Slice.sliceAdjust
  simp
theorem places_rev (n : Nat) : Builtin.Slice.slicePlaces ((n : Int) - 1) (-1) (-1) = n := by
  unfold Builtin.Slice.slicePlaces
  have h1 : ¬ ((-1 : Int) > 0) := by omega
  simp only [h1, if_false]
  by_cases h : (n : Int) - 1 > -1
  · rw [if_pos h, show (-(-1) : Int) = 1 by decide, Int.ediv_one]
    omega
  · rw [if_neg h]
    omega
theorem sliceApplied_rev {sl : Addr} {vs : Value} {n : Nat} {Q : Int × Int × Nat → Shared → Prop} (hs : s.heap.IsSliceOf sl .none .none vs) (ps : IsPart vs (some (-1)))
    (h : Q ((n : Int) - 1, -1, n) s) : wpAny (model prog w) A (Builtin.Slice.sliceApplied (.ref sl) (pure (n : Int))) Q E s := by
  obtain ⟨os, hos, hcs, hds⟩ := id hs
  unfold Builtin.Slice.sliceApplied Builtin.Slice.sliceFields
  refine wpAny_bind (wpAny_bind (wpAny_field hos hds (x := .none) rfl (wpAny_bind (wpAny_field hos hds (x := .none) rfl (wpAny_bind (wpAny_field hos hds (x := vs) rfl (wpAny_pure ?_)))))))
  refine wpAny_bind (slicePart_ ps ?_)
  show wpAny _ _ (if ((-1 : Int) == 0) = true then _ else _) _ _ s
  rw [if_neg (by decide)]
  refine wpAny_bind (slicePart_none (wpAny_bind (slicePart_none (wpAny_bind (wpAny_pure ?_)))))
  show wpAny _ _ (match Builtin.Slice.sliceAdjust none none (-1) (n : Int) with | (lo, hi) => pure (lo, (-1 : Int), Builtin.Slice.slicePlaces lo hi (-1))) _ _ s
  rw [adjust_rev n]
  show wpAny _ _ (pure ((n : Int) - 1, (-1 : Int), Builtin.Slice.slicePlaces ((n : Int) - 1) (-1) (-1))) _ _ s
  rw [places_rev]
  exact wpAny_pure h
theorem pick_rev (xs : Array Value) : ((List.range xs.size).filterMap fun (k : Nat) => xs[(((xs.size : Int) - 1) + (k : Int) * (-1)).toNat]?) = xs.toList.reverse := by
  have e : (fun (k : Nat) => xs[(((xs.size : Int) - 1) + (k : Int) * (-1)).toNat]?) = fun k => (fun j => xs[j]?) (xs.size - 1 - k) := by
    funext k
    have : (((xs.size : Int) - 1) + (k : Int) * (-1)).toNat = xs.size - 1 - k := by omega
    rw [this]
  rw [e]
  have := PySem.W.krv_all xs
  have e2 : (List.range xs.size).filterMap (fun k => (fun j => xs[j]?) (xs.size - 1 - k)) = ((List.range xs.size).map fun k => xs.size - 1 - k).filterMap (fun j => xs[j]?) := by
    rw [List.filterMap_map] <;> rfl
  rw [e2, PySem.W.krv_range, List.filterMap_reverse, PySem.W.krv_all]
theorem getItem_tuple_rev {t sl : Addr} {items : Array Value} {vs : Value} {Q : Value → Shared → Prop} (ht : IsTup s.heap t items) (hs : s.heap.IsSliceOf sl .none .none vs) (ps : IsPart vs (some (-1)))
    (h : Q (.ref s.heap.objs.size) { s with heap := s.heap.push { cls := .type "tuple", data := .seq items.toList.reverse.toArray } })
    (hsz : items.size ≤ sizeLine) : wpAny (model prog w) A (getItem (.ref t) (.ref sl)) Q E s := by
  have htake : sizeOk (.seq items.toList.reverse.toArray) := by
    show items.toList.reverse.toArray.size ≤ sizeLine
    rw [List.size_toArray, List.length_reverse, Array.length_toList]
    exact hsz
  obtain ⟨os, hos, hcs, hds⟩ := id hs
  have hTs : s.TypeIs (.ref sl) "slice" := ⟨os, hos, hcs⟩
  unfold getItem
  try with_reducible refine wpAny_holding ?_
  first | refine wpAny_bind (wpAny_pure ?_) | skip
  refine wpAny_bind (wpAny_sequenceKey ht.typeIs (by decide) ?_)
  refine wpAny_bind (wpAny_callSpecial?_slot (name := Str.ofString "__getitem__") ht.typeIs PyProof.Rows.slot_tuple_getitem
    (wpAny_call_entry PyProof.Rows.slot_tuple_getitem ht.typeIs entry_tuple_getitem ?_ (args_tuple_getitem _ _)))
  show wpAny _ _ (Builtin.Tuple.tupleItemsOf (.ref t) >>= _) _ _ s
  refine wpAny_bind (tupleItemsOf_ ht ?_)
  refine wpAny_bind (wpAny_typeOf hTs ?_)
  rw [if_pos (by decide)]
  refine wpAny_bind (sliceApplied_rev hs ps ?_)
  have hno : ¬ ((((items.size : Int) - 1) == 0 && (-1 : Int) == 1 && items.size == items.size) = true) := by
    intro q
    rw [Bool.and_eq_true, Bool.and_eq_true] at q
    exact absurd q.1.2 (by decide)
  show wpAny _ _ (if (((items.size : Int) - 1) == 0 && (-1 : Int) == 1 && items.size == items.size) = true then _ else _) _ _ s
  rw [if_neg hno, pick_rev]
  first
    | exact wpAny_bind (m := Builtin.Tuple.tupleExact _) (wpAny_newObj_type (wpAny_pure ⟨_, rfl, wpAny_pure h⟩) htake)
    | exact wpAny_bind (m := Builtin.Tuple.tupleExact _) (wpAny_newObj_type (wpAny_bind (wpAny_pure (wpAny_pure ⟨_, rfl, wpAny_pure h⟩))) htake)
    | exact wpAny_bind (wpAny_bind (m := Builtin.Tuple.tupleExact _) (wpAny_newObj_type (wpAny_pure (wpAny_pure ⟨_, rfl, wpAny_pure h⟩)) htake))
    | exact wpAny_bind (wpAny_bind (m := Builtin.Tuple.tupleExact _) (wpAny_newObj_type (wpAny_pure ⟨_, rfl, wpAny_pure h⟩) htake))
end
section
variable {X : Cx}
def tRevT (K : PySem.W.Frag) (te : TE) : TE := fun σ H Q => te σ H fun x H1 => ∃ a xs, x = .ref a ∧ SqT K H1 a xs ∧ ∀ p, H1 p = none → Q (.ref p) (upd H1 p (.tup xs.reverse))
theorem pe_revT {e : Expr} {te : TE} {k : Nat} {p1 p2 p3 pos : Pos} (he : PE X e te) : PE X (.Subscript e (.Slice none none (some (.UnaryOp .USub (.Constant (.int 1) k p1) p2)) p3) pos) (tRevT X.K te) := by
  refine ⟨fun pins s σ H Q I h => ?_⟩
  refine Subscript_ (thn (he.run pins s σ H _ I h) fun v s1 ⟨x, H1, I1, r1, q1⟩ => ?_)
  obtain ⟨a, xs, ex, hx, q⟩ := q1
  subst ex
  cases r1
  have hst : PO X (some (.UnaryOp .USub (.Constant (.int 1) k p1) p2)) (tPart (tUn (rU fun i => .int (-i)) (tC (.int 1)))) := po_some (pe_un un_neg pe_int)
  refine wpAny_Slice (thn (po_none.run pins s1 σ H1 (fun o H2 => o = none ∧ H2 = H1) I1 ⟨rfl, rfl⟩) fun vl s2 ⟨l, H2, I2, pl, el, e2⟩ => ?_)
  subst el e2
  refine thn (po_none.run pins s2 σ H2 (fun o H3 => o = none ∧ H3 = H2) I2 ⟨rfl, rfl⟩) fun vu s3 ⟨u, H3, I3, pu, eu, e3⟩ => ?_
  subst eu e3
  refine thn (hst.run pins s3 σ H3 (fun o H4 => o = some (-1) ∧ H4 = H3) I3 ⟨1, rfl, -1, rfl, rfl, rfl⟩) fun vs s4 ⟨o, H4, I4, ps, eo, e4⟩ => ?_
  subst eo e4
  have I5 : Inv X pins σ H4 { s4 with heap := s4.heap.push { cls := .type "slice", data := .fields #[vl, vu, vs] } } := I4.kept (t' := s4.toks) fun b ob q => Heap.get?_push_of_some _ q
  obtain ⟨its, r, ht, hz⟩ := I5.tuple hx
  have hlen := r.length
  cases pl
  cases pu
  show wpAny (model X.prog X.w) X.A (subscriptTail e (.Slice none none (some (.UnaryOp .USub (.Constant (.int 1) k p1) p2)) p3) (.ref a) (.ref s4.heap.objs.size)) (EP X pins σ Q) X.xe { s4 with heap := s4.heap.push { cls := .type "slice", data := .fields #[.none, .none, vs] } }
  refine tail_any (ops := [.ref a, .ref s4.heap.objs.size]) ht.typeIs (PyProof.Rows.slot_tuple_getitem.lookup) ?_ (by with_unfolding_all rfl)
  refine getItem_tuple_rev ht (Heap.IsSliceOf.new _ .none .none vs) ps ?_ (by rw [List.size_toArray]; omega)
  refine ⟨.ref _, _, I5.laid (t' := s4.toks) (o := .tup xs.reverse) (fun b ob q => Heap.get?_push_of_some _ q) (Nat.le_refl _) ?_, rfl, q _ (I5.hok.fresh (Nat.le_refl _))⟩
  exact ⟨by rw [List.length_reverse]; exact hz, _, r.reverse, IsTup.new _ _⟩
end

/-! ### expressions that give data apart from the well at p -/
def isTo (n : Nat) (d : PyData) : Prop := ∃ ds, d = .tuple ds ∧ ds.length ≤ n ∧ ∀ x ∈ ds, okT x = true
def isLo (n : Nat) (d : PyData) : Prop := ∃ ds, d = .list ds ∧ ds.length ≤ n ∧ ∀ x ∈ ds, okT x = true
def isOk (d : PyData) : Prop := okT d = true
theorem isTo.ok {n : Nat} {d : PyData} (h : isTo n d) : isOk d := by
  obtain ⟨ds, rfl, _, h⟩ := h
  exact okTs_of h
theorem isLo.ok {n : Nat} {d : PyData} (h : isLo n d) : isOk d := by
  obtain ⟨ds, rfl, _, h⟩ := h
  exact okTs_of h
/-- what a reading wants ahead, and keeps while only the well moves -/
def Stb (p : Addr) (pre : L2.St → Hp → Prop) : Prop := ∀ σ H H', But p H H' → pre σ H → pre σ H'
def wV (p : Addr) (i : Nat) (P : PyData → Prop) : L2.St → Hp → Prop := fun σ H => ∃ v d, σ[i]? = some (some v) ∧ Dd (L2.del H p) v d ∧ P d
def wI (i : Nat) : L2.St → Hp → Prop := fun σ _ => ∃ n : Nat, σ[i]? = some (some (.int n))
def wP (p : Addr) (i : Nat) : L2.St → Hp → Prop := fun σ _ => σ[i]? = some (some (.ref p))
theorem stb_T {p : Addr} : Stb p pT := fun _ _ _ _ h => h
theorem stb_V {p : Addr} {i : Nat} {P : PyData → Prop} : Stb p (wV p i P) := fun _ _ _ s ⟨v, d, h1, h2, h3⟩ => ⟨v, d, h1, h2.but s, h3⟩
theorem stb_I {p : Addr} {i : Nat} : Stb p (wI i) := fun _ _ _ _ h => h
theorem stb_P {p : Addr} {i : Nat} : Stb p (wP p i) := fun _ _ _ _ h => h
theorem stb_and {p : Addr} {a b : L2.St → Hp → Prop} (ha : Stb p a) (hb : Stb p b) : Stb p (pAnd a b) := fun σ H H' s ⟨h1, h2⟩ => ⟨ha σ H H' s h1, hb σ H H' s h2⟩
def tW (p : Addr) (pre : L2.St → Hp → Prop) (P : PyData → Prop) : TE := fun σ H Q => Well H p ∧ pre σ H ∧ ∀ v d H', Well H' p → But p H H' → Dd (L2.del H' p) v d → P d → Q v H'
def tWs (p : Addr) (pre : L2.St → Hp → Prop) (n : Nat) : TA := fun σ H Q => Well H p ∧ pre σ H ∧ ∀ vs ds H', Well H' p → But p H H' → DdA (L2.del H' p) vs ds → ds.length = n → (∀ d ∈ ds, okT d = true) → Q vs H'
section
variable {X : Cx} {e e2 : Expr} {es : List Expr} {p : Addr} {p1 p2 p3 : L2.St → Hp → Prop} {P P' : PyData → Prop} {pos pos2 : Pos} {n m : Nat} {d : PyData}
theorem dw_imp (h : PE X e (tW p p1 P)) (i : ∀ d, P d → P' d) : PE X e (tW p p1 P') := pe_imp h fun σ H Q ⟨a, b, k⟩ => ⟨a, b, fun v d H' w bt hd pd => k v d H' w bt hd (i d pd)⟩
theorem dw_ok (h : PE X e (tW p p1 (isTo n))) : PE X e (tW p p1 isOk) := dw_imp h fun _ q => q.ok
theorem dw_okL (h : PE X e (tW p p1 (isLo n))) : PE X e (tW p p1 isOk) := dw_imp h fun _ q => q.ok
theorem dw_c {p0 : L2.St → Hp → Prop} (h : ∀ H0, PE X e (tD H0 p0 d)) (hpre : ∀ σ H, p0 σ H) (hp : P d) : PE X e (tW p pT P) := ⟨fun pins s σ H Q I ⟨w, _, k⟩ => (h H).run pins s σ H Q I ⟨Bs.refl, hpre σ H, fun v H' s dd => k v d H' (w.same s) (Same.but s) (dd.apart w.some) hp⟩⟩
theorem dw_var {i : Nat} (h : PE X e (tVar i)) : PE X e (tW p (wV p i P) P) := pe_imp h fun σ H Q ⟨w, ⟨v, d, h1, h2, h3⟩, k⟩ => ⟨v, h1, k v d H w But.refl h2 h3⟩
theorem dws_nil : PA X [] (tWs p pT 0) := ⟨fun pos pins s σ H Q I ⟨w, _, k⟩ => pa_nil.run pos pins s σ H Q I (k [] [] H w But.refl .nil rfl fun _ z => (nomatch z))⟩
theorem dws_cons (st : Stb p p2) (h : PE X e (tW p p1 isOk)) (hs : PA X es (tWs p p2 n)) (he : starEach (e :: es) X.env = (false, eval e X.env) :: starEach es X.env := by rfl) : PA X (e :: es) (tWs p (pAnd p1 p2) (n + 1)) :=
  ⟨fun pos pins s σ H Q I ⟨w, ⟨q1, q2⟩, k⟩ => (pa_cons h hs he).run pos pins s σ H Q I
    (show tW p p1 isOk σ H _ from ⟨w, q1, fun v d H1 w1 b1 h1 o1 => show tWs p p2 n σ H1 _ from ⟨w1, st σ H H1 b1 q2, fun vs ds H2 w2 b2 h2 l2 o2 => k _ _ H2 w2 (b1.trans b2) (.cons (h1.but b2) h2) (congrArg Nat.succ l2) fun x hx => (List.mem_cons.mp hx).elim (fun z => z ▸ o1) (o2 x)⟩⟩)⟩
theorem dw_tup {k} (h : PA X es (tWs p p1 n)) (hl : n ≤ sizeLine := by first | decide | (rw [sizeLine_eq]; decide)) : PE X (.Tuple es k pos) (tW p p1 (isTo n)) :=
  pe_imp (pe_tup h) fun σ H Q ⟨w, q, k⟩ => show tWs p p1 n σ H _ from ⟨w, q, fun vs ds H1 w1 b1 h1 l1 o1 => ⟨by rw [h1.length, l1]; exact hl, fun q hq => k _ _ _ (w1.new hq) (b1.trans (new_but hq))
    (.tup (del_new (w1.ne hq).symm) (h1.mono (new_but hq).del)) ⟨ds, rfl, by omega, o1⟩⟩⟩
theorem dw_lst (h : PA X es (tWs p p1 n)) (hl : n ≤ sizeLine := by first | decide | (rw [sizeLine_eq]; decide)) : PE X (.List es pos) (tW p p1 (isLo n)) :=
  pe_imp (pe_lstN h) fun σ H Q ⟨w, q, k⟩ => show tWs p p1 n σ H _ from ⟨w, q, fun vs ds H1 w1 b1 h1 l1 o1 => ⟨by rw [h1.length, l1]; exact hl, fun q hq hs => k _ _ _ (w1.new hq) (b1.trans (new_but hq))
    (.lst (del_new (w1.ne hq).symm) hs (h1.mono (new_but hq).del)) ⟨ds, rfl, by omega, o1⟩⟩⟩
theorem dw_cat (st : Stb p p2) (h : PE X e (tW p p1 (isTo n))) (h2 : PE X e2 (tW p p2 (isTo m))) (hl : n + m ≤ 100000 := by decide) : PE X (.BinOp e .Add e2 pos) (tW p (pAnd p1 p2) (isTo (n + m))) := by
  refine pe_imp (pe_op op_catA h h2) fun σ H Q ⟨w, ⟨q1, q2⟩, k⟩ => ?_
  refine ⟨w, q1, fun v d H1 w1 b1 hd pd => ⟨w1, st σ H H1 b1 q2, fun v2 d2 H2 w2 b2 hd2 pd2 => ?_⟩⟩
  obtain ⟨ds, rfl, l1, o1⟩ := pd
  obtain ⟨es, rfl, l2, o2⟩ := pd2
  obtain ⟨a, xs, rfl, ha, A⟩ := (hd.but b2).tupD
  obtain ⟨b, ys, rfl, hb, B⟩ := hd2.tupD
  have la := A.length
  have lb := B.length
  have oo : ∀ x ∈ ds ++ es, okT x = true := fun x hx => (List.mem_append.mp hx).elim (o1 x) (o2 x)
  refine ⟨a, b, xs, ys, rfl, rfl, SqT.of (del_old _ _ ha), SqT.of (del_old _ _ hb), by rw [sizeLine_eq]; omega, fun z => ?_, fun _ z => ?_, fun _ _ q hq => ?_⟩
  · exact k _ _ _ w2 (b1.trans b2) hd2 ⟨es, rfl, by omega, o2⟩
  · exact k _ _ _ w2 (b1.trans b2) (hd.but b2) ⟨ds, rfl, by omega, o1⟩
  · exact k _ _ _ (w2.new hq) ((b1.trans b2).trans (new_but hq)) (.tup (del_new (w2.ne hq).symm) ((A.append B).mono (new_but hq).del)) ⟨_, rfl, by rw [List.length_append]; omega, oo⟩
theorem dw_catL (st : Stb p p2) (h : PE X e (tW p p1 (isLo n))) (h2 : PE X e2 (tW p p2 (isLo m))) (hl : n + m ≤ 100000 := by decide) : PE X (.BinOp e .Add e2 pos) (tW p (pAnd p1 p2) (isLo (n + m))) := by
  refine pe_imp (pe_op op_catN h h2) fun σ H Q ⟨w, ⟨q1, q2⟩, k⟩ => ?_
  refine ⟨w, q1, fun v d H1 w1 b1 hd pd => ⟨w1, st σ H H1 b1 q2, fun v2 d2 H2 w2 b2 hd2 pd2 => ?_⟩⟩
  obtain ⟨ds, rfl, l1, o1⟩ := pd
  obtain ⟨es, rfl, l2, o2⟩ := pd2
  obtain ⟨a, xs, rfl, ha, A⟩ := (hd.but b2).lstD
  obtain ⟨b, ys, rfl, hb, B⟩ := hd2.lstD
  have la := A.length
  have lb := B.length
  have oo : ∀ x ∈ ds ++ es, okT x = true := fun x hx => (List.mem_append.mp hx).elim (o1 x) (o2 x)
  refine ⟨a, b, xs, ys, rfl, rfl, del_old _ _ ha, del_old _ _ hb, by rw [sizeLine_eq]; omega, fun q hq hs => ?_⟩
  exact k _ _ _ (w2.new hq) ((b1.trans b2).trans (new_but hq)) (.lst (del_new (w2.ne hq).symm) hs ((A.append B).mono (new_but hq).del)) ⟨_, rfl, by rw [List.length_append]; omega, oo⟩
/-- list(t) -/
theorem dw_list {lp : Pos} (hm : X.mg "list" = none) (h : PE X e (tW p p1 (isTo n))) (hg : Gl X "list" := by rfl) (he : starEach [e] X.env = (false, eval e X.env) :: starEach [] X.env := by rfl)
    (hpl : (backTo pos (starEach [] X.env)).any (·.1) = false := by rfl) : PE X (.Call (.Name "list" lp) [e] [] pos) (tW p p1 (isLo n)) := by
  refine pe_imp (pe_callTy call_list_N hg hm (by decide +kernel) (pa_cons h pa_nil he) (by decide) (by decide) he hpl) fun σ H Q ⟨w, q1, k⟩ => ?_
  refine ⟨w, q1, fun v d H1 w1 b1 hd pd => ?_⟩
  obtain ⟨ds, rfl, l1, o1⟩ := pd
  obtain ⟨a, xs, rfl, ha, A⟩ := hd.tupD
  refine ⟨a, xs, rfl, .inr (SqT.of (del_old _ _ ha)), fun q hq hs => ?_⟩
  exact k _ _ _ (w1.new hq) (b1.trans (new_but hq)) (.lst (del_new (w1.ne hq).symm) hs (A.mono (new_but hq).del)) ⟨_, rfl, l1, o1⟩
theorem cut_dd {H : Hp} {xs : List V} {ds : List PyData} (A : DdA H xs ds) (lo hi : Option Int) : ∃ es, DdA H (cutV xs lo hi) es ∧ es.length ≤ ds.length ∧ ∀ x ∈ es, x ∈ ds := by
  refine ⟨_, (A.drop (HT.sIx xs.length 0 lo)).take (HT.sIx xs.length xs.length hi - HT.sIx xs.length 0 lo), ?_, fun x hx => List.mem_of_mem_drop (List.mem_of_mem_take hx)⟩
  rw [List.length_take, List.length_drop]
  omega
/-- t[lo:hi] -/
theorem dw_cut {lo hi : Option Expr} {tl th : TO} (h : PE X e (tW p p1 (isTo n))) (hl : PO X lo tl) (hh : PO X hi th) (jl : ∀ σ H (Q : Option Int → Hp → Prop), p2 σ H → (∀ o, Q o H) → tl σ H Q) (jh : ∀ σ H (Q : Option Int → Hp → Prop), p2 σ H → (∀ o, Q o H) → th σ H Q) (st : Stb p p2) :
    PE X (.Subscript e (.Slice lo hi none pos2) pos) (tW p (pAnd p1 p2) (isTo n)) := by
  refine pe_imp (pe_slice sl_tupA h hl hh) fun σ H Q ⟨w, ⟨q1, q2⟩, k⟩ => ?_
  refine ⟨w, q1, fun v d H1 w1 b1 hd pd => ?_⟩
  have q3 := st σ H H1 b1 q2
  refine jl σ H1 _ q3 fun l => jh σ H1 _ q3 fun u => ?_
  obtain ⟨ds, rfl, l1, o1⟩ := pd
  obtain ⟨a, xs, rfl, ha, A⟩ := hd.tupD
  refine ⟨a, xs, rfl, SqT.of (del_old _ _ ha), fun _ => k _ _ _ w1 b1 hd ⟨ds, rfl, l1, o1⟩, fun _ q hq => ?_⟩
  obtain ⟨es, E, le, me⟩ := cut_dd A l u
  exact k _ _ _ (w1.new hq) (b1.trans (new_but hq)) (.tup (del_new (w1.ne hq).symm) (E.mono (new_but hq).del)) ⟨es, rfl, by omega, fun x hx => o1 x (me x hx)⟩
/-- (x,) * 4 -/
theorem dw_rep {k : Int} {j : Nat} {cp tp : Pos} {kk} (h : PE X e (tW p p1 isOk)) (h2 : 2 ≤ k := by decide) (h3 : k ≤ 1000 := by decide) (he : starEach [e] X.env = (false, eval e X.env) :: starEach [] X.env := by rfl) :
    PE X (.BinOp (.Tuple [e] kk tp) .Mult (.Constant (.int k) j cp) pos) (tW p p1 (isTo k.toNat)) := by
  refine pe_imp (pe_op op_repT (pe_tup (pa_cons h pa_nil he)) pe_int) fun σ H Q ⟨w, q1, k0⟩ => ?_
  refine ⟨w, q1, fun v d H1 w1 b1 hd pd => ⟨by show 1 ≤ sizeLine; rw [sizeLine_eq]; decide, fun q hq => ?_⟩⟩
  have hd2 := hd.mono (new_but (p := p) (o := .tup [v]) hq).del
  refine ⟨q, k, [v], rfl, rfl, SqT.of upd_same, fun z => (nomatch z), h2, h3, by show 1 ≤ 1000; decide, fun r hr => ?_⟩
  have w2 := w1.new (o := .tup [v]) hq
  have e1 : (List.replicate k.toNat [v]).flatten = List.replicate k.toNat v := by
    generalize k.toNat = n
    induction n with
    | zero => rfl
    | succ n ih => rw [List.replicate_succ, List.flatten_cons, ih]; rfl
  have A : ∀ n, DdA (L2.del (upd (upd H1 q (.tup [v])) r (.tup (List.replicate k.toNat [v]).flatten)) p) (List.replicate n v) (List.replicate n d) := fun n => by
    induction n with
    | zero => exact .nil
    | succ n ih => exact .cons (hd2.mono (new_but (p := p) hr).del) ih
  refine k0 _ _ _ (w2.new hr) ((b1.trans (new_but hq)).trans (new_but hr)) (.tup (del_new (w2.ne hr).symm) (by rw [e1]; exact e1 ▸ A k.toNat)) ⟨_, rfl, by rw [List.length_replicate]; exact Nat.le_refl _, fun x hx => ?_⟩
  rw [(List.mem_replicate.mp hx).2]
  exact pd
end
end Q0

/-! More of the same: what is made of ints and texts; one of a displayed tuple; ways that meet again. -/
namespace Q0
open PySem PySem.Spec PyProof.Rows L2
theorem seq_nx {a b : TS} {D : Ends} {σ : L2.St} {H : Hp} (I : L2.St → Hp → Prop) (hI : ∀ σ H, I σ H → b D σ H) (h : ∀ N : L2.St → Hp → Prop, (∀ σ H, I σ H → N σ H) → a { D with nx := N } σ H) : tSeq a b D σ H := h _ hI
theorem shB_isTo {n : Nat} {ds : List PyData} (h : shB n (.tuple ds) = true) : isTo 1000 (.tuple ds) := by
  cases n with
  | zero => exact (shB_zero h).elim
  | succ n =>
    obtain ⟨h1, h2⟩ := shB_tup h
    exact ⟨ds, rfl, h1, fun d hd => shB_ok (h2 d hd)⟩
def wZ (i : Nat) : L2.St → Hp → Prop := fun σ _ => ∃ k : Int, σ[i]? = some (some (.int k))
def wS (i : Nat) : L2.St → Hp → Prop := fun σ _ => ∃ x : Str, σ[i]? = some (some (.str x)) ∧ x.length ≤ 100
def wK (i n : Nat) : L2.St → Hp → Prop := fun σ _ => ∃ k : Int, σ[i]? = some (some (.int k)) ∧ 0 ≤ k ∧ k < n
theorem stb_Z {p : Addr} {i : Nat} : Stb p (wZ i) := fun _ _ _ _ h => h
theorem stb_S {p : Addr} {i : Nat} : Stb p (wS i) := fun _ _ _ _ h => h
theorem stb_K {p : Addr} {i n : Nat} : Stb p (wK i n) := fun _ _ _ _ h => h
section
variable {X : Cx} {e e2 : Expr} {es : List Expr} {p : Addr} {p1 p2 p3 : L2.St → Hp → Prop} {P P' : PyData → Prop} {pos pos2 : Pos} {n m : Nat} {d : PyData} {t : TE} {ts : TA}
theorem dw_of (h : PE X e t) (i : ∀ σ H (Q : VK), Well H p → p1 σ H → (∀ v d H', Well H' p → But p H H' → Dd (L2.del H' p) v d → P d → Q v H') → t σ H Q) : PE X e (tW p p1 P) := pe_imp h fun σ H Q ⟨w, q, k⟩ => i σ H Q w q k
theorem dw_str {x : Str} {j : Nat} (h : okT (.str x) = true := by decide +kernel) : PE X (.Constant (.str x) j pos) (tW p pT isOk) := dw_of pe_str fun σ H Q w _ k => k _ (.str x) H w But.refl (.str x) h
theorem dw_int {x : Int} {j : Nat} : PE X (.Constant (.int x) j pos) (tW p pT isOk) := dw_of pe_int fun σ H Q w _ k => k _ (.int x) H w But.refl (.int x) rfl
theorem dw_non {j : Nat} : PE X (.Constant .none j pos) (tW p pT isOk) := dw_of pe_non fun σ H Q w _ k => k _ .none H w But.refl .non rfl
/-- (..)[k] -/
theorem dw_pick {i : Nat} {kk} (h : PA X es (tWs p p1 n)) (hi : PE X e2 (tVar i)) (hp : PlainIx e2) (hl : n ≤ sizeLine := by first | decide | (rw [sizeLine_eq]; decide)) : PE X (.Subscript (.Tuple es kk pos) e2 pos2) (tW p (pAnd p1 (wK i n)) isOk) := by
  refine pe_imp (pe_ix ix_tup (pe_tup h) hi hp) fun σ H Q ⟨w, ⟨q1, q2⟩, k⟩ => ?_
  refine ⟨w, q1, fun vs ds H1 w1 b1 h1 l1 o1 => ⟨by rw [h1.length, l1]; exact hl, fun q hq => ?_⟩⟩
  obtain ⟨j, ej, j0, jn⟩ := q2
  have lv : vs.length = n := by rw [h1.length, l1]
  have hj : j.toNat < vs.length := by omega
  obtain ⟨d, ed, hd⟩ := h1.get (List.getElem?_eq_getElem hj)
  have e : j = ((j.toNat : Nat) : Int) := by omega
  have ea : atI vs ((j.toNat : Nat) : Int) = some vs[j.toNat] := atI_nat (List.getElem?_eq_getElem hj)
  rw [← e] at ea
  exact ⟨_, ej, q, vs, j, _, rfl, rfl, SqT.of upd_same, ea, k _ d _ (w1.new hq) (b1.trans (new_but hq)) (hd.but (new_but hq)) (o1 d (List.mem_of_getElem? ed))⟩
/-- t[::-1] -/
theorem dw_rev {k : Nat} {q1 q2 q3 : Pos} (h : PE X e (tW p p1 (isTo n))) : PE X (.Subscript e (.Slice none none (some (.UnaryOp .USub (.Constant (.int 1) k q1) q2)) q3) pos) (tW p p1 (isTo n)) := by
  refine pe_imp (pe_revT h) fun σ H Q ⟨w, q1, k⟩ => ?_
  refine ⟨w, q1, fun v d H1 w1 b1 hd pd => ?_⟩
  obtain ⟨ds, rfl, l1, o1⟩ := pd
  obtain ⟨a, xs, rfl, ha, A⟩ := hd.tupD
  refine ⟨a, xs, rfl, SqT.of (del_old _ _ ha), fun q hq => ?_⟩
  exact k _ _ _ (w1.new hq) (b1.trans (new_but hq)) (.tup (del_new (w1.ne hq).symm) (A.rev.mono (new_but hq).del)) ⟨_, rfl, by rw [List.length_reverse]; exact l1, fun x hx => o1 x (List.mem_reverse.mp hx)⟩
/-- a written text, several times -/
theorem dw_times {x : Str} {k : Int} {j j2 : Nat} {q1 q2 : Pos} (h2 : 2 ≤ k := by decide) (h3 : k ≤ 100 := by decide) (h4 : 1 ≤ x.length := by decide) (h5 : x.length ≤ 100 := by decide) : PE X (.BinOp (.Constant (.str x) j q1) .Mult (.Constant (.int k) j2 q2) pos) (tW p pT isOk) :=
  dw_of (pe_op op_mulS pe_str pe_int) fun σ H Q w _ kk => ⟨x, k, rfl, rfl, h2, h3, h4, h5, kk _ _ H w But.refl (.str _) (decide_eq_true (by
    have e : (⟨(List.replicate k.toNat x.cps).foldl (· ++ ·) #[]⟩ : Str).length = k.toNat * x.length := by
      show ((List.replicate k.toNat x.cps).foldl (· ++ ·) #[]).size = _
      rw [size_times]
      simp [Str.length]
    have h1 : k.toNat * x.length ≤ 100 * 100 := Nat.mul_le_mul (by omega) h5
    rw [e]
    omega))⟩
end
end Q0

namespace Q0
open PySem PySem.Spec PyProof.Rows L2
def top (i : Nat) : Stmt := PySem.Challenge.pw_instances_k02_signatures_of_anything_sma.main.body.getD i (.Pass ⟨0, 0, 0, 0⟩)
abbrev s_is_name : Stmt := top 4
abbrev s_is_tuple : Stmt := top 5
abbrev s_is_among : Stmt := top 6
abbrev s_are_unlike : Stmt := top 7
abbrev s_is_signature : Stmt := top 16
abbrev s_are_kinds_told : Stmt := top 17
abbrev s_is_kind_told : Stmt := top 18
abbrev s_are_makers_told : Stmt := top 19
abbrev s_is_maker_told : Stmt := top 20
abbrev s_have_terms : Stmt := top 21
abbrev s_check_signature : Stmt := top 22
abbrev s_check_kind : Stmt := top 23
abbrev s_kind_names : Stmt := top 24
abbrev s_makers_by_kind : Stmt := top 25
abbrev s_is_small : Stmt := top 26
abbrev s_small_kinds : Stmt := top 27
abbrev s_well : Stmt := top 29
abbrev s_draw : Stmt := top 30
abbrev s_one : Stmt := top 31
abbrev s_mixed : Stmt := top 32
abbrev s_is_whole : Stmt := top 33
abbrev s_odd_thing : Stmt := top 34
abbrev s_bent : Stmt := top 35
abbrev s_lis_name : Stmt := top 36
abbrev s_is_pair : Stmt := top 37
abbrev s_living : Stmt := top 38
abbrev s_lis_signature : Stmt := top 39
abbrev s_makers : Stmt := top 40
abbrev s_is_open : Stmt := top 41
abbrev s_lis_small : Stmt := top 42
abbrev s_some_sig : Stmt := top 43
abbrev s_turned : Stmt := top 44
abbrev s_sig : Stmt := top 45
abbrev s_things : Stmt := top 46
abbrev s_right : Stmt := top 47
abbrev s_law : Stmt := top 48

/-- the constants of the modules -/
structure Cn (mg : Str → Option Value) : Prop where
  LETTERS : ∃ u, mg "LETTERS" = some u ∧ RelV (.str "abcdefghijklmnopqrstuvwxyz") u
  NAME_SIGNS : ∃ u, mg "NAME_SIGNS" = some u ∧ RelV (.str "abcdefghijklmnopqrstuvwxyz0123456789_") u
  LONGEST_NAME : ∃ u, mg "LONGEST_NAME" = some u ∧ RelV (.int 12) u
  MOST_KINDS : ∃ u, mg "MOST_KINDS" = some u ∧ RelV (.int 8) u
  MOST_MAKERS : ∃ u, mg "MOST_MAKERS" = some u ∧ RelV (.int 24) u
  MOST_NEEDS : ∃ u, mg "MOST_NEEDS" = some u ∧ RelV (.int 3) u
/-- a constant, told by its name -/
theorem pe_cn {X : Cx} {x : Str} {v : V} {pos : Pos} (hg : Gl X x) (h : ∃ u, X.mg x = some u ∧ RelV v u) (hd : (x == ("__debug__" : Str)) = false := by decide) : PE X (.Name x pos) (tC v) :=
  let ⟨_, a, b⟩ := h
  pe_glob hg a b hd

theorem upd_at {H : Hp} {a b : Addr} {u : HO} {o : Option HO} (n : b ≠ a) (h : H b = o) : upd H a u b = o := (upd_ne n).trans h

/-- side conditions -/
local macro_rules | `(tactic| walk_at "sd") => `(tactic| first
  | assumption
  | exact Or.inr ⟨by omega, by omega⟩
  | exact Or.inl ⟨by omega, by omega⟩
  | (show _ ≤ sizeLine; rw [sizeLine_eq]; simp only [List.length_cons, List.length_nil, List.length_append, List.length_map]; omega)
  | (show _ < sizeLine; rw [sizeLine_eq]; simp only [List.length_cons, List.length_nil, List.length_append, List.length_map]; omega)
  | exact ⟨by omega, by omega⟩
  | exact (by decide : _ ≠ _)
  | omega)
/-- what stands at an address -/
local macro_rules | `(tactic| walk_at "hp") => `(tactic| first
  | assumption
  | exact upd_same
  | (refine' upd_at ?hn ?hh; (case hn => first | assumption | (apply Ne.symm; assumption)); (case hh => walk_at "hp")))
/-- a reading, as far as it goes by itself -/
local macro_rules | `(tactic| walk_at "rd1") => `(tactic| first
  | refine ⟨_, rfl, ?_⟩
  | refine ⟨_, _, rfl, rfl, ?_⟩
  | (refine' ⟨_, _, _, _, rfl, rfl, SqL.of ?h1, ?h2, ?_⟩; (case h1 => walk_at "hp"); (case h2 => rfl))
  | (refine' ⟨_, _, _, _, rfl, rfl, SqT.of ?h1, ?h2, ?_⟩; (case h1 => walk_at "hp"); (case h2 => rfl))
  | (refine' ⟨_, _, _, _, rfl, rfl, ?h1, ?h2, ?_⟩; (case h1 => walk_at "hp"); (case h2 => rfl))
  | (refine' ⟨_, _, rfl, SqT.of ?h1, ?h2, ?_⟩; (case h1 => walk_at "hp"); (case h2 => rfl))
  | refine Or.inl ⟨_, rfl, ?_⟩
  | refine And.intro rfl ?_
  | refine And.intro (by walk_at "sd") ?_
  | refine ⟨_, _, rfl, ?_⟩)
local macro_rules | `(tactic| walk_at "rd") => `(tactic| first | (walk_at "rd1"; walk_at "rd") | skip)
local macro_rules | `(tactic| walk_at "st") => `(tactic| repeat (first | exact stab_T | exact stab_V | refine stab_and ?_ ?_))
local macro_rules | `(tactic| walk_at "pre") => `(tactic| repeat (first | exact True.intro | exact ⟨_, rfl, by assumption⟩ | refine And.intro ?_ ?_))

section
variable {P : Program} {w : World} {K : PySem.W.Frag} {mg : Str → Option Value} {base : Heap}
theorem sc_draw : FnScope ["well", "few", "figure", "mixed"] ["well", "few"] (defScope s_draw) := ⟨rfl, rfl, rfl, by decide +kernel, rfl, by decide +kernel, by decide +kernel⟩
theorem ok_draw (D : Df K mg "_law_draw" s_draw) (B : Bi mg) : Gd P w K mg base CX0 1 "_law_draw" ["well", "few"] spDraw := by
  refine gd_of D (fun _ _ _ _ _ _ us hl => match us, hl with | [_, _], _ => rfl) fun f fd F => ?_
  refine fun_q F sc_draw (fun vs H Q E h => ?_) (fun cdv A outer s H vs Q E hr hq h => ?_)
  · obtain ⟨p, few, rfl, _⟩ := h
    rfl
  obtain ⟨p, few, rfl, ⟨a, m, c, N, hp⟩, f0, f1, k⟩ := h
  refine ⟨_, pss_cons (ps_if (pt_cmpR op_gt (pe_ix ix_list (pv 0) pe_int (fun _ _ => rfl)) pe_int (nomark _))
      (pss_cons (ps_asg (pe_callB call_divmod (by rfl) B.divmod PyProof.Rows.boot_divmod (pa_cons (pe_ix ix_list (pv 0) pe_int (fun _ _ => rfl)) (pa_cons (pv 1) pa_nil)))
        (pg_tup rfl (pgs_cons (pg_sub (pv 0) pe_int set_list) (pgs_cons (pg_name (i := 2) sc_draw.nd rfl (Or.inl rfl)) pgs_nil))))
        (pss_one (ps_ret (pv 2)))) pss_nil)
    (pss_cons (ps_asg (pe_op op_add (pe_ix ix_list (pv 0) pe_int (fun _ _ => rfl)) pe_int) (pg_sub (pv 0) pe_int set_list))
    (pss_cons (ps_set (i := 3) sc_draw.nd rfl (Or.inl rfl) (pe_op op_mod (pe_callTy call_int1 (by rfl) B.int PyProof.Rows.boot_int (pa_cons (pe_op op_add (pe_op op_mul (pe_ix ix_list (pv 0) pe_int (fun _ _ => rfl)) pe_int) (pe_op op_mul pe_int (pe_ix ix_list (pv 0) pe_int (fun _ _ => rfl)))) pa_nil)) pe_int))
    (pss_cons (ps_asg (pe_op op_mod (pe_callTy call_int1 (by rfl) B.int PyProof.Rows.boot_int (pa_cons (pe_op op_add (pe_op op_mul (pv 3) (pe_op op_add (pe_op op_mod (pe_callTy call_int1 (by rfl) B.int PyProof.Rows.boot_int (pa_cons (pv 3) pa_nil)) pe_int) pe_int)) (pe_ix ix_list (pv 0) pe_int (fun _ _ => rfl))) pa_nil)) pe_int) (pg_sub (pv 0) pe_int set_list))
    (pss_one (ps_ret (pe_op op_mod (pe_callTy call_int1 (by rfl) B.int PyProof.Rows.boot_int (pa_cons (pe_op op_fdiv (pe_ix ix_list (pv 0) pe_int (fun _ _ => rfl)) pe_int) pa_nil)) (pv 1))))))), ?_⟩
  walk_at "rd"
  refine ite2 (fun c0 => ?_) (fun c0 => ?_)
  · have a1 : 0 < a := of_decide_eq_true c0
    walk_at "rd"
    intro t ht
    have ep : p ≠ t := ne_of_none hp ht
    walk_at "rd"
    refine k _ _ (Int.emod_nonneg _ (by omega)) (Int.emod_lt_of_pos _ f0) ⟨_, _, _, ⟨?_, N.m0, N.m1, N.c0⟩, upd_same⟩ (But.refl.new ht).put
    exact Int.ediv_nonneg N.a0 (by omega)
  · walk_at "rd"
    refine k _ _ (Int.emod_nonneg _ (by omega)) (Int.emod_lt_of_pos _ f0) ⟨_, _, _, ⟨N.a0, ?_, ?_, ?_⟩, upd_same⟩ But.refl.put.put
    · exact Int.emod_nonneg _ (by decide)
    · exact Int.emod_lt_of_pos _ (by decide)
    · have := N.c0
      omega
theorem sc_one : FnScope ["well", "some"] ["well", "some"] (defScope s_one) := ⟨rfl, rfl, rfl, by decide +kernel, rfl, by decide +kernel, by decide +kernel⟩
theorem ok_one (D : Df K mg "_law_one" s_one) (B : Bi mg) (G : Gd P w K mg base CX0 1 "_law_draw" ["well", "few"] spDraw) : Gd P w K mg base CX0 2 "_law_one" ["well", "some"] (spOne K) := by
  refine gd_of D (fun _ _ _ _ _ _ us hl => match us, hl with | [_, _], _ => rfl) fun f fd F => ?_
  refine fun_q F sc_one (fun vs H Q E h => ?_) (fun cdv A outer s H vs Q E hr hq h => ?_)
  · obtain ⟨p, t, xs, rfl, _⟩ := h
    rfl
  obtain ⟨p, t, xs, rfl, W, hS, ne, l0, l1, k⟩ := h
  refine ⟨_, pss_one (ps_ret (pe_ix ix_tup (pv 1) (pe_g G hr hq (pa_cons (pv 0) (pa_cons (pe_callB call_len_seq (by rfl) B.len PySem.boot_len (pa_cons (pv 1) pa_nil)) pa_nil))) (fun _ _ => rfl))), ?_⟩
  walk_at "rd"
  refine ⟨_, _, rfl, .inr hS, p, _, rfl, W, by omega, by omega, fun d H' d0 d1 W' bt => ?_⟩
  have hd : d.toNat < xs.length := by omega
  refine ⟨t, xs, d, xs[d.toNat], rfl, rfl, bt.seq ne.symm hS, ?_, k d.toNat _ H' (List.getElem?_eq_getElem hd) W' bt⟩
  have e : d = ((d.toNat : Nat) : Int) := by omega
  have q : atI xs ((d.toNat : Nat) : Int) = some xs[d.toNat] := atI_nat (List.getElem?_eq_getElem hd)
  rw [← e] at q
  exact q
end

/-- _law_well(script, lap): a new well -/
def spWell (K : PySem.W.Frag) : Sp := fun vs H Q _ => ∃ (a : Addr) (ns : List Int) (lap : Int), vs = [.ref a, .int lap] ∧ SqL K H a (ns.map V.int) ∧ 0 ≤ lap ∧
  ∀ (p : Addr) (H' : Hp), H p = none → Same H H' → Well H' p → Q (.ref p) H'
section
variable {P : Program} {w : World} {K : PySem.W.Frag} {mg : Str → Option Value} {base : Heap}
theorem sc_well : FnScope ["script", "lap", "mixed", "cell", "own"] ["script", "lap"] (defScope s_well) := ⟨rfl, rfl, rfl, by decide +kernel, rfl, by decide +kernel, by decide +kernel⟩
theorem ok_well (D : Df K mg "_law_well" s_well) (B : Bi mg) : Gd P w K mg base CX0 1 "_law_well" ["script", "lap"] (spWell K) := by
  refine gd_of D (fun _ _ _ _ _ _ us hl => match us, hl with | [_, _], _ => rfl) fun f fd F => ?_
  refine fun_q F sc_well (fun vs H Q E h => ?_) (fun cdv A outer s H vs Q E hr hq h => ?_)
  · obtain ⟨a, ns, lap, rfl, _⟩ := h
    rfl
  obtain ⟨a, ns, lap, rfl, hS, l0, k⟩ := h
  refine ⟨_, pss_cons (ps_set (i := 2) sc_well.nd rfl (Or.inl rfl) (pe_op op_add pe_int (pe_op op_mul pe_int (pv 1))))
    (pss_cons (ps_for PassesOwn.never rfl (pi_list (pe_slice sl_list (pv 0) po_none (po_some pe_int))) (pg_name (i := 3) sc_well.nd rfl (Or.inl rfl))
      (pss_one (ps_set (i := 2) sc_well.nd rfl (Or.inl rfl) (pe_op op_mod (pe_callTy call_int1 (by rfl) B.int PyProof.Rows.boot_int (pa_cons (pe_op op_add (pe_op op_add (pe_op op_mul (pv 2) pe_int) (pe_op op_mul (pe_op op_mod (pe_callTy call_int1 (by rfl) B.int PyProof.Rows.boot_int (pa_cons (pv 3) pa_nil)) pe_int) pe_int)) pe_int) pa_nil)) pe_int))))
    (pss_cons (ps_set (i := 4) sc_well.nd rfl (Or.inl rfl) (pe_ifExp (pt_cmpR op_lt (pv 1) (pe_callB call_len_seq (by rfl) B.len PySem.boot_len (pa_cons (pv 0) pa_nil)) (nomark _)) (pe_callTy call_int1 (by rfl) B.int PyProof.Rows.boot_int (pa_cons (pe_ix ix_list (pv 0) (pv 1) (fun _ _ => rfl)) pa_nil)) pe_int))
    (pss_cons (ps_set (i := 2) sc_well.nd rfl (Or.inl rfl) (pe_op op_mod (pe_callTy call_int1 (by rfl) B.int PyProof.Rows.boot_int (pa_cons (pe_op op_add (pe_op op_add (pe_op op_mul (pv 2) pe_int) (pe_op op_mul (pe_op op_mod (pe_callTy call_int1 (by rfl) B.int PyProof.Rows.boot_int (pa_cons (pv 4) pa_nil)) pe_int) pe_int)) pe_int) pa_nil)) pe_int))
    (pss_one (ps_ret (pe_lst (pa_cons (pe_ifExp (PW.pt (pw_or (pt_cmpR op_lt (pv 4) pe_int (nomark _)) (pw_or1 (pt_cmpR op_ge (pv 4) (pe_op op_pow pe_int pe_int) (nomark _))))) (pe_callB call_abs (by rfl) B.abs PyProof.Rows.boot_abs (pa_cons (pv 4) pa_nil)) pe_int) (pa_cons (pv 2) (pa_cons pe_int pa_nil))))))))), ?_⟩
  walk_at "rd"
  refine ⟨a, _, rfl, hS, fun q hq' => ⟨q, rfl, ⟨_, SqL.of upd_same⟩, ?_⟩⟩
  refine for_list (K := K) (a := q) (xs := cutV (ns.map V.int) none (some 12)) (fun i σ H' => H' = upd H q (.lst (cutV (ns.map V.int) none (some 12))) ∧ ∃ m v, σ = [some (.ref a), some (.int lap), some (.int m), v, none])
    ⟨rfl, _, none, rfl⟩ (fun i σ H' _ ⟨e, _⟩ => by rw [e]; exact SqL.of upd_same) ?_ ?_
  · rintro i y σ H' hi ⟨rfl, m, v, rfl⟩
    obtain ⟨z, rfl⟩ : ∃ z, y = V.int z := by
      have m1 : y ∈ ns.map V.int := List.mem_of_mem_drop (List.mem_of_mem_take (List.mem_of_getElem? hi))
      obtain ⟨z, _, e⟩ := List.mem_map.mp m1
      exact ⟨z, e.symm⟩
    walk_at "rd"
    exact ⟨_, _, rfl⟩
  rintro σ H' ⟨rfl, m, v, rfl⟩
  have S1 : Same H (upd H q (.lst (cutV (ns.map V.int) none (some 12)))) := same_new hq' _
  walk_at "rd"
  refine ⟨_, _, rfl, .inl (S1.seq hS), ?_⟩
  walk_at "rd"
  have e2 : ((ns.map V.int).length : Int) = ns.length := by rw [List.length_map]
  have mb : ∀ x : Int, 0 ≤ x % 2147483543 ∧ x % 2147483543 < 2147483543 := fun x => ⟨Int.emod_nonneg _ (by decide), Int.emod_lt_of_pos _ (by decide)⟩
  have fin : ∀ (x y : Int) (r : Addr), 0 ≤ x → upd H q (.lst (cutV (ns.map V.int) none (some 12))) r = none → Q (.ref r) (upd (upd H q (.lst (cutV (ns.map V.int) none (some 12)))) r (.lst [.int x, .int (y % 2147483543), .int 0])) := fun x y r hx hr => by
    have hr' : H r = none := by
      cases e : H r with
      | none => rfl
      | some o => rw [S1 _ _ e] at hr; cases hr
    exact k r _ hr' (S1.trans (same_new hr _)) ⟨_, _, _, ⟨hx, (mb y).1, (mb y).2, Int.le_refl 0⟩, upd_same⟩
  refine ite2 (fun c => ?_) (fun c => ?_)
  · have c1 : lap < ((ns.map V.int).length : Int) := of_decide_eq_true c
    walk_at "rd"
    have c2 : lap.toNat < ns.length := by omega
    have e : lap = ((lap.toNat : Nat) : Int) := by omega
    have q1 : atI (ns.map V.int) ((lap.toNat : Nat) : Int) = some (.int ns[lap.toNat]) := atI_nat (by rw [List.getElem?_map, List.getElem?_eq_getElem c2] <;> rfl)
    rw [← e] at q1
    refine ⟨a, _, _, _, rfl, rfl, S1.seq hS, q1, ?_⟩
    generalize ns[lap.toNat] = z
    walk_at "rd"
    refine ite2 (fun d => ?_) (fun d => ?_)
    · walk_at "rd"
      intro r hr
      refine fin _ _ r ?_ hr
      split <;> omega
    · walk_at "rd"
      refine ite2 (fun d2 => ?_) (fun d2 => ?_)
      · walk_at "rd"
        intro r hr
        refine fin _ _ r ?_ hr
        split <;> omega
      · walk_at "rd"
        intro r hr
        exact fin _ _ r (Int.le_refl 0) hr
  · walk_at "rd"
    intro r hr
    exact fin 0 _ r (Int.le_refl 0) hr
end

section
variable {P : Program} {w : World} {K : PySem.W.Frag} {mg : Str → Option Value} {base : Heap}

/-- a tuple of so many elements -/
def isTupB (d : PyData) (a b : Int) : Bool := match d with | .tuple ds => decide (a ≤ ds.length) && decide ((ds.length : Int) ≤ b) | _ => false
def spTup : Sp := fun vs H Q _ => ∃ (v : V) (d : PyData) (a b : Int), vs = [v, .int a, .int b] ∧ Dd H v d ∧ ∀ H', Same H H' → Q (.bl (isTupB d a b)) H'
theorem sc_is_tuple : FnScope ["value", "least", "most"] ["value", "least", "most"] (defScope s_is_tuple) := ⟨rfl, rfl, rfl, by decide +kernel, rfl, by decide +kernel, by decide +kernel⟩
theorem ok_is_tuple (D : Df K mg "is_tuple" s_is_tuple) (B : Bi mg) : Gd P w K mg base CX0 1 "is_tuple" ["value", "least", "most"] spTup := by
  refine gd_of D (fun _ _ _ _ _ _ us hl => match us, hl with | [_, _, _], _ => rfl) fun f fd F => ?_
  refine fun_q F sc_is_tuple (fun vs H Q E h => by obtain ⟨v, d, a, b, rfl, _⟩ := h; rfl) (fun cdv A outer s H vs Q E hr hq h => ?_)
  obtain ⟨v, d, a, b, rfl, hd, k⟩ := h
  refine ⟨_, (pss_one (ps_ret (pe_and (pe_callB call_isi (by rfl) B.isinstance (by decide +kernel) (pa_cons (pv 0) (pa_cons (pe_bltn (v := V.ty "tuple") (by rfl) B.tuple (by decide +kernel) rfl) pa_nil))) (pe_one (pe_chain op_le op_le (pv 1) (pe_callB call_len_seq (by rfl) B.len (by decide +kernel) (pa_cons (pv 0) pa_nil)) (pv 2)))))), ?_⟩
  walk_at "rd"
  refine ⟨_, V.ty _, _, _, _, rfl, ClsV.ty _, Dd.ty hd, kit_ty (kit_tup d), ?_⟩
  refine ⟨_, rfl, ?_⟩
  cases d with
  | tuple ds =>
    obtain ⟨t, xs, rfl, e, A⟩ := hd.tupD
    have el : xs.length = ds.length := A.length
    refine iteT ?_
    walk_at "rd"
    refine ⟨t, xs, rfl, .inr (SqT.of e), ?_⟩
    walk_at "rd"
    have q : Q (.bl (decide (a ≤ ds.length) && decide ((ds.length : Int) ≤ b))) H := k H (Same.refl H)
    rw [el]
    refine ite2 (fun c => ?_) (fun c => ?_)
    · walk_at "rd"
      rw [c] at q
      exact q
    · rw [Bool.eq_false_iff.mpr c] at q
      exact q
  | _ => exact iteF (k H (Same.refl H))

/-- one of these texts -/
def isAmongB (d : PyData) (xs : List Str) : Bool := match d with | .str x => decide (x ∈ xs) | _ => false
/-- is_among(v, texts), a list or tuple of texts -/
def spAmong (K : PySem.W.Frag) : Sp := fun vs H Q _ => ∃ (v : V) (d : PyData) (t : Addr) (xs : List Str), vs = [v, .ref t] ∧ Dd H v d ∧ (SqL K H t (xs.map V.str) ∨ SqT K H t (xs.map V.str)) ∧ ∀ H', Same H H' → Q (.bl (isAmongB d xs)) H'
theorem inV_strs (x : Str) (xs : List Str) : inV (.str x) (xs.map V.str) = decide (x ∈ xs) := by
  unfold inV
  induction xs with
  | nil => rfl
  | cons y ys ih =>
    rw [List.map_cons, List.any_cons, ih]
    show ((y == x) || decide (x ∈ ys)) = decide (x ∈ y :: ys)
    rw [show (y == x) = decide (x = y) from by rw [Bool.eq_iff_iff, beq_iff_eq, decide_eq_true_iff]; exact eq_comm]
    simp [List.mem_cons]
theorem flat_strs' (xs : List Str) : (xs.map V.str).all flatV = true := by
  rw [List.all_map, List.all_eq_true]
  exact fun _ _ => rfl
theorem sc_is_among : FnScope ["value", "texts"] ["value", "texts"] (defScope s_is_among) := ⟨rfl, rfl, rfl, by decide +kernel, rfl, by decide +kernel, by decide +kernel⟩
theorem ok_is_among (D : Df K mg "is_among" s_is_among) (B : Bi mg) : Gd P w K mg base CX0 1 "is_among" ["value", "texts"] (spAmong K) := by
  refine gd_of D (fun _ _ _ _ _ _ us hl => match us, hl with | [_, _], _ => rfl) fun f fd F => ?_
  refine fun_q F sc_is_among (fun vs H Q E h => by obtain ⟨v, d, t, xs, rfl, _⟩ := h; rfl) (fun cdv A outer s H vs Q E hr hq h => ?_)
  obtain ⟨v, d, t, xs, rfl, hd, hs, k⟩ := h
  refine ⟨_, (pss_one (ps_ret (pe_and (pe_callB call_isi (by rfl) B.isinstance (by decide +kernel) (pa_cons (pv 0) (pa_cons (pe_bltn (v := V.ty "str") (by rfl) B.str (by decide +kernel) rfl) pa_nil))) (pe_one (pe_cmpR op_in_seq (pv 0) (pv 1) (by rfl)))))), ?_⟩
  walk_at "rd"
  refine ⟨_, V.ty _, _, _, _, rfl, ClsV.ty _, Dd.ty hd, kit_ty (kit_str d), ?_⟩
  refine ⟨_, rfl, ?_⟩
  cases d with
  | str x =>
    obtain rfl := hd.strD
    refine iteT ?_
    walk_at "rd"
    refine ⟨t, _, rfl, hs, rfl, flat_strs' xs, ?_⟩
    have q := k H (Same.refl H)
    unfold isAmongB at q
    rw [inV_strs]
    exact q
  | _ => exact iteF (k H (Same.refl H))

/-- are_unlike(texts), a list of texts -/
def spUnlike (K : PySem.W.Frag) : Sp := fun vs H Q _ => ∃ (t : Addr) (xs : List Str), vs = [.ref t] ∧ SqL K H t (xs.map V.str) ∧ xs.length < 1000 ∧ ∀ H', Same H H' → Q (.bl (decide xs.Nodup)) H'
theorem sc_are_unlike : FnScope ["texts"] ["texts"] (defScope s_are_unlike) := ⟨rfl, rfl, rfl, by decide +kernel, rfl, by decide +kernel, by decide +kernel⟩
theorem ok_are_unlike (D : Df K mg "are_unlike" s_are_unlike) (B : Bi mg) : Gd P w K mg base CX0 1 "are_unlike" ["texts"] (spUnlike K) := by
  refine gd_of D (fun _ _ _ _ _ _ us hl => match us, hl with | [_], _ => rfl) fun f fd F => ?_
  refine fun_q F sc_are_unlike (fun vs H Q E h => by obtain ⟨t, xs, rfl, _⟩ := h; rfl) (fun cdv A outer s H vs Q E hr hq h => ?_)
  obtain ⟨t, xs, rfl, hs, lz, k⟩ := h
  refine ⟨_, (pss_one (ps_ret (pe_cmpR op_eq (pe_callB call_lenTx (by rfl) B.len (by decide +kernel) (pa_cons (pe_callTy (cr_setS rfl) (by rfl) B.set (by decide +kernel) (pa_cons (pv 0) pa_nil)) pa_nil)) (pe_callB call_len_seq (by rfl) B.len (by decide +kernel) (pa_cons (pv 0) pa_nil)) (nomark _)))), ?_⟩
  walk_at "rd"
  refine ⟨t, xs, rfl, hs, by unfold scanBound; omega, fun p hp => ?_⟩
  refine ⟨p, _, rfl, upd_same, ?_⟩
  walk_at "rd"
  refine ⟨t, _, rfl, .inl ((same_new hp _).seq hs), ?_⟩
  walk_at "rd"
  have q := k _ (same_new hp (TxO w p (once [] xs)))
  have e : decide (V.int ((once [] xs).length : Nat) = V.int ((xs.map V.str).length : Nat)) = decide xs.Nodup := by
    rw [List.length_map]
    refine decide_eq_decide.mpr ((Iff.intro (fun z => ?_) (fun z => by rw [z])).trans (once_nodup xs))
    injection z with z
    exact Int.ofNat_inj.mp z
  exact e ▸ q

def letters : Str := "abcdefghijklmnopqrstuvwxyz"
def signs : Str := "abcdefghijklmnopqrstuvwxyz0123456789_"
/-- a name -/
def nameS (x : Str) : Bool := decide (1 ≤ x.length) && decide (x.length ≤ 12) && x.cps.toList.head?.any (fun c => decide (c ∈ letters.cps.toList)) && x.cps.toList.all (fun c => decide (c ∈ signs.cps.toList))
def isNameB (d : PyData) : Bool := match d with | .str x => nameS x | _ => false
def spName : Sp := fun vs H Q _ => ∃ (v : V) (d : PyData), vs = [v] ∧ Dd H v d ∧ okT d = true ∧ ∀ H', Same H H' → Q (.bl (isNameB d)) H'
theorem sc_is_name : FnScope ["value", "sign"] ["value"] (defScope s_is_name) := ⟨rfl, rfl, rfl, by decide +kernel, rfl, by decide +kernel, by decide +kernel⟩
theorem ok_is_name (D : Df K mg "is_name" s_is_name) (B : Bi mg) (C : Cn mg) : Gd P w K mg base CX0 1 "is_name" ["value"] spName := by
  refine gd_of D (fun _ _ _ _ _ _ us hl => match us, hl with | [_], _ => rfl) fun f fd F => ?_
  refine fun_q F sc_is_name (fun vs H Q E h => by obtain ⟨v, d, rfl, _⟩ := h; rfl) (fun cdv A outer s H vs Q E hr hq h => ?_)
  obtain ⟨v, d, rfl, hd, ok, k⟩ := h
  refine ⟨_, (pss_cons (ps_if (PW.pt (pw_or (pt_not (pt_val (pe_callB call_isi (by rfl) B.isinstance (by decide +kernel) (pa_cons (pv 0) (pa_cons (pe_bltn (v := V.ty "str") (by rfl) B.str (by decide +kernel) rfl) pa_nil))))) (pw_or1 (pt_not (pt_chain op_le op_le pe_int (pe_callB call_len_str (by rfl) B.len (by decide +kernel) (pa_cons (pv 0) pa_nil)) (pe_cn (by rfl) C.LONGEST_NAME)))))) (pss_one (ps_ret pe_bl)) pss_nil)
      (pss_one (ps_ret (pe_and (pe_cmpR op_in_sign (pe_ix ix_str (pv 0) pe_int (fun _ _ => rfl)) (pe_cn (by rfl) C.LETTERS) (by rfl)) (pe_one (pe_callB (cr_all rfl) (by rfl) B.all (by decide +kernel) (pa_cons (pe_lc (own := [("sign", 1)]) (g := gName 1) (tt := tYes) rfl sc_is_name.nd (pi_str (pv 0)) (blkOk_by (own := [("sign", 1)]) (N := ["value", "sign"]) (sc := defScope s_is_name) (by decide +kernel)) (fun _ _ _ _ _ => (pg_name (i := 1) sc_is_name.nd rfl (Or.inl rfl))) (fun _ _ _ _ _ => pts_nil) (fun _ _ _ _ _ => (pe_cmpR op_in_sign (pv 1) (pe_cn (by rfl) C.NAME_SIGNS) (by rfl)))) pa_nil))))))), ?_⟩
  walk_at "rd"
  refine ⟨_, V.ty _, _, _, _, rfl, ClsV.ty _, Dd.ty hd, kit_ty (kit_str d), ?_⟩
  refine ⟨_, rfl, ?_⟩
  cases d with
  | str x =>
    obtain rfl := hd.strD
    have q : Q (.bl (nameS x)) H := k H (Same.refl H)
    have ok : x.length ≤ 100000 := of_decide_eq_true ok
    have lz : x.length ≤ sizeLine := by rw [sizeLine_eq]; omega
    refine iteF ?_
    walk_at "rd"
    refine ite2 (fun c1 => ?_) (fun c1 => ?_)
    · walk_at "rd"
      refine ite2 (fun c2 => ?_) (fun c2 => ?_)
      · walk_at "rd"
        have e2 : nameS x = false := by
          unfold nameS
          have : ¬ ((x.length : Int) ≤ 12) := fun z => by simp [z] at c2
          have : decide (x.length ≤ 12) = false := decide_eq_false (by omega)
          rw [this]; simp
        rw [e2] at q
        exact q
      · walk_at "rd"
        have c1' : 1 ≤ x.length := by have := of_decide_eq_true c1; omega
        have c2' : x.length ≤ 12 := by
          have : ((x.length : Int) ≤ 12) := Classical.byContradiction fun z => c2 (by simp [z])
          omega
        obtain ⟨c, r, ec⟩ : ∃ c r, x.cps.toList = c :: r := by
          cases e : x.cps.toList with
          | nil => exact absurd (show x.cps.toList.length = 0 by rw [e]; rfl) (by rw [Array.length_toList]; exact Nat.ne_of_gt c1')
          | cons c r => exact ⟨c, r, rfl⟩
        refine ⟨_, _, c, rfl, rfl, lz, by rw [ec]; exact atI_nat (j := 0) (xs := c :: r) rfl, ?_⟩
        refine ⟨_, _, rfl, rfl, ?_⟩
        refine ⟨_, rfl, ?_⟩
        have eq : nameS x = (decide (c ∈ letters.cps.toList) && x.cps.toList.all (fun c => decide (c ∈ signs.cps.toList))) := by
          unfold nameS
          rw [decide_eq_true c1', decide_eq_true c2', ec]
          rfl
        rw [eq] at q
        refine ite2 (fun c3 => ?_) (fun c3 => ?_)
        · have c3' : decide (c ∈ letters.cps.toList) = true := c3
          rw [c3'] at q
          walk_at "rd"
          refine fun D hD => ?_
          refine lc_vals walk_str (fun i => x.cps.toList[i]?.map fun c => V.bl (decide (c ∈ signs.cps.toList))) hD lz (fun _ _ => trivial) (fun i y H1 H2 K1 K0 hi s1 hy k1 k0 => ?_) (fun H1 s1 e1 => ?_)
          · obtain ⟨rfl, d, ed, rfl⟩ := hy
            refine ⟨rfl, ?_⟩
            walk_at "rd"
            exact k1 _ _ (by rw [Array.getElem?_toList, ed]; rfl) (Same.refl _)
          · have e2 : (List.range x.cps.size).filterMap (fun i => x.cps.toList[i]?.map fun c => V.bl (decide (c ∈ signs.cps.toList))) = (x.cps.toList.map fun c => decide (c ∈ signs.cps.toList)).map V.bl := by
              rw [← Array.length_toList, range_map', List.map_map]
              rfl
            rw [e2] at e1
            walk_at "rd"
            refine ⟨D, _, rfl, SqL.of e1, ?_⟩
            have e3 : ((x.cps.toList.map fun c => decide (c ∈ signs.cps.toList)).all id) = x.cps.toList.all (fun c => decide (c ∈ signs.cps.toList)) := by rw [List.all_map]; rfl
            have q : Q (.bl (nameS x)) H1 := k H1 s1
            rw [eq, c3'] at q
            rw [e3]
            exact q
        · have c3' : decide (c ∈ letters.cps.toList) = false := Bool.eq_false_iff.mpr c3
          rw [c3'] at q
          exact q
    · walk_at "rd"
      have e2 : nameS x = false := by
        unfold nameS
        have : ¬ ((1 : Int) ≤ x.length) := fun z => c1 (decide_eq_true z)
        have : decide (1 ≤ x.length) = false := decide_eq_false (by omega)
        rw [this]; simp
      rw [e2] at q
      refine iteT ?_
      walk_at "rd"
      exact q
  | _ => exact iteT (k H (Same.refl H))

end

theorem tupB_2 {d : PyData} (h : isTupB d 2 2 = true) : ∃ a b, d = .tuple [a, b] := by
  cases d with
  | tuple ds =>
    have h : (decide ((2 : Int) ≤ ds.length) && decide ((ds.length : Int) ≤ 2)) = true := h
    rw [Bool.and_eq_true, decide_eq_true_iff, decide_eq_true_iff] at h
    match ds, h with
    | [a, b], _ => exact ⟨a, b, rfl⟩
    | [], h => exact absurd h.1 (by decide)
    | [_], h => exact absurd h.1 (by simp)
    | _ :: _ :: _ :: _, h => exact absurd h.2 (by simp only [List.length_cons]; omega)
  | _ => exact absurd h (by intro z; cases z)
theorem tupB_3 {d : PyData} (h : isTupB d 3 3 = true) : ∃ a b c, d = .tuple [a, b, c] := by
  cases d with
  | tuple ds =>
    have h : (decide ((3 : Int) ≤ ds.length) && decide ((ds.length : Int) ≤ 3)) = true := h
    rw [Bool.and_eq_true, decide_eq_true_iff, decide_eq_true_iff] at h
    match ds, h with
    | [a, b, c], _ => exact ⟨a, b, c, rfl⟩
    | [], h => exact absurd h.1 (by decide)
    | [_], h => exact absurd h.1 (by simp)
    | [_, _], h => exact absurd h.1 (by simp)
    | _ :: _ :: _ :: _ :: _, h => exact absurd h.2 (by simp only [List.length_cons]; omega)
  | _ => exact absurd h (by intro z; cases z)
theorem tupB_n {d : PyData} {a b : Int} (h : isTupB d a b = true) : ∃ ds, d = .tuple ds ∧ a ≤ ds.length ∧ (ds.length : Int) ≤ b := by
  cases d with
  | tuple ds =>
    have h : (decide (a ≤ ds.length) && decide ((ds.length : Int) ≤ b)) = true := h
    rw [Bool.and_eq_true, decide_eq_true_iff, decide_eq_true_iff] at h
    exact ⟨ds, rfl, h.1, h.2⟩
  | _ => exact absurd h (by intro z; cases z)
theorem okT_2 {a b : PyData} (h : okT (.tuple [a, b]) = true) : okT a = true ∧ okT b = true := by
  have h : (okT a && (okT b && true)) = true := h
  rw [Bool.and_true, Bool.and_eq_true] at h
  exact h
theorem okT_3 {a b c : PyData} (h : okT (.tuple [a, b, c]) = true) : okT a = true ∧ okT b = true ∧ okT c = true := by
  have h : (okT a && (okT b && (okT c && true))) = true := h
  rw [Bool.and_true, Bool.and_eq_true, Bool.and_eq_true] at h
  exact h
theorem dd2 {H : Hp} {v : V} {a b : PyData} (h : Dd H v (.tuple [a, b])) : ∃ p x y, v = .ref p ∧ H p = some (.tup [x, y]) ∧ Dd H x a ∧ Dd H y b := by
  obtain ⟨p, xs, rfl, e, A⟩ := h.tupD
  cases A with
  | cons h1 t1 => cases t1 with
    | cons h2 t2 => cases t2; exact ⟨p, _, _, rfl, e, h1, h2⟩
theorem dd3 {H : Hp} {v : V} {a b c : PyData} (h : Dd H v (.tuple [a, b, c])) : ∃ p x y z, v = .ref p ∧ H p = some (.tup [x, y, z]) ∧ Dd H x a ∧ Dd H y b ∧ Dd H z c := by
  obtain ⟨p, xs, rfl, e, A⟩ := h.tupD
  cases A with
  | cons h1 t1 => cases t1 with
    | cons h2 t2 => cases t2 with
      | cons h3 t3 => cases t3; exact ⟨p, _, _, _, rfl, e, h1, h2, h3⟩
/-- a kind as it is told -/
def kindB (d : PyData) : Bool := match d with | .tuple [a, b] => isNameB a && isAmongB b ["open", "closed"] | _ => false
/-- the text at the head -/
def nameOf (d : PyData) : Str := match d with | .tuple (.str x :: _) => x | _ => Str.empty
def kindsB (d : PyData) : Bool := match d with | .tuple ds => decide (1 ≤ ds.length) && decide (ds.length ≤ 8) && ds.all kindB && decide (ds.map nameOf).Nodup | _ => false
/-- a maker as it is told, the kinds' names known -/
def makerB (ks : List Str) (d : PyData) : Bool := match d with | .tuple [a, .tuple ns, k] => isNameB a && decide (ns.length ≤ 3) && ns.all (fun n => isAmongB n ks) && isAmongB k ks | _ => false
def makersB (ks : List Str) (d : PyData) : Bool := match d with | .tuple ds => decide (ds.length ≤ 24) && ds.all (makerB ks) && decide (ds.map nameOf).Nodup | _ => false

section
variable {P : Program} {w : World} {K : PySem.W.Frag} {mg : Str → Option Value} {base : Heap}

def spKind : Sp := fun vs H Q _ => ∃ (v : V) (d : PyData), vs = [v] ∧ Dd H v d ∧ okT d = true ∧ ∀ H', Same H H' → Q (.bl (kindB d)) H'
theorem kindB_no {d : PyData} (h : isTupB d 2 2 = false) : kindB d = false := by
  cases d with
  | tuple ds =>
    match ds with
    | [a, b] => exact absurd (show isTupB (.tuple [a, b]) 2 2 = true from rfl) (by rw [h]; intro z; cases z)
    | [] => rfl
    | [_] => rfl
    | _ :: _ :: _ :: _ => rfl
  | _ => rfl
theorem sc_is_kind_told : FnScope ["value"] ["value"] (defScope s_is_kind_told) := ⟨rfl, rfl, rfl, by decide +kernel, rfl, by decide +kernel, by decide +kernel⟩
theorem ok_is_kind_told (D : Df K mg "is_kind_told" s_is_kind_told) (B : Bi mg) (C : Cn mg) (G1 : Gd P w K mg base CX0 1 "is_tuple" ["value", "least", "most"] spTup) (G2 : Gd P w K mg base CX0 1 "is_name" ["value"] spName) (G3 : Gd P w K mg base CX0 1 "is_among" ["value", "texts"] (spAmong K)) : Gd P w K mg base CX0 2 "is_kind_told" ["value"] spKind := by
  refine gd_of D (fun _ _ _ _ _ _ us hl => match us, hl with | [_], _ => rfl) fun f fd F => ?_
  refine fun_q F sc_is_kind_told (fun vs H Q E h => by obtain ⟨v, d, rfl, _⟩ := h; rfl) (fun cdv A outer s H vs Q E hr hq h => ?_)
  obtain ⟨v, d, rfl, hd, ok, k⟩ := h
  refine ⟨_, (pss_one (ps_ret (pe_and (pe_g G1 hr hq (pa_cons (pv 0) (pa_cons pe_int (pa_cons pe_int pa_nil)))) (pe_and (pe_g G2 hr hq (pa_cons (pe_ix ix_tup (pv 0) pe_int (fun _ _ => rfl)) pa_nil)) (pe_one (pe_g G3 hr hq (pa_cons (pe_ix ix_tup (pv 0) pe_int (fun _ _ => rfl)) (pa_cons (pe_tup (pa_cons pe_str (pa_cons pe_str pa_nil))) pa_nil)))))))), ?_⟩
  walk_at "rd"
  refine ⟨v, d, 2, 2, rfl, hd, fun H1 s1 => ⟨_, rfl, ?_⟩⟩
  cases e : isTupB d 2 2 with
  | false =>
    refine iteF ?_
    have q := k H1 s1
    rw [kindB_no e] at q
    exact q
  | true =>
    obtain ⟨a, b, rfl⟩ := tupB_2 e
    obtain ⟨oka, okb⟩ := okT_2 ok
    obtain ⟨p, x, y, rfl, hp, ha, hb⟩ := dd2 hd
    refine iteT ?_
    walk_at "rd"
    refine ⟨p, _, 0, x, rfl, rfl, SqT.of (s1 _ _ hp), rfl, ?_⟩
    refine ⟨x, a, rfl, ha.mono s1, oka, fun H2 s2 => ⟨_, rfl, ?_⟩⟩
    cases en : isNameB a with
    | false =>
      refine iteF ?_
      have q : Q (.bl (isNameB a && isAmongB b ["open", "closed"])) H2 := k H2 (s1.trans s2)
      rw [en] at q
      exact q
    | true =>
      refine iteT ?_
      walk_at "rd"
      refine ⟨p, _, 1, y, rfl, rfl, SqT.of (s2 _ _ (s1 _ _ hp)), rfl, ?_⟩
      walk_at "rd"
      intro t ht
      walk_at "rd"
      have s3 := same_new ht (.tup [.str "open", .str "closed"])
      refine ⟨y, b, t, ["open", "closed"], rfl, hb.mono (s1.trans (s2.trans s3)), .inr (SqT.of upd_same), fun H4 s4 => ?_⟩
      have q : Q (.bl (isNameB a && isAmongB b ["open", "closed"])) H4 := k H4 (s1.trans (s2.trans (s3.trans s4)))
      rw [en] at q
      exact q

def spKinds : Sp := fun vs H Q _ => ∃ (v : V) (d : PyData), vs = [v] ∧ Dd H v d ∧ okT d = true ∧ ∀ H', Same H H' → Q (.bl (kindsB d)) H'
theorem kindsB_no {d : PyData} (h : isTupB d 1 8 = false) : kindsB d = false := by
  cases d with
  | tuple ds =>
    have h : (decide ((1 : Int) ≤ ds.length) && decide ((ds.length : Int) ≤ 8)) = false := h
    show (decide (1 ≤ ds.length) && decide (ds.length ≤ 8) && _ && _) = false
    have e : (decide (1 ≤ ds.length) && decide (ds.length ≤ 8)) = false := by
      rw [← h]
      congr 1 <;> exact decide_eq_decide.mpr (by omega)
    rw [e]
    rfl
  | _ => rfl
theorem kindB_pair {d : PyData} (h : kindB d = true) : ∃ (x : Str) (b : PyData), d = .tuple [.str x, b] ∧ nameS x = true ∧ isAmongB b ["open", "closed"] = true := by
  cases d with
  | tuple ds =>
    match ds, h with
    | [a, b], h =>
      have h : (isNameB a && isAmongB b ["open", "closed"]) = true := h
      rw [Bool.and_eq_true] at h
      cases a with
      | str x => exact ⟨x, b, rfl, h.1, h.2⟩
      | _ => exact absurd h.1 (by intro z; cases z)
    | [], h => exact absurd h (by intro z; cases z)
    | [_], h => exact absurd h (by intro z; cases z)
    | _ :: _ :: _ :: _, h => exact absurd h (by intro z; cases z)
  | _ => exact absurd h (by intro z; cases z)
theorem sc_are_kinds_told : FnScope ["value", "told", "name", "word"] ["value"] (defScope s_are_kinds_told) := ⟨rfl, rfl, rfl, by decide +kernel, rfl, by decide +kernel, by decide +kernel⟩
theorem ok_are_kinds_told (D : Df K mg "are_kinds_told" s_are_kinds_told) (B : Bi mg) (C : Cn mg) (G1 : Gd P w K mg base CX0 1 "is_tuple" ["value", "least", "most"] spTup) (G2 : Gd P w K mg base CX0 1 "is_name" ["value"] spName) (G3 : Gd P w K mg base CX0 1 "is_among" ["value", "texts"] (spAmong K)) (G4 : Gd P w K mg base CX0 1 "are_unlike" ["texts"] (spUnlike K)) (G5 : Gd P w K mg base CX0 2 "is_kind_told" ["value"] spKind) : Gd P w K mg base CX0 3 "are_kinds_told" ["value"] spKinds := by
  refine gd_of D (fun _ _ _ _ _ _ us hl => match us, hl with | [_], _ => rfl) fun f fd F => ?_
  refine fun_q F sc_are_kinds_told (fun vs H Q E h => by obtain ⟨v, d, rfl, _⟩ := h; rfl) (fun cdv A outer s H vs Q E hr hq h => ?_)
  obtain ⟨v, d, rfl, hd, ok, k⟩ := h
  refine ⟨_, (pss_cons (ps_if (PW.pt (pw_or (pt_not (pt_val (pe_g (G1.mono (by decide)) hr hq (pa_cons (pv 0) (pa_cons pe_int (pa_cons (pe_cn (by rfl) C.MOST_KINDS) pa_nil)))))) (pw_or1 (pt_not (pt_val (pe_callB (cr_all rfl) (by rfl) B.all (by decide +kernel) (pa_cons (pe_lc (own := [("told", 1)]) (g := (gName 1)) (tt := tYes) rfl sc_are_kinds_told.nd (pi_tup (pv 0)) (blkOk_by (own := [("told", 1)]) (N := ["value", "told", "name", "word"]) (sc := defScope s_are_kinds_told) (by decide +kernel)) (fun _ _ _ _ _ => (pg_name (i := 1) sc_are_kinds_told.nd rfl (Or.inl rfl))) (fun _ _ _ _ _ => pts_nil) (fun _ _ _ _ _ => (pe_g G5 hr hq (pa_cons (pv 1) pa_nil)))) pa_nil))))))) (pss_one (ps_ret pe_bl)) pss_nil)
      (pss_one (ps_ret (pe_g (G4.mono (by decide)) hr hq (pa_cons (pe_lc (own := [("name", 2), ("word", 3)]) (g := (gTup K 2 (gCons (gName 2) (gCons (gName 3) gNil)))) (tt := tYes) rfl sc_are_kinds_told.nd (pi_tup (pv 0)) (blkOk_by (own := [("name", 2), ("word", 3)]) (N := ["value", "told", "name", "word"]) (sc := defScope s_are_kinds_told) (by decide +kernel)) (fun _ _ _ _ _ => (pg_tup rfl (pgs_cons (pg_name (i := 2) sc_are_kinds_told.nd rfl (Or.inl rfl)) (pgs_cons (pg_name (i := 3) sc_are_kinds_told.nd rfl (Or.inl rfl)) pgs_nil)))) (fun _ _ _ _ _ => pts_nil) (fun _ _ _ _ _ => (pv 2))) pa_nil))))), ?_⟩
  walk_at "rd"
  refine ⟨v, d, 1, 8, rfl, hd, fun H1 s1 => ⟨_, rfl, ?_⟩⟩
  cases e : isTupB d 1 8 with
  | false =>
    refine iteT ?_
    have q := k H1 s1
    rw [kindsB_no e] at q
    exact q
  | true =>
    obtain ⟨ds, rfl, l1, l8⟩ := tupB_n e
    obtain ⟨p, xs, rfl, hp, A⟩ := hd.tupD
    have lx := A.length
    refine iteF ?_
    walk_at "rd"
    refine ⟨⟨_, SqT.of (s1 _ _ hp)⟩, fun D hD => ?_⟩
    refine lc_vals walk_tup (fun i => ds[i]?.map fun d => V.bl (kindB d)) hD (by rw [lx, sizeLine_eq]; omega) (fun H s => SqT.of (s _ _ (s1 _ _ hp))) (fun i y H2 H3 K1 K0 hi s2 hy k1 k0 => ?_) (fun H2 s2 e2 => ?_)
    · obtain ⟨rfl, ey⟩ := hy
      obtain ⟨d, ed, hd⟩ := A.get ey
      refine ⟨rfl, ?_⟩
      walk_at "rd"
      refine ⟨y, d, rfl, hd.mono (s1.trans s2), okTs_at ok ed, fun H4 s4 => k1 _ _ (by rw [ed]; rfl) s4⟩
    · rw [lx, range_map' (fun d => V.bl (kindB d)) ds] at e2
      have e3 : (ds.map fun d => V.bl (kindB d)) = (ds.map kindB).map V.bl := by rw [List.map_map]; rfl
      rw [e3] at e2
      walk_at "rd"
      refine ⟨D, _, rfl, SqL.of e2, ?_⟩
      refine ⟨_, rfl, ?_⟩
      cases ea : (ds.map kindB).all id with
      | false =>
        refine iteT ?_
        have q := k H2 (s1.trans s2)
        have e4 : kindsB (.tuple ds) = false := by
          show (decide (1 ≤ ds.length) && decide (ds.length ≤ 8) && ds.all kindB && _) = false
          rw [List.all_map] at ea
          rw [show ds.all kindB = false from ea]
          simp
        rw [e4] at q
        exact q
      | true =>
        have eb : ds.all kindB = true := by rw [List.all_map] at ea; exact ea
        refine iteF ?_
        walk_at "rd"
        refine ⟨⟨_, SqT.of (s2 _ _ (s1 _ _ hp))⟩, fun D2 hD2 => ?_⟩
        refine lc_vals walk_tup (fun i => ds[i]?.map fun d => V.str (nameOf d)) hD2 (by rw [lx, sizeLine_eq]; omega) (fun H s => SqT.of (s _ _ (s2 _ _ (s1 _ _ hp)))) (fun i y H3 H4 K1 K0 hi s3 hy k1 k0 => ?_) (fun H3 s3 e5 => ?_)
        · obtain ⟨rfl, ey⟩ := hy
          obtain ⟨d, ed, hd⟩ := A.get ey
          have kd : kindB d = true := List.all_eq_true.mp eb d (List.mem_of_getElem? ed)
          obtain ⟨x, b, rfl, _, _⟩ := kindB_pair kd
          obtain ⟨q, vx, vb, rfl, hq2, hx, hb⟩ := (hd.mono (s1.trans (s2.trans s3))) |> dd2
          obtain rfl := hx.strD
          refine ⟨q, _, rfl, SqT.of hq2, rfl, _, _, rfl, _, _, rfl, rfl, rfl, ?_⟩
          refine ⟨_, rfl, ?_⟩
          exact k1 _ _ (by rw [ed]; rfl) (Same.refl _)
        · rw [lx, range_map' (fun d => V.str (nameOf d)) ds] at e5
          have e6 : (ds.map fun d => V.str (nameOf d)) = (ds.map nameOf).map V.str := by rw [List.map_map]; rfl
          rw [e6] at e5
          refine ⟨D2, _, rfl, SqL.of e5, by rw [List.length_map]; omega, fun H5 s5 => ?_⟩
          have q := k H5 (s1.trans (s2.trans (s3.trans s5)))
          have e7 : kindsB (.tuple ds) = decide (ds.map nameOf).Nodup := by
            show (decide (1 ≤ ds.length) && decide (ds.length ≤ 8) && ds.all kindB && decide (ds.map nameOf).Nodup) = _
            rw [eb, decide_eq_true (by omega : 1 ≤ ds.length), decide_eq_true (by omega : ds.length ≤ 8)]
            simp
          rw [e7] at q
          exact q

end

section
variable {P : Program} {w : World} {K : PySem.W.Frag} {mg : Str → Option Value} {base : Heap}

/-- is_maker_told(value, kinds), the kinds' names in a list -/
def spMaker (K : PySem.W.Frag) : Sp := fun vs H Q _ => ∃ (v : V) (d : PyData) (t : Addr) (ks : List Str), vs = [v, .ref t] ∧ Dd H v d ∧ okT d = true ∧ SqL K H t (ks.map V.str) ∧ ∀ H', Same H H' → Q (.bl (makerB ks d)) H'
theorem makerB_no {ks : List Str} {d : PyData} (h : isTupB d 3 3 = false) : makerB ks d = false := by
  cases d with
  | tuple ds =>
    match ds with
    | [a, b, c] => exact absurd (show isTupB (.tuple [a, b, c]) 3 3 = true from rfl) (by rw [h]; intro z; cases z)
    | [] => simp [makerB]
    | [_] => simp [makerB]
    | [_, _] => simp [makerB]
    | _ :: _ :: _ :: _ :: _ => simp [makerB]
  | _ => rfl
theorem makerB_3 {ks : List Str} {a b c : PyData} : makerB ks (.tuple [a, b, c]) = (isNameB a && (isTupB b 0 3 && ((match b with | .tuple ns => ns.all (fun n => isAmongB n ks) | _ => false) && isAmongB c ks))) := by
  cases b with
  | tuple ns =>
    show (isNameB a && decide (ns.length ≤ 3) && ns.all (fun n => isAmongB n ks) && isAmongB c ks) = (isNameB a && ((decide ((0 : Int) ≤ ns.length) && decide ((ns.length : Int) ≤ 3)) && (ns.all (fun n => isAmongB n ks) && isAmongB c ks)))
    have e1 : decide ((ns.length : Int) ≤ 3) = decide (ns.length ≤ 3) := decide_eq_decide.mpr (by omega)
    rw [decide_eq_true (show (0 : Int) ≤ ns.length by omega), e1]
    simp only [Bool.true_and, Bool.and_assoc]
  | _ => simp [makerB, isTupB]
theorem sc_is_maker_told : FnScope ["value", "kinds", "name", "needs", "kind", "need"] ["value", "kinds"] (defScope s_is_maker_told) := ⟨rfl, rfl, rfl, by decide +kernel, rfl, by decide +kernel, by decide +kernel⟩
theorem ok_is_maker_told (D : Df K mg "is_maker_told" s_is_maker_told) (B : Bi mg) (C : Cn mg) (G1 : Gd P w K mg base CX0 1 "is_tuple" ["value", "least", "most"] spTup) (G2 : Gd P w K mg base CX0 1 "is_name" ["value"] spName) (G3 : Gd P w K mg base CX0 1 "is_among" ["value", "texts"] (spAmong K)) : Gd P w K mg base CX0 2 "is_maker_told" ["value", "kinds"] (spMaker K) := by
  refine gd_of D (fun _ _ _ _ _ _ us hl => match us, hl with | [_, _], _ => rfl) fun f fd F => ?_
  refine fun_q F sc_is_maker_told (fun vs H Q E h => by obtain ⟨v, d, t, ks, rfl, _⟩ := h; rfl) (fun cdv A outer s H vs Q E hr hq h => ?_)
  obtain ⟨v, d, t, ks, rfl, hd, ok, hk, k⟩ := h
  refine ⟨_, (pss_cons (ps_if (pt_not (pt_val (pe_g G1 hr hq (pa_cons (pv 0) (pa_cons pe_int (pa_cons pe_int pa_nil)))))) (pss_one (ps_ret pe_bl)) pss_nil)
      (pss_cons (ps_asg (pv 0) (pg_tup rfl (pgs_cons (pg_name (i := 2) sc_is_maker_told.nd rfl (Or.inl rfl)) (pgs_cons (pg_name (i := 3) sc_is_maker_told.nd rfl (Or.inl rfl)) (pgs_cons (pg_name (i := 4) sc_is_maker_told.nd rfl (Or.inl rfl)) pgs_nil)))))
      (pss_cons (ps_if (PW.pt (pw_or (pt_not (pt_val (pe_g G2 hr hq (pa_cons (pv 2) pa_nil)))) (pw_or1 (pt_not (pt_val (pe_g G1 hr hq (pa_cons (pv 3) (pa_cons pe_int (pa_cons (pe_cn (by rfl) C.MOST_NEEDS) pa_nil))))))))) (pss_one (ps_ret pe_bl)) pss_nil)
      (pss_one (ps_ret (pe_and (pe_callB (cr_all rfl) (by rfl) B.all (by decide +kernel) (pa_cons (pe_lc (own := [("need", 5)]) (g := (gName 5)) (tt := tYes) rfl sc_is_maker_told.nd (pi_tup (pv 3)) (blkOk_by (own := [("need", 5)]) (N := ["value", "kinds", "name", "needs", "kind", "need"]) (sc := defScope s_is_maker_told) (by decide +kernel)) (fun _ _ _ _ _ => (pg_name (i := 5) sc_is_maker_told.nd rfl (Or.inl rfl))) (fun _ _ _ _ _ => pts_nil) (fun _ _ _ _ _ => (pe_g G3 hr hq (pa_cons (pv 5) (pa_cons (pv 1) pa_nil))))) pa_nil)) (pe_one (pe_g G3 hr hq (pa_cons (pv 4) (pa_cons (pv 1) pa_nil)))))))))), ?_⟩
  walk_at "rd"
  refine ⟨v, d, 3, 3, rfl, hd, fun H1 s1 => ⟨_, rfl, ?_⟩⟩
  cases e : isTupB d 3 3 with
  | false =>
    refine iteT ?_
    have q := k H1 s1
    rw [makerB_no e] at q
    exact q
  | true =>
    obtain ⟨a, b, c, rfl⟩ := tupB_3 e
    obtain ⟨oka, okb, okc⟩ := okT_3 ok
    obtain ⟨p, x, y, z, rfl, hp, ha, hb, hc⟩ := dd3 hd
    refine iteF ?_
    rw [makerB_3] at k
    walk_at "rd"
    refine ⟨p, _, rfl, SqT.of (s1 _ _ hp), rfl, _, _, rfl, _, _, rfl, _, _, rfl, rfl, ?_⟩
    walk_at "rd"
    refine ⟨x, a, rfl, ha.mono s1, oka, fun H2 s2 => ⟨_, rfl, ?_⟩⟩
    have s12 := s1.trans s2
    cases en : isNameB a with
    | false =>
      refine iteT ?_
      have q := k H2 s12
      rw [en] at q
      exact q
    | true =>
      rw [en, Bool.true_and] at k
      refine iteF ?_
      walk_at "rd"
      refine ⟨y, b, 0, 3, rfl, hb.mono s12, fun H3 s3 => ⟨_, rfl, ?_⟩⟩
      have s13 := s12.trans s3
      cases eb : isTupB b 0 3 with
      | false =>
        refine iteT ?_
        have q := k H3 s13
        rw [eb] at q
        exact q
      | true =>
        rw [eb, Bool.true_and] at k
        obtain ⟨ns, rfl, l0, l3⟩ := tupB_n eb
        have k : ∀ H', Same H H' → Q (.bl (ns.all (fun d => isAmongB d ks) && isAmongB c ks)) H' := k
        obtain ⟨r, xs, rfl, hr', A⟩ := hb.tupD
        have lx := A.length
        refine iteF ?_
        walk_at "rd"
        refine ⟨⟨_, SqT.of (s13 _ _ hr')⟩, fun D hD => ?_⟩
        refine lc_vals walk_tup (fun i => ns[i]?.map fun d => V.bl (isAmongB d ks)) hD (by rw [lx, sizeLine_eq]; omega) (fun H s => SqT.of (s _ _ (s13 _ _ hr'))) (fun i y H4 H5 K1 K0 hi s4 hy k1 k0 => ?_) (fun H4 s4 e4 => ?_)
        · obtain ⟨rfl, ey⟩ := hy
          obtain ⟨d, ed, hd⟩ := A.get ey
          refine ⟨rfl, ?_⟩
          walk_at "rd"
          have s14 := s13.trans s4
          refine ⟨y, d, t, ks, rfl, hd.mono s14, .inl (s14.seq hk), fun H6 s6 => k1 _ _ (by rw [ed]; rfl) s6⟩
        · rw [lx, range_map' (fun d => V.bl (isAmongB d ks)) ns] at e4
          have e5 : (ns.map fun d => V.bl (isAmongB d ks)) = (ns.map fun d => isAmongB d ks).map V.bl := by rw [List.map_map]; rfl
          rw [e5] at e4
          walk_at "rd"
          refine ⟨D, _, rfl, SqL.of e4, ?_⟩
          refine ⟨_, rfl, ?_⟩
          have s14 := s13.trans s4
          have ea : ((ns.map fun d => isAmongB d ks).all id) = ns.all (fun d => isAmongB d ks) := by rw [List.all_map]; rfl
          rw [ea]
          cases eq : ns.all (fun d => isAmongB d ks) with
          | false =>
            refine iteF ?_
            have q := k H4 s14
            rw [eq] at q
            exact q
          | true =>
            rw [eq, Bool.true_and] at k
            refine iteT ?_
            walk_at "rd"
            refine ⟨z, c, t, ks, rfl, hc.mono s14, .inl (s14.seq hk), fun H6 s6 => ?_⟩
            exact k H6 (s14.trans s6)

def spMakers (K : PySem.W.Frag) : Sp := fun vs H Q _ => ∃ (v : V) (d : PyData) (t : Addr) (ks : List Str), vs = [v, .ref t] ∧ Dd H v d ∧ okT d = true ∧ SqL K H t (ks.map V.str) ∧ ∀ H', Same H H' → Q (.bl (makersB ks d)) H'
theorem makersB_no {ks : List Str} {d : PyData} (h : isTupB d 0 24 = false) : makersB ks d = false := by
  cases d with
  | tuple ds =>
    have h : (decide ((0 : Int) ≤ ds.length) && decide ((ds.length : Int) ≤ 24)) = false := h
    show (decide (ds.length ≤ 24) && _ && _) = false
    rw [decide_eq_true (show (0 : Int) ≤ ds.length by omega), Bool.true_and] at h
    have e : decide (ds.length ≤ 24) = false := h ▸ decide_eq_decide.mpr (by omega)
    rw [e]
    rfl
  | _ => rfl
theorem makerB_of {ks : List Str} {d : PyData} (h : makerB ks d = true) : ∃ (x : Str) (ns : List PyData) (k : Str), d = .tuple [.str x, .tuple ns, .str k] ∧ nameS x = true ∧ ns.length ≤ 3 ∧ ns.all (fun n => isAmongB n ks) = true ∧ k ∈ ks := by
  cases e : isTupB d 3 3 with
  | false => rw [makerB_no e] at h; cases h
  | true =>
    obtain ⟨a, b, c, rfl⟩ := tupB_3 e
    rw [makerB_3] at h
    simp only [Bool.and_eq_true] at h
    obtain ⟨h1, h2, h3, h4⟩ := h
    obtain ⟨ns, rfl, _, l3⟩ := tupB_n h2
    cases a with
    | str x =>
      cases c with
      | str k => exact ⟨x, ns, k, rfl, h1, by omega, h3, of_decide_eq_true h4⟩
      | _ => exact absurd h4 (by intro z; cases z)
    | _ => exact absurd h1 (by intro z; cases z)
theorem sc_are_makers_told : FnScope ["value", "kinds", "told", "name", "needs", "kind"] ["value", "kinds"] (defScope s_are_makers_told) := ⟨rfl, rfl, rfl, by decide +kernel, rfl, by decide +kernel, by decide +kernel⟩
theorem ok_are_makers_told (D : Df K mg "are_makers_told" s_are_makers_told) (B : Bi mg) (C : Cn mg) (G1 : Gd P w K mg base CX0 1 "is_tuple" ["value", "least", "most"] spTup) (G2 : Gd P w K mg base CX0 1 "is_name" ["value"] spName) (G3 : Gd P w K mg base CX0 1 "is_among" ["value", "texts"] (spAmong K)) (G4 : Gd P w K mg base CX0 1 "are_unlike" ["texts"] (spUnlike K)) (G5 : Gd P w K mg base CX0 2 "is_maker_told" ["value", "kinds"] (spMaker K)) : Gd P w K mg base CX0 3 "are_makers_told" ["value", "kinds"] (spMakers K) := by
  refine gd_of D (fun _ _ _ _ _ _ us hl => match us, hl with | [_, _], _ => rfl) fun f fd F => ?_
  refine fun_q F sc_are_makers_told (fun vs H Q E h => by obtain ⟨v, d, t, ks, rfl, _⟩ := h; rfl) (fun cdv A outer s H vs Q E hr hq h => ?_)
  obtain ⟨v, d, t, ks, rfl, hd, ok, hk, k⟩ := h
  refine ⟨_, (pss_cons (ps_if (PW.pt (pw_or (pt_not (pt_val (pe_g (G1.mono (by decide)) hr hq (pa_cons (pv 0) (pa_cons pe_int (pa_cons (pe_cn (by rfl) C.MOST_MAKERS) pa_nil)))))) (pw_or1 (pt_not (pt_val (pe_callB (cr_all rfl) (by rfl) B.all (by decide +kernel) (pa_cons (pe_lc (own := [("told", 2)]) (g := (gName 2)) (tt := tYes) rfl sc_are_makers_told.nd (pi_tup (pv 0)) (blkOk_by (own := [("told", 2)]) (N := ["value", "kinds", "told", "name", "needs", "kind"]) (sc := defScope s_are_makers_told) (by decide +kernel)) (fun _ _ _ _ _ => (pg_name (i := 2) sc_are_makers_told.nd rfl (Or.inl rfl))) (fun _ _ _ _ _ => pts_nil) (fun _ _ _ _ _ => (pe_g G5 hr hq (pa_cons (pv 2) (pa_cons (pv 1) pa_nil))))) pa_nil))))))) (pss_one (ps_ret pe_bl)) pss_nil)
      (pss_one (ps_ret (pe_g (G4.mono (by decide)) hr hq (pa_cons (pe_lc (own := [("name", 3), ("needs", 4), ("kind", 5)]) (g := (gTup K 3 (gCons (gName 3) (gCons (gName 4) (gCons (gName 5) gNil))))) (tt := tYes) rfl sc_are_makers_told.nd (pi_tup (pv 0)) (blkOk_by (own := [("name", 3), ("needs", 4), ("kind", 5)]) (N := ["value", "kinds", "told", "name", "needs", "kind"]) (sc := defScope s_are_makers_told) (by decide +kernel)) (fun _ _ _ _ _ => (pg_tup rfl (pgs_cons (pg_name (i := 3) sc_are_makers_told.nd rfl (Or.inl rfl)) (pgs_cons (pg_name (i := 4) sc_are_makers_told.nd rfl (Or.inl rfl)) (pgs_cons (pg_name (i := 5) sc_are_makers_told.nd rfl (Or.inl rfl)) pgs_nil))))) (fun _ _ _ _ _ => pts_nil) (fun _ _ _ _ _ => (pv 3))) pa_nil))))), ?_⟩
  walk_at "rd"
  refine ⟨v, d, 0, 24, rfl, hd, fun H1 s1 => ⟨_, rfl, ?_⟩⟩
  cases e : isTupB d 0 24 with
  | false =>
    refine iteT ?_
    have q := k H1 s1
    rw [makersB_no e] at q
    exact q
  | true =>
    obtain ⟨ds, rfl, l1, l8⟩ := tupB_n e
    obtain ⟨p, xs, rfl, hp, A⟩ := hd.tupD
    have lx := A.length
    refine iteF ?_
    walk_at "rd"
    refine ⟨⟨_, SqT.of (s1 _ _ hp)⟩, fun D hD => ?_⟩
    refine lc_vals walk_tup (fun i => ds[i]?.map fun d => V.bl (makerB ks d)) hD (by rw [lx, sizeLine_eq]; omega) (fun H s => SqT.of (s _ _ (s1 _ _ hp))) (fun i y H2 H3 K1 K0 hi s2 hy k1 k0 => ?_) (fun H2 s2 e2 => ?_)
    · obtain ⟨rfl, ey⟩ := hy
      obtain ⟨d, ed, hd⟩ := A.get ey
      refine ⟨rfl, ?_⟩
      walk_at "rd"
      refine ⟨y, d, t, ks, rfl, hd.mono (s1.trans s2), okTs_at ok ed, (s1.trans s2).seq hk, fun H4 s4 => k1 _ _ (by rw [ed]; rfl) s4⟩
    · rw [lx, range_map' (fun d => V.bl (makerB ks d)) ds] at e2
      have e3 : (ds.map fun d => V.bl (makerB ks d)) = (ds.map (makerB ks)).map V.bl := by rw [List.map_map]; rfl
      rw [e3] at e2
      walk_at "rd"
      refine ⟨D, _, rfl, SqL.of e2, ?_⟩
      refine ⟨_, rfl, ?_⟩
      cases ea : (ds.map (makerB ks)).all id with
      | false =>
        refine iteT ?_
        have q := k H2 (s1.trans s2)
        have e4 : makersB ks (.tuple ds) = false := by
          show (decide (ds.length ≤ 24) && ds.all (makerB ks) && _) = false
          rw [List.all_map] at ea
          rw [show ds.all (makerB ks) = false from ea]
          simp
        rw [e4] at q
        exact q
      | true =>
        have eb : ds.all (makerB ks) = true := by rw [List.all_map] at ea; exact ea
        refine iteF ?_
        walk_at "rd"
        refine ⟨⟨_, SqT.of (s2 _ _ (s1 _ _ hp))⟩, fun D2 hD2 => ?_⟩
        refine lc_vals walk_tup (fun i => ds[i]?.map fun d => V.str (nameOf d)) hD2 (by rw [lx, sizeLine_eq]; omega) (fun H s => SqT.of (s _ _ (s2 _ _ (s1 _ _ hp)))) (fun i y H3 H4 K1 K0 hi s3 hy k1 k0 => ?_) (fun H3 s3 e5 => ?_)
        · obtain ⟨rfl, ey⟩ := hy
          obtain ⟨d, ed, hd⟩ := A.get ey
          have kd : makerB ks d = true := List.all_eq_true.mp eb d (List.mem_of_getElem? ed)
          obtain ⟨x, b, c, rfl, _⟩ := makerB_of kd
          obtain ⟨q, vx, vb, vc, rfl, hq2, hx, hb, hc⟩ := (hd.mono (s1.trans (s2.trans s3))) |> dd3
          obtain rfl := hx.strD
          refine ⟨q, _, rfl, SqT.of hq2, rfl, _, _, rfl, _, _, rfl, _, _, rfl, rfl, rfl, ?_⟩
          refine ⟨_, rfl, ?_⟩
          exact k1 _ _ (by rw [ed]; rfl) (Same.refl _)
        · rw [lx, range_map' (fun d => V.str (nameOf d)) ds] at e5
          have e6 : (ds.map fun d => V.str (nameOf d)) = (ds.map nameOf).map V.str := by rw [List.map_map]; rfl
          rw [e6] at e5
          refine ⟨D2, _, rfl, SqL.of e5, by rw [List.length_map]; omega, fun H5 s5 => ?_⟩
          have q := k H5 (s1.trans (s2.trans (s3.trans s5)))
          have e7 : makersB ks (.tuple ds) = decide (ds.map nameOf).Nodup := by
            show (decide (ds.length ≤ 24) && ds.all (makerB ks) && decide (ds.map nameOf).Nodup) = _
            rw [eb, decide_eq_true (by omega : ds.length ≤ 24)]
            simp
          rw [e7] at q
          exact q

end

section
variable {X : Cx} {K : PySem.W.Frag}
theorem ix_tupK (h : X.K = K) : IxR X (rIxT K) := h ▸ ix_tup
theorem ix_listK (h : X.K = K) : IxR X (rIxL K) := h ▸ ix_list
theorem pi_tupK {tg e : Expr} {te : TE} (h : X.K = K) (he : PE X e te) : PI X tg e (iTup K te) := h ▸ pi_tup he
theorem pi_listK {tg e : Expr} {te : TE} (h : X.K = K) (he : PE X e te) : PI X tg e (iList K te) := h ▸ pi_list he
theorem op_in_seqK (h : X.K = K) : OpR X (compareOp .In) (rIn K false) := h ▸ op_in_seq
theorem cr_allK (h : X.K = K) (hc : X.calm = true) : CallR X (.builtin "all") (rAll K) := h ▸ cr_all hc
theorem op_catTK (h : X.K = K) : OpR X (binaryOp .Add) (rCatT K) := h ▸ op_catT
end

theorem nodup_at {α : Type} {l : List α} (h : l.Nodup) {i j : Nat} {a : α} (hi : l[i]? = some a) (hj : l[j]? = some a) : i = j := by
  obtain ⟨i1, i2⟩ := List.getElem?_eq_some_iff.mp hi
  obtain ⟨j1, j2⟩ := List.getElem?_eq_some_iff.mp hj
  have p := List.pairwise_iff_getElem.mp h
  rcases Nat.lt_trichotomy i j with c | c | c
  · exact absurd (i2.trans j2.symm) (p i j i1 j1 c)
  · exact c
  · exact absurd (j2.trans i2.symm) (p j i j1 i1 c)
def wordOf (d : PyData) : Str := match d with | .tuple [_, .str b] => b | _ => Str.empty
def strD (d : PyData) : Str := match d with | .str x => x | _ => Str.empty
def needsOf (d : PyData) : List Str := match d with | .tuple [_, .tuple ns, _] => ns.map strD | _ => []
def kindOf (d : PyData) : Str := match d with | .tuple [_, _, .str k] => k | _ => Str.empty
/-- the dict of some names -/
def dic (ns : List Str) (S : Str → Bool) : List (Key × V) := ns.map fun x => (Sum.inr x, V.bl (S x))
theorem dic_get {S : Str → Bool} {x : Str} : ∀ {ns : List Str}, x ∈ ns → valV (dic ns S) (Sum.inr x) = some (.bl (S x))
  | [], h => by cases h
  | y :: ns, h => by
    by_cases e : y = x
    · subst e
      exact valV_pos rfl
    · have h2 : x ∈ ns := (List.mem_cons.mp h).resolve_left fun z => e z.symm
      exact (valV_neg (r := dic ns S) (fun z => e (Sum.inr.inj z))).trans (dic_get h2)
theorem dic_any {S : Str → Bool} {x : Str} {ns : List Str} : ((dic ns S).any fun kv => decide (kv.1 = Sum.inr x)) = decide (x ∈ ns) := by
  unfold dic
  rw [List.any_map, Bool.eq_iff_iff, List.any_eq_true, decide_eq_true_iff]
  constructor
  · rintro ⟨y, hy, e⟩
    have e := of_decide_eq_true e
    exact (Sum.inr.inj e) ▸ hy
  · exact fun h => ⟨x, h, decide_eq_true rfl⟩
theorem dic_put {S : Str → Bool} {x : Str} {b : Bool} {ns : List Str} (h : x ∈ ns) : putK (dic ns S) (Sum.inr x) (.bl b) = dic ns (fun y => if y = x then b else S y) := by
  unfold putK
  rw [dic_any, if_pos (decide_eq_true h)]
  unfold dic
  rw [List.map_map]
  refine List.map_congr_left fun y _ => ?_
  show (if (Sum.inr y : Key) = Sum.inr x then ((Sum.inr y : Key), V.bl b) else (Sum.inr y, V.bl (S y))) = (Sum.inr y, V.bl (if y = x then b else S y))
  by_cases e : y = x
  · subst e; simp
  · rw [if_neg (fun z => e (Sum.inr.inj z)), if_neg e]
theorem put_new {kvs : List (Key × V)} {k : Key} {v : V} (h : ∀ p ∈ kvs, p.1 ≠ k) : putK kvs k v = kvs ++ [(k, v)] := by
  unfold putK
  rw [if_neg]
  intro z
  obtain ⟨p, hp, e⟩ := List.any_eq_true.mp z
  exact h p hp (of_decide_eq_true e)
/-- {k: v for .. in t}, keys and values told ahead, the keys unlike -/
theorem dc_vals {K : PySem.W.Frag} {a : Addr} {xs : List V} {g : TG} {tt : TT} {tk tv : TE} {vs : List Nat} {σ : L2.St} {H1 : Hp} {D : Addr} {Qd : Hp → Prop}
    (f : Nat → Key × V) (hD : H1 D = none) (lz : xs.length ≤ sizeLine) (hG : ∀ H, Same H1 H → SqT K H a xs) (inj : ∀ i j, i < j → j < xs.length → (f i).1 ≠ (f j).1)
    (hs : ∀ i x H (M : V → V → Hp → Prop) (M0 : Hp → Prop), xs[i]? = some x → Same H1 H → (∀ H4, Same H H4 → M (kV (f i).1) (f i).2 H4) →
      g x (wipe σ vs) H fun σ2 H2 => wipe σ2 vs = wipe σ vs ∧ tt σ2 H2 fun b H3 => if b = true then tk σ2 H3 fun y H4 => tv σ2 H4 fun z H5 => M y z H5 else M0 H3)
    (hd : ∀ H, Same H1 H → H D = some (.dK ((List.range xs.length).map f)) → Qd H) :
    ∃ W : Nat → Nat → Hp → Prop, (∃ m, W 0 m (upd H1 D (.dK []))) ∧ ∀ i m H, W i m H →
      ((Itt K a).stop i H ∧ Qd H) ∨ ((Itt K a).go i H ∧ ∃ Nx : Hp → Prop, (∀ H', Nx H' → ∃ m', m' < m ∧ W (i + 1) m' H') ∧ ∀ x H', (Itt K a).yld i H x H' → g x (wipe σ vs) H' fun σ2 H2 => wipe σ2 vs = wipe σ vs ∧ tt σ2 H2 fun b H3 =>
        if b = true then tk σ2 H3 fun y H4 => tv σ2 H4 fun z H5 => ∃ kvs k, y = kV k ∧ H5 D = some (.dK kvs) ∧ kvs.length < sizeLine ∧ Nx (upd H5 D (.dK (putK kvs k z))) else Nx H3) := by
  refine dc_tup (fun i H => Same H1 H ∧ H D = some (.dK ((List.range i).map f))) ⟨same_new hD _, upd_same⟩ (fun i H _ p => hG H p.1) (fun i x H ex p => ?_) (fun H p => hd H p.1 p.2)
  obtain ⟨s1, e1⟩ := p
  have hi : i < xs.length := (List.getElem?_eq_some_iff.mp ex).1
  refine hs i x H _ _ ex s1 fun H4 s4 => ?_
  refine ⟨_, _, rfl, s4 _ _ e1, by rw [List.length_map, List.length_range]; omega, same_put (s1.trans s4) hD, ?_⟩
  rw [upd_same, put_new, List.range_succ, List.map_append]
  · rfl
  · intro p hp
    obtain ⟨j, hj, rfl⟩ := List.mem_map.mp hp
    exact inj j i (List.mem_range.mp hj) hi
theorem range_getD {α β : Type} (g : α → β) (e : α) : ∀ xs : List α, (List.range xs.length).map (fun i => g (xs[i]?.getD e)) = xs.map g
  | [] => rfl
  | x :: xs => by
    rw [List.length_cons, List.range_succ_eq_map, List.map_cons, List.map_cons, List.map_map, ← range_getD g e xs]
    rfl
/-- one maker's turn -/
def stepM (S : Str → Bool) (m : PyData) : Str → Bool := if (needsOf m).all S = true then fun y => if y = kindOf m then true else S y else S
def roundsM (md : List PyData) : Nat → (Str → Bool) → Str → Bool
  | 0, S => S
  | n + 1, S => md.foldl stepM (roundsM md n S)
def S0 (kd : List PyData) (y : Str) : Bool := kd.any fun d => decide (nameOf d = y) && decide (wordOf d = "open")
def haveB (kd md : List PyData) : Bool := (kd.map nameOf).all (roundsM md kd.length (S0 kd))
theorem S0_at {kd : List PyData} (nd : (kd.map nameOf).Nodup) {d : PyData} (h : d ∈ kd) : S0 kd (nameOf d) = decide (wordOf d = "open") := by
  unfold S0
  rw [Bool.eq_iff_iff, List.any_eq_true, decide_eq_true_iff]
  constructor
  · rintro ⟨e, he, q⟩
    rw [Bool.and_eq_true, decide_eq_true_iff, decide_eq_true_iff] at q
    have : e = d := by
      obtain ⟨i, hi, rfl⟩ := List.getElem_of_mem he
      obtain ⟨j, hj, rfl⟩ := List.getElem_of_mem h
      have := nodup_at nd (i := i) (j := j) (a := nameOf kd[j]) (by rw [List.getElem?_map, List.getElem?_eq_getElem hi, Option.map_some, q.1]) (by rw [List.getElem?_map, List.getElem?_eq_getElem hj, Option.map_some])
      subst this
      rfl
    exact this ▸ q.2
  · exact fun q => ⟨d, h, by rw [decide_eq_true q]; simp⟩
theorem kindsB_parts {ds : List PyData} (h : kindsB (.tuple ds) = true) : 1 ≤ ds.length ∧ ds.length ≤ 8 ∧ (∀ d ∈ ds, kindB d = true) ∧ (ds.map nameOf).Nodup := by
  have h : (decide (1 ≤ ds.length) && decide (ds.length ≤ 8) && ds.all kindB && decide (ds.map nameOf).Nodup) = true := h
  simp only [Bool.and_eq_true, decide_eq_true_iff] at h
  exact ⟨h.1.1.1, h.1.1.2, List.all_eq_true.mp h.1.2, h.2⟩
theorem makersB_parts {ks : List Str} {ds : List PyData} (h : makersB ks (.tuple ds) = true) : ds.length ≤ 24 ∧ (∀ d ∈ ds, makerB ks d = true) ∧ (ds.map nameOf).Nodup := by
  have h : (decide (ds.length ≤ 24) && ds.all (makerB ks) && decide (ds.map nameOf).Nodup) = true := h
  simp only [Bool.and_eq_true, decide_eq_true_iff] at h
  exact ⟨h.1.1, List.all_eq_true.mp h.1.2, h.2⟩
theorem among_str {d : PyData} {ks : List Str} (h : isAmongB d ks = true) : ∃ x, d = .str x ∧ x ∈ ks := by
  cases d with
  | str x => exact ⟨x, rfl, of_decide_eq_true h⟩
  | _ => exact absurd h (by intro z; cases z)
theorem dec_str (a b : Str) : decide (V.str a = V.str b) = decide (a = b) := decide_eq_decide.mpr ⟨fun z => by injection z, fun z => by rw [z]⟩

section
variable {P : Program} {w : World} {K : PySem.W.Frag} {mg : Str → Option Value} {base : Heap}

/-- have_terms(kinds, makers), for kinds and makers as told -/
def spHave : Sp := fun vs H Q _ => ∃ (u v : V) (kd md : List PyData), vs = [u, v] ∧ Dd H u (.tuple kd) ∧ Dd H v (.tuple md) ∧ kindsB (.tuple kd) = true ∧ makersB (kd.map nameOf) (.tuple md) = true ∧ ∀ H', Same H H' → Q (.bl (haveB kd md)) H'
theorem sc_have_terms : FnScope ["kinds", "makers", "filled", "name", "word", "_", "needs", "kind", "need"] ["kinds", "makers"] (defScope s_have_terms) := ⟨rfl, rfl, rfl, by decide +kernel, rfl, by decide +kernel, by decide +kernel⟩
theorem ok_have_terms (D : Df K mg "have_terms" s_have_terms) (B : Bi mg) : Gd P w K mg base CX0 1 "have_terms" ["kinds", "makers"] spHave := by
  refine gd_of D (fun _ _ _ _ _ _ us hl => match us, hl with | [_, _], _ => rfl) fun f fd F => ?_
  refine fun_q F sc_have_terms (fun vs H Q E h => by obtain ⟨u, v, kd, md, rfl, _⟩ := h; rfl) (fun cdv A outer s H vs Q E hr hq h => ?_)
  obtain ⟨u, v, kd, md, rfl, hk, hm, k1, k2, k⟩ := h
  refine ⟨_, (pss_cons (ps_set (i := 2) sc_have_terms.nd rfl (Or.inr rfl) (pe_dc (own := [("name", 3), ("word", 4)]) (g := (gTup K 2 (gCons (gName 3) (gCons (gName 4) gNil)))) (tt := tYes) rfl sc_have_terms.nd (pi_tup (pv 0)) (blkOk_by (own := [("name", 3), ("word", 4)]) (N := ["kinds", "makers", "filled", "name", "word", "_", "needs", "kind", "need"]) (sc := defScope s_have_terms) (by decide +kernel)) (fun _ _ _ _ _ => (pg_tup rfl (pgs_cons (pg_name (i := 3) sc_have_terms.nd rfl (Or.inl rfl)) (pgs_cons (pg_name (i := 4) sc_have_terms.nd rfl (Or.inl rfl)) pgs_nil)))) (fun _ _ _ _ _ => pts_nil) (fun _ _ _ _ _ => (pv 3)) (fun _ _ _ _ _ => (pe_cmpR op_eq (pv 4) pe_str (nomark _)))))
      (pss_cons (ps_for PassesOwn.never rfl (pi_tup (pv 0)) (pg_name (i := 5) sc_have_terms.nd rfl (Or.inl rfl)) (pss_one (ps_for PassesOwn.never rfl (pi_tup (pv 1)) (pg_tup rfl (pgs_cons (pg_name (i := 3) sc_have_terms.nd rfl (Or.inl rfl)) (pgs_cons (pg_name (i := 6) sc_have_terms.nd rfl (Or.inl rfl)) (pgs_cons (pg_name (i := 7) sc_have_terms.nd rfl (Or.inl rfl)) pgs_nil)))) (pss_one (ps_if (pt_val (pe_callB (cr_all rfl) (by rfl) B.all (by decide +kernel) (pa_cons (pe_lc (own := [("need", 8)]) (g := (gName 8)) (tt := tYes) rfl sc_have_terms.nd (pi_tup (pv 6)) (blkOk_by (own := [("need", 8)]) (N := ["kinds", "makers", "filled", "name", "word", "_", "needs", "kind", "need"]) (sc := defScope s_have_terms) (by decide +kernel)) (fun _ _ _ _ _ => (pg_name (i := 8) sc_have_terms.nd rfl (Or.inl rfl))) (fun _ _ _ _ _ => pts_nil) (fun _ _ _ _ _ => (pe_dget (hu_of hr) (pv 2) (pv 8) (fun _ _ => rfl)))) pa_nil))) (pss_one (ps_dput (hu_of hr) (pv 2) (pv 7) pe_bl rfl)) pss_nil)))))
      (pss_one (ps_ret (pe_callB (cr_all rfl) (by rfl) B.all (by decide +kernel) (pa_cons (pe_listVals rfl B.list (pv 2)) pa_nil)))))), ?_⟩
  obtain ⟨ka, kx, rfl, hka, KA⟩ := hk.tupD
  obtain ⟨ma, mx, rfl, hma, MA⟩ := hm.tupD
  obtain ⟨l1, l8, kb, knd⟩ := kindsB_parts k1
  obtain ⟨l24, mb, mnd⟩ := makersB_parts k2
  have lk := KA.length
  have lm := MA.length
  walk_at "rd"
  refine ⟨⟨_, SqT.of hka⟩, fun D hD => ?_⟩
  have gk : ∀ {i : Nat} {y : V} {H' : Hp}, kx[i]? = some y → Same H H' → ∃ q x b vb, kd[i]? = some (.tuple [.str x, .str b]) ∧ y = .ref q ∧ H' q = some (.tup [.str x, vb]) ∧ vb = .str b := fun {i y H'} e s => by
    obtain ⟨d, ed, hd⟩ := KA.get e
    obtain ⟨x, b, rfl, _, hb⟩ := kindB_pair (kb d (List.mem_of_getElem? ed))
    obtain ⟨b, rfl, _⟩ := among_str hb
    obtain ⟨q, vx, vb, rfl, hq2, hx, hb⟩ := dd2 (hd.mono s)
    obtain rfl := hx.strD
    exact ⟨q, x, b, vb, ed, rfl, hq2, hb.strD⟩
  refine dc_vals (fun i => (Sum.inr (nameOf (kd[i]?.getD .none)), V.bl (decide (wordOf (kd[i]?.getD .none) = "open")))) hD (by rw [lk, sizeLine_eq]; omega) (fun H s => SqT.of (s _ _ hka)) (fun i j hij hj e => ?_) (fun i y H2 M M0 ey s2 k4 => ?_) (fun H2 s2 e2 => ?_)
  · rw [lk] at hj
    have e := Sum.inr.inj e
    have hi : i < kd.length := by omega
    rw [List.getElem?_eq_getElem hi, List.getElem?_eq_getElem hj] at e
    have := nodup_at knd (i := i) (j := j) (a := nameOf kd[j]) (by rw [List.getElem?_map, List.getElem?_eq_getElem hi, Option.map_some]; exact congrArg some e) (by rw [List.getElem?_map, List.getElem?_eq_getElem hj, Option.map_some])
    omega
  · obtain ⟨q, x, b, vb, ed, rfl, hq2, rfl⟩ := gk ey s2
    refine ⟨q, _, rfl, SqT.of hq2, rfl, _, _, rfl, _, _, rfl, rfl, rfl, ?_⟩
    walk_at "rd"
    have k5 := k4 H2 (Same.refl _)
    rw [ed] at k5
    rw [dec_str]
    exact k5
  · have e3 : (List.range kx.length).map (fun i => ((Sum.inr (nameOf (kd[i]?.getD .none)) : Key), V.bl (decide (wordOf (kd[i]?.getD .none) = "open")))) = dic (kd.map nameOf) (S0 kd) := by
      rw [lk, range_getD (fun d => ((Sum.inr (nameOf d) : Key), V.bl (decide (wordOf d = "open")))) .none kd]
      unfold dic
      rw [List.map_map]
      refine List.map_congr_left fun d hd => ?_
      show _ = ((Sum.inr (nameOf d) : Key), V.bl (S0 kd (nameOf d)))
      rw [S0_at knd hd]
    rw [e3] at e2
    walk_at "rd"
    refine ⟨⟨_, SqT.of (s2 _ _ hka)⟩, ?_⟩
    refine for_it walk_tup (fun i σ H3 => (∃ n u e k', σ = [some (.ref ka), some (.ref ma), some (.ref D), n, none, u, e, k', none]) ∧ Same H H3 ∧ H3 D = some (.dK (dic (kd.map nameOf) (roundsM md i (S0 kd)))))
      ⟨⟨_, _, _, _, rfl⟩, s2, e2⟩ (fun i σ H3 _ p => SqT.of (p.2.1 _ _ hka)) (fun i y σ H3 H4 hi p hy => ?_) (fun σ H3 p => ?_)
    · obtain ⟨rfl, _⟩ := hy
      obtain ⟨⟨n, u, e, k', rfl⟩, s3, e3⟩ := p
      walk_at "rd"
      refine ⟨⟨_, SqT.of (s3 _ _ hma)⟩, ?_⟩
      refine for_it walk_tup (fun j σ H5 => (∃ n u e k', σ = [some (.ref ka), some (.ref ma), some (.ref D), n, none, u, e, k', none]) ∧ Same H H5 ∧ H5 D = some (.dK (dic (kd.map nameOf) ((md.take j).foldl stepM (roundsM md i (S0 kd))))))
        ⟨⟨_, _, _, _, rfl⟩, s3, by rw [List.take_zero]; exact e3⟩ (fun j σ H5 _ p => SqT.of (p.2.1 _ _ hma)) (fun j y σ H5 H6 hj p hy => ?_) (fun σ H5 p => ?_)
      · obtain ⟨rfl, ey⟩ := hy
        obtain ⟨⟨n, u, e, k', rfl⟩, s5, e5⟩ := p
        obtain ⟨m, em, hm⟩ := MA.get ey
        obtain ⟨x, ns, kk, rfl, _, l3, hns, hkk⟩ := makerB_of (mb m (List.mem_of_getElem? em))
        obtain ⟨q, vx, vn, vk, rfl, hq5, hx, hn, hk5⟩ := dd3 (hm.mono s5)
        obtain rfl := hx.strD
        obtain rfl := hk5.strD
        obtain ⟨na, nx, rfl, hna, NA⟩ := hn.tupD
        have ln := NA.length
        have et : (md.take (j + 1)).foldl stepM (roundsM md i (S0 kd)) = stepM ((md.take j).foldl stepM (roundsM md i (S0 kd))) (.tuple [.str x, .tuple ns, .str kk]) := by
          rw [List.take_add_one, em, List.foldl_append]
          rfl
        rw [et]
        generalize (md.take j).foldl stepM (roundsM md i (S0 kd)) = S at e5 ⊢
        refine ⟨q, _, rfl, SqT.of hq5, rfl, _, _, rfl, _, _, rfl, _, _, rfl, rfl, ?_⟩
        walk_at "rd"
        refine ⟨⟨_, SqT.of hna⟩, fun D2 hD2 => ?_⟩
        refine lc_vals walk_tup (fun i => ns[i]?.map fun n => V.bl (S (strD n))) hD2 (by rw [ln, sizeLine_eq]; omega) (fun H s => SqT.of (s _ _ hna)) (fun i y H7 H8 K1 K0 hi s7 hy k1 k0 => ?_) (fun H7 s7 e7 => ?_)
        · obtain ⟨rfl, ey⟩ := hy
          obtain ⟨d, ed, hd⟩ := NA.get ey
          obtain ⟨z, rfl, hz⟩ := among_str (List.all_eq_true.mp hns d (List.mem_of_getElem? ed))
          obtain rfl := hd.strD
          refine ⟨rfl, ?_⟩
          walk_at "rd"
          refine ⟨D, _, rfl, ?_, k1 _ _ (by rw [ed]; rfl) (Same.refl _)⟩
          have dg := DGet.k (k := Sum.inr z) (s7 _ _ e5)
          rw [dic_get hz] at dg
          exact dg
        · rw [ln, range_map' (fun n => V.bl (S (strD n))) ns] at e7
          have e8 : (ns.map fun n => V.bl (S (strD n))) = (ns.map fun n => S (strD n)).map V.bl := by rw [List.map_map]; rfl
          rw [e8] at e7
          walk_at "rd"
          refine ⟨D2, _, rfl, SqL.of e7, ?_⟩
          refine ⟨_, rfl, ?_⟩
          have ea : ((ns.map fun n => S (strD n)).all id) = (needsOf (.tuple [.str x, .tuple ns, .str kk])).all S := by
            show _ = (ns.map strD).all S
            rw [List.all_map, List.all_map]
            rfl
          rw [ea]
          have s57 := s5.trans s7
          have e9 := s7 _ _ e5
          cases eb : (needsOf (.tuple [.str x, .tuple ns, .str kk])).all S with
          | true =>
            have es : stepM S (.tuple [.str x, .tuple ns, .str kk]) = fun y => if y = kk then true else S y := if_pos eb
            rw [es]
            refine iteT ?_
            walk_at "rd"
            refine ⟨D, _, rfl, DPut.k (k := Sum.inr kk) e9 (by unfold dic; rw [List.length_map, List.length_map, sizeLine_eq]; omega), ⟨_, _, _, _, rfl⟩, same_put s57 hD, ?_⟩
            rw [upd_same, dic_put hkk]
          | false =>
            have es : stepM S (.tuple [.str x, .tuple ns, .str kk]) = S := if_neg (by rw [eb]; exact Bool.false_ne_true)
            rw [es]
            refine iteF ?_
            exact ⟨⟨_, _, _, _, rfl⟩, s57, e9⟩
      · obtain ⟨⟨n, u, e, k', rfl⟩, s5, e5⟩ := p
        refine ⟨⟨_, _, _, _, rfl⟩, s5, ?_⟩
        rw [lm, List.take_length] at e5
        exact e5
    · obtain ⟨⟨n, u, e, k', rfl⟩, s3, e3⟩ := p
      rw [lk] at e3
      walk_at "rd"
      refine ⟨D, _, rfl, e3, by unfold dic; rw [List.length_map, List.length_map, sizeLine_eq]; omega, fun p hp => ?_⟩
      walk_at "rd"
      have e4 : (dic (kd.map nameOf) (roundsM md kd.length (S0 kd))).map (·.2) = ((kd.map nameOf).map (roundsM md kd.length (S0 kd))).map V.bl := by
        simp only [dic, List.map_map]
        rfl
      rw [e4]
      refine ⟨p, _, rfl, SqL.of upd_same, ?_⟩
      have e5 : (((kd.map nameOf).map (roundsM md kd.length (S0 kd))).all id) = haveB kd md := by rw [List.all_map]; rfl
      rw [e5]
      exact k _ (same_put s3 (s3.free hp))

end

section
variable {P : Program} {w : World} {K : PySem.W.Frag} {mg : Str → Option Value} {base : Heap}

def namesOf (k : PyData) : List Str := match k with | .tuple kd => kd.map nameOf | _ => []
def have2 (k m : PyData) : Bool := match k, m with | .tuple kd, .tuple md => haveB kd md | _, _ => false
/-- a signature -/
def sigB (d : PyData) : Bool := match d with | .tuple [k, m] => kindsB k && (makersB (namesOf k) m && have2 k m) | _ => false
theorem sigB_no {d : PyData} (h : isTupB d 2 2 = false) : sigB d = false := by
  cases d with
  | tuple ds =>
    match ds with
    | [a, b] => exact absurd (show isTupB (.tuple [a, b]) 2 2 = true from rfl) (by rw [h]; intro z; cases z)
    | [] => rfl
    | [_] => rfl
    | _ :: _ :: _ :: _ => rfl
  | _ => rfl
theorem kindsB_tup {k : PyData} (h : kindsB k = true) : ∃ kd, k = .tuple kd := by
  cases k with
  | tuple kd => exact ⟨kd, rfl⟩
  | _ => exact absurd h (by intro z; cases z)
theorem makersB_tup {ks : List Str} {m : PyData} (h : makersB ks m = true) : ∃ md, m = .tuple md := by
  cases m with
  | tuple md => exact ⟨md, rfl⟩
  | _ => exact absurd h (by intro z; cases z)
theorem sigB_of {d : PyData} (h : sigB d = true) : ∃ kd md, d = .tuple [.tuple kd, .tuple md] ∧ kindsB (.tuple kd) = true ∧ makersB (kd.map nameOf) (.tuple md) = true ∧ haveB kd md = true := by
  cases e : isTupB d 2 2 with
  | false => rw [sigB_no e] at h; cases h
  | true =>
    obtain ⟨k, m, rfl⟩ := tupB_2 e
    have h : (kindsB k && (makersB (namesOf k) m && have2 k m)) = true := h
    simp only [Bool.and_eq_true] at h
    obtain ⟨h1, h2, h3⟩ := h
    obtain ⟨kd, rfl⟩ := kindsB_tup h1
    obtain ⟨md, rfl⟩ := makersB_tup h2
    exact ⟨kd, md, rfl, h1, h2, h3⟩
/-- a kind at its place, as it stands in the heap -/
theorem kind_at {H : Hp} {kx : List V} {kd : List PyData} (A : DdA H kx kd) (kb : ∀ d ∈ kd, kindB d = true) {i : Nat} {y : V} (e : kx[i]? = some y) :
    ∃ q x b, kd[i]? = some (.tuple [.str x, .str b]) ∧ y = .ref q ∧ H q = some (.tup [.str x, .str b]) ∧ (b = "open" ∨ b = "closed") := by
  obtain ⟨d, ed, hd⟩ := A.get e
  obtain ⟨x, b, rfl, _, hb⟩ := kindB_pair (kb d (List.mem_of_getElem? ed))
  have hb0 := hb
  obtain ⟨b, rfl, hmem⟩ := among_str hb0
  obtain ⟨q, vx, vb, rfl, hq2, hx, hy⟩ := dd2 hd
  obtain rfl := hx.strD
  obtain rfl := hy.strD
  refine ⟨q, x, b, ed, rfl, hq2, ?_⟩
  rcases List.mem_cons.mp hmem with z | z
  · exact .inl z
  · exact .inr (List.mem_singleton.mp z)
def spSig : Sp := fun vs H Q _ => ∃ (v : V) (d : PyData), vs = [v] ∧ Dd H v d ∧ okT d = true ∧ ∀ H', Same H H' → Q (.bl (sigB d)) H'

theorem sc_is_signature : FnScope ["value", "kinds", "makers", "name", "word"] ["value"] (defScope s_is_signature) := ⟨rfl, rfl, rfl, by decide +kernel, rfl, by decide +kernel, by decide +kernel⟩
theorem okF_is_signature {f : Addr} {fd : FuncData} (F : Fun K "is_signature" "is_signature" s_is_signature f fd)  (B : Bi mg) (G1 : Gd P w K mg base CX0 1 "is_tuple" ["value", "least", "most"] spTup) (G2 : Gd P w K mg base CX0 3 "are_kinds_told" ["value"] spKinds) (G3 : Gd P w K mg base CX0 3 "are_makers_told" ["value", "kinds"] (spMakers K)) (G4 : Gd P w K mg base CX0 1 "have_terms" ["kinds", "makers"] spHave) : Fn P w K mg base CX0 4 f fd ["value"] spSig := by
  refine fun_q F sc_is_signature (fun vs H Q E h => by obtain ⟨v, d, rfl, _⟩ := h; rfl) (fun cdv A outer s H vs Q E hr hq h => ?_)
  obtain ⟨v, d, rfl, hd, ok, k⟩ := h
  refine ⟨_, (pss_cons (ps_if (pt_not (pt_val (pe_g (G1.mono (by decide)) hr hq (pa_cons (pv 0) (pa_cons pe_int (pa_cons pe_int pa_nil)))))) (pss_one (ps_ret pe_bl)) pss_nil)
      (pss_cons (ps_asg (pv 0) (pg_tup rfl (pgs_cons (pg_name (i := 1) sc_is_signature.nd rfl (Or.inl rfl)) (pgs_cons (pg_name (i := 2) sc_is_signature.nd rfl (Or.inl rfl)) pgs_nil))))
      (pss_cons (ps_if (pt_not (pt_val (pe_g G2 hr hq (pa_cons (pv 1) pa_nil)))) (pss_one (ps_ret pe_bl)) pss_nil)
      (pss_one (ps_ret (pe_and (pe_g G3 hr hq (pa_cons (pv 2) (pa_cons (pe_lc (own := [("name", 3), ("word", 4)]) (g := (gTup K 2 (gCons (gName 3) (gCons (gName 4) gNil)))) (tt := tYes) rfl sc_is_signature.nd (pi_tup (pv 1)) (blkOk_by (own := [("name", 3), ("word", 4)]) (N := ["value", "kinds", "makers", "name", "word"]) (sc := defScope s_is_signature) (by decide +kernel)) (fun _ _ _ _ _ => (pg_tup rfl (pgs_cons (pg_name (i := 3) sc_is_signature.nd rfl (Or.inl rfl)) (pgs_cons (pg_name (i := 4) sc_is_signature.nd rfl (Or.inl rfl)) pgs_nil)))) (fun _ _ _ _ _ => pts_nil) (fun _ _ _ _ _ => (pv 3))) pa_nil))) (pe_one (pe_g (G4.mono (by decide)) hr hq (pa_cons (pv 1) (pa_cons (pv 2) pa_nil)))))))))), ?_⟩
  walk_at "rd"
  refine ⟨v, d, 2, 2, rfl, hd, fun H1 s1 => ⟨_, rfl, ?_⟩⟩
  cases e : isTupB d 2 2 with
  | false =>
    refine iteT ?_
    have q := k H1 s1
    rw [sigB_no e] at q
    exact q
  | true =>
    obtain ⟨a, b, rfl⟩ := tupB_2 e
    obtain ⟨oka, okb⟩ := okT_2 ok
    obtain ⟨p, x, y, rfl, hp, ha, hb⟩ := dd2 hd
    have k : ∀ H', Same H H' → Q (.bl (kindsB a && (makersB (namesOf a) b && have2 a b))) H' := k
    refine iteF ?_
    walk_at "rd"
    refine ⟨p, _, rfl, SqT.of (s1 _ _ hp), rfl, _, _, rfl, _, _, rfl, rfl, ?_⟩
    walk_at "rd"
    refine ⟨x, a, rfl, ha.mono s1, oka, fun H2 s2 => ⟨_, rfl, ?_⟩⟩
    have s12 := s1.trans s2
    cases ek : kindsB a with
    | false =>
      refine iteT ?_
      have q := k H2 s12
      rw [ek] at q
      exact q
    | true =>
      rw [ek, Bool.true_and] at k
      obtain ⟨kd, rfl⟩ := kindsB_tup ek
      obtain ⟨l1, l8, kb, knd⟩ := kindsB_parts ek
      obtain ⟨ka, kx, rfl, hka, KA⟩ := ha.tupD
      have lk := KA.length
      refine iteF ?_
      walk_at "rd"
      refine ⟨⟨_, SqT.of (s12 _ _ hka)⟩, fun D hD => ?_⟩
      refine lc_vals walk_tup (fun i => kd[i]?.map fun d => V.str (nameOf d)) hD (by rw [lk, sizeLine_eq]; omega) (fun H s => SqT.of (s _ _ (s12 _ _ hka))) (fun i y H3 H4 K1 K0 hi s3 hy k1 k0 => ?_) (fun H3 s3 e3 => ?_)
      · obtain ⟨rfl, ey⟩ := hy
        obtain ⟨q, x, b, ed, rfl, hq2, _⟩ := kind_at (KA.mono (s12.trans s3)) kb ey
        refine ⟨q, _, rfl, SqT.of hq2, rfl, _, _, rfl, _, _, rfl, rfl, rfl, ?_⟩
        refine ⟨_, rfl, ?_⟩
        exact k1 _ _ (by rw [ed]; rfl) (Same.refl _)
      · rw [lk, range_map' (fun d => V.str (nameOf d)) kd] at e3
        have e4 : (kd.map fun d => V.str (nameOf d)) = (kd.map nameOf).map V.str := by rw [List.map_map]; rfl
        rw [e4] at e3
        have s13 := s12.trans s3
        refine ⟨y, b, D, _, rfl, hb.mono s13, okb, SqL.of e3, fun H5 s5 => ?_⟩
        refine ⟨_, rfl, ?_⟩
        have s15 := s13.trans s5
        cases em : makersB (kd.map nameOf) b with
        | false =>
          refine iteF ?_
          have q : Q (.bl (makersB (kd.map nameOf) b && have2 (.tuple kd) b)) H5 := k H5 s15
          rw [em] at q
          exact q
        | true =>
          obtain ⟨md, rfl⟩ := makersB_tup em
          refine iteT ?_
          walk_at "rd"
          refine ⟨_, _, kd, md, rfl, ha.mono s15, hb.mono s15, ek, em, fun H6 s6 => ?_⟩
          have q : Q (.bl (makersB (kd.map nameOf) (.tuple md) && haveB kd md)) H6 := k H6 (s15.trans s6)
          rw [em] at q
          exact q
theorem ok_is_signature (D : Df K mg "is_signature" s_is_signature) (B : Bi mg) (G1 : Gd P w K mg base CX0 1 "is_tuple" ["value", "least", "most"] spTup) (G2 : Gd P w K mg base CX0 3 "are_kinds_told" ["value"] spKinds) (G3 : Gd P w K mg base CX0 3 "are_makers_told" ["value", "kinds"] (spMakers K)) (G4 : Gd P w K mg base CX0 1 "have_terms" ["kinds", "makers"] spHave) : Gd P w K mg base CX0 4 "is_signature" ["value"] spSig := gd_of D (fun _ _ _ _ _ _ us hl => match us, hl with | [_], _ => rfl) fun _ _ F => okF_is_signature F B G1 G2 G3 G4

def spCheckSig : Sp := fun vs H Q _ => ∃ (v : V) (d : PyData), vs = [v] ∧ Dd H v d ∧ okT d = true ∧ sigB d = true ∧ ∀ H', Same H H' → Q .non H'

theorem sc_check_signature : FnScope ["signature"] ["signature"] (defScope s_check_signature) := ⟨rfl, rfl, rfl, by decide +kernel, rfl, by decide +kernel, by decide +kernel⟩
theorem ok_check_signature (D : Df K mg "check_signature" s_check_signature) (G1 : Gd P w K mg base CX0 4 "is_signature" ["value"] spSig) : Gd P w K mg base CX0 5 "check_signature" ["signature"] spCheckSig := by
  refine gd_of D (fun _ _ _ _ _ _ us hl => match us, hl with | [_], _ => rfl) fun f fd F => ?_
  refine fun_q F sc_check_signature (fun vs H Q E h => by obtain ⟨v, d, rfl, _⟩ := h; rfl) (fun cdv A outer s H vs Q E hr hq h => ?_)
  obtain ⟨v, d, rfl, hd, ok, sg, k⟩ := h
  refine ⟨_, (pss_one (ps_if (pt_not (pt_val (pe_g G1 hr hq (pa_cons (pv 0) pa_nil)))) (pss_one ps_never) pss_nil)), ?_⟩
  walk_at "rd"
  refine ⟨v, d, rfl, hd, ok, fun H1 s1 => ⟨_, rfl, ?_⟩⟩
  rw [sg]
  refine iteF ?_
  exact k H1 s1

/-- kind_names(signature): a new list of the names -/
def spNames : Sp := fun vs H Q _ => ∃ (v : V) (kd : List PyData) (m : PyData), vs = [v] ∧ Dd H v (.tuple [.tuple kd, m]) ∧ kindsB (.tuple kd) = true ∧ ∀ p H', H p = none → Same H H' → H' p = some (.lst ((kd.map nameOf).map V.str)) → Q (.ref p) H'

theorem sc_kind_names : FnScope ["signature", "name", "word"] ["signature"] (defScope s_kind_names) := ⟨rfl, rfl, rfl, by decide +kernel, rfl, by decide +kernel, by decide +kernel⟩
theorem ok_kind_names (D : Df K mg "kind_names" s_kind_names) : Gd P w K mg base CX0 1 "kind_names" ["signature"] spNames := by
  refine gd_of D (fun _ _ _ _ _ _ us hl => match us, hl with | [_], _ => rfl) fun f fd F => ?_
  refine fun_q F sc_kind_names (fun vs H Q E h => by obtain ⟨v, kd, m, rfl, _⟩ := h; rfl) (fun cdv A outer s H vs Q E hr hq h => ?_)
  obtain ⟨v, kd, m, rfl, hd, ek, k⟩ := h
  obtain ⟨p, x, y, rfl, hp, ha, hb⟩ := dd2 hd
  obtain ⟨l1, l8, kb, knd⟩ := kindsB_parts ek
  obtain ⟨ka, kx, rfl, hka, KA⟩ := ha.tupD
  have lk := KA.length
  refine ⟨_, (pss_one (ps_ret (pe_lc (own := [("name", 1), ("word", 2)]) (g := (gTup K 2 (gCons (gName 1) (gCons (gName 2) gNil)))) (tt := tYes) rfl sc_kind_names.nd (pi_tup (pe_ix ix_tup (pv 0) pe_int (fun _ _ => rfl))) (blkOk_by (own := [("name", 1), ("word", 2)]) (N := ["signature", "name", "word"]) (sc := defScope s_kind_names) (by decide +kernel)) (fun _ _ _ _ _ => (pg_tup rfl (pgs_cons (pg_name (i := 1) sc_kind_names.nd rfl (Or.inl rfl)) (pgs_cons (pg_name (i := 2) sc_kind_names.nd rfl (Or.inl rfl)) pgs_nil)))) (fun _ _ _ _ _ => pts_nil) (fun _ _ _ _ _ => (pv 1))))), ?_⟩
  walk_at "rd"
  refine ⟨⟨_, SqT.of hka⟩, fun D hD => ?_⟩
  refine lc_vals walk_tup (fun i => kd[i]?.map fun d => V.str (nameOf d)) hD (by rw [lk, sizeLine_eq]; omega) (fun H s => SqT.of (s _ _ hka)) (fun i y H3 H4 K1 K0 hi s3 hy k1 k0 => ?_) (fun H3 s3 e3 => ?_)
  · obtain ⟨rfl, ey⟩ := hy
    obtain ⟨q, x, b, ed, rfl, hq2, _⟩ := kind_at (KA.mono s3) kb ey
    refine ⟨q, _, rfl, SqT.of hq2, rfl, _, _, rfl, _, _, rfl, rfl, rfl, ?_⟩
    refine ⟨_, rfl, ?_⟩
    exact k1 _ _ (by rw [ed]; rfl) (Same.refl _)
  · rw [lk, range_map' (fun d => V.str (nameOf d)) kd] at e3
    have e4 : (kd.map fun d => V.str (nameOf d)) = (kd.map nameOf).map V.str := by rw [List.map_map]; rfl
    rw [e4] at e3
    exact k D H3 hD s3 e3

/-- check_kind(signature, kind), one of its kinds -/
def spCheckKind : Sp := fun vs H Q _ => ∃ (v : V) (kd : List PyData) (m : PyData) (x : Str), vs = [v, .str x] ∧ Dd H v (.tuple [.tuple kd, m]) ∧ kindsB (.tuple kd) = true ∧ x ∈ kd.map nameOf ∧ ∀ H', Same H H' → Q .non H'

theorem sc_check_kind : FnScope ["signature", "kind"] ["signature", "kind"] (defScope s_check_kind) := ⟨rfl, rfl, rfl, by decide +kernel, rfl, by decide +kernel, by decide +kernel⟩
theorem ok_check_kind (D : Df K mg "check_kind" s_check_kind) (G1 : Gd P w K mg base CX0 1 "is_among" ["value", "texts"] (spAmong K)) (G2 : Gd P w K mg base CX0 1 "kind_names" ["signature"] spNames) : Gd P w K mg base CX0 2 "check_kind" ["signature", "kind"] spCheckKind := by
  refine gd_of D (fun _ _ _ _ _ _ us hl => match us, hl with | [_, _], _ => rfl) fun f fd F => ?_
  refine fun_q F sc_check_kind (fun vs H Q E h => by obtain ⟨v, kd, m, x, rfl, _⟩ := h; rfl) (fun cdv A outer s H vs Q E hr hq h => ?_)
  obtain ⟨v, kd, m, x, rfl, hd, ek, hx, k⟩ := h
  refine ⟨_, (pss_one (ps_if (pt_not (pt_val (pe_g G1 hr hq (pa_cons (pv 1) (pa_cons (pe_g G2 hr hq (pa_cons (pv 0) pa_nil)) pa_nil))))) (pss_one ps_never) pss_nil)), ?_⟩
  walk_at "rd"
  refine ⟨v, kd, m, rfl, hd, ek, fun p H1 hp s1 e1 => ?_⟩
  refine ⟨_, .str x, p, _, rfl, .str x, .inl (SqL.of e1), fun H2 s2 => ⟨_, rfl, ?_⟩⟩
  rw [show isAmongB (.str x) (kd.map nameOf) = true from decide_eq_true hx]
  refine iteF ?_
  exact k H2 (s1.trans s2)

end

/-- a dict comprehension over any walk -/
theorem dc_it {J : It} {n : Nat} {G : Hp → Prop} {Y : Nat → Hp → V → Hp → Prop} (w : Walk J n G Y) {g : TG} {tt : TT} {tk tv : TE} {vs : List Nat} {σ : L2.St} {H1 : Hp} {D : Addr} {Qd : Hp → Prop} (Pv : Nat → Hp → Prop)
    (h0 : Pv 0 (upd H1 D (.dK []))) (hG : ∀ i H, i ≤ n → Pv i H → G H)
    (hs : ∀ i x H H', i < n → Pv i H → Y i H x H' → g x (wipe σ vs) H' fun σ2 H2 => wipe σ2 vs = wipe σ vs ∧ tt σ2 H2 fun b H3 =>
      if b = true then tk σ2 H3 fun y H4 => tv σ2 H4 fun z H5 => ∃ kvs k, y = kV k ∧ H5 D = some (.dK kvs) ∧ kvs.length < sizeLine ∧ Pv (i + 1) (upd H5 D (.dK (putK kvs k z))) else Pv (i + 1) H3)
    (hd : ∀ H, Pv n H → Qd H) :
    ∃ W : Nat → Nat → Hp → Prop, (∃ m, W 0 m (upd H1 D (.dK []))) ∧ ∀ i m H, W i m H →
      (J.stop i H ∧ Qd H) ∨ (J.go i H ∧ ∃ Nx : Hp → Prop, (∀ H', Nx H' → ∃ m', m' < m ∧ W (i + 1) m' H') ∧ ∀ x H', J.yld i H x H' → g x (wipe σ vs) H' fun σ2 H2 => wipe σ2 vs = wipe σ vs ∧ tt σ2 H2 fun b H3 =>
        if b = true then tk σ2 H3 fun y H4 => tv σ2 H4 fun z H5 => ∃ kvs k, y = kV k ∧ H5 D = some (.dK kvs) ∧ kvs.length < sizeLine ∧ Nx (upd H5 D (.dK (putK kvs k z))) else Nx H3) := by
  refine ⟨fun i m H => m = n - i ∧ i ≤ n ∧ Pv i H, ⟨n, by omega, Nat.zero_le _, h0⟩, fun i m H ⟨em, le, p⟩ => ?_⟩
  have q := hG i H le p
  rcases Nat.lt_or_ge i n with lt | ge
  · exact .inr ⟨w.goes i H lt q, Pv (i + 1), fun H' p' => ⟨n - (i + 1), by omega, rfl, lt, p'⟩, fun x H' y => hs i x H H' lt p (w.yields i H x H' lt q y)⟩
  · obtain rfl : i = n := by omega
    exact .inl ⟨w.stops H q, hd H p⟩
def retE : Stmt → Option Expr
  | .Return (some e) _ => some e
  | _ => none
def compS : Option Expr → Scope
  | some (.DictComp _ _ _ sc _) => sc
  | some (.ListComp _ _ sc _) => sc
  | _ => default
/-- the scope of the comprehension that the i-th statement of a def returns -/
def retS (i : Nat) (st : Stmt) : Scope := compS ((defBody st)[i]?.bind retE)
/-- one maker in a list of them: its name and the kinds it needs -/
def MkAt (H : Hp) (y : V) (m : PyData) : Prop := ∃ t nv na, y = .ref t ∧ H t = some (.tup [nv, .ref na]) ∧ H na = some (.tup ((needsOf m).map V.str))
inductive MkL (H : Hp) : List V → List PyData → Prop
  | nil : MkL H [] []
  | cons {y : V} {ys : List V} {m : PyData} {ms : List PyData} : MkAt H y m → MkL H ys ms → MkL H (y :: ys) (m :: ms)
theorem MkAt.mono {H H' : Hp} {y : V} {m : PyData} (s : ∀ b o, H b = some o → (∃ xs, o = .tup xs) → H' b = some o) (h : MkAt H y m) : MkAt H' y m :=
  let ⟨t, nv, na, e, e1, e2⟩ := h
  ⟨t, nv, na, e, s _ _ e1 ⟨_, rfl⟩, s _ _ e2 ⟨_, rfl⟩⟩
theorem MkL.mono {H H' : Hp} (s : ∀ b o, H b = some o → (∃ xs, o = .tup xs) → H' b = some o) : ∀ {ys : List V} {ms : List PyData}, MkL H ys ms → MkL H' ys ms
  | _, _, .nil => .nil
  | _, _, .cons h t => .cons (h.mono s) (t.mono s)
theorem MkL.snoc {H : Hp} : ∀ {ys : List V} {ms : List PyData} {y : V} {m : PyData}, MkL H ys ms → MkAt H y m → MkL H (ys ++ [y]) (ms ++ [m])
  | _, _, _, _, .nil, h => .cons h .nil
  | _, _, _, _, .cons h t, h2 => .cons h (t.snoc h2)
theorem MkL.len {H : Hp} : ∀ {ys : List V} {ms : List PyData}, MkL H ys ms → ys.length = ms.length
  | _, _, .nil => rfl
  | _, _, .cons _ t => congrArg Nat.succ t.len
theorem MkL.get {H : Hp} : ∀ {ys : List V} {ms : List PyData} {i : Nat} {y : V}, MkL H ys ms → ys[i]? = some y → ∃ m, ms[i]? = some m ∧ MkAt H y m
  | _, _, _, _, .nil, e => by simp at e
  | _, _, 0, _, .cons h _, e => by
    simp only [List.getElem?_cons_zero, Option.some.injEq] at e
    subst e
    exact ⟨_, rfl, h⟩
  | _, _, i + 1, _, .cons _ t, e => t.get (i := i) (by simpa using e)
/-- the makers of a kind -/
def ofKind (md : List PyData) (x : Str) : List PyData := md.filter fun m => decide (kindOf m = x)
/-- D holds for each of the names the list of its makers -/
def MkD (H : Hp) (D : Addr) (ns : List Str) (md : List PyData) : Prop :=
  ∃ L : Str → Addr, H D = some (.dK (ns.map fun x => (Sum.inr x, V.ref (L x)))) ∧ ∀ x ∈ ns, ∃ ys, H (L x) = some (.lst ys) ∧ MkL H ys (ofKind md x)
theorem ofKind_take {md : List PyData} {x : Str} {j : Nat} {m : PyData} (e : md[j]? = some m) : ofKind (md.take (j + 1)) x = if kindOf m = x then ofKind (md.take j) x ++ [m] else ofKind (md.take j) x := by
  unfold ofKind
  rw [List.take_add_one, e, List.filter_append]
  by_cases c : kindOf m = x
  · simp [c]
  · simp [c]
/-- a maker at its place, as it stands in the heap -/
theorem maker_at {H : Hp} {mx : List V} {md : List PyData} {ks : List Str} (A : DdA H mx md) (mb : ∀ d ∈ md, makerB ks d = true) {i : Nat} {y : V} (e : mx[i]? = some y) :
    ∃ q x ns k na, md[i]? = some (.tuple [.str x, .tuple ns, .str k]) ∧ y = .ref q ∧ H q = some (.tup [.str x, .ref na, .str k]) ∧ H na = some (.tup ((ns.map strD).map V.str)) ∧ ns.length ≤ 3 ∧ (∀ n ∈ ns.map strD, n ∈ ks) ∧ k ∈ ks := by
  obtain ⟨m, em, hm⟩ := A.get e
  obtain ⟨x, ns, kk, rfl, _, l3, hns, hkk⟩ := makerB_of (mb m (List.mem_of_getElem? em))
  obtain ⟨q, vx, vn, vk, rfl, hq, hx, hn, hk⟩ := dd3 hm
  obtain rfl := hx.strD
  obtain rfl := hk.strD
  obtain ⟨na, nx, rfl, hna, NA⟩ := hn.tupD
  have al := List.all_eq_true.mp hns
  have en : ns = (ns.map strD).map PyData.str := by
    rw [List.map_map]
    refine (List.map_id ns).symm.trans (List.map_congr_left fun n hn => ?_)
    obtain ⟨z, rfl, _⟩ := among_str (al n hn)
    rfl
  rw [en] at NA
  obtain rfl := NA.strs
  refine ⟨q, x, ns, kk, na, em, rfl, hq, hna, l3, fun n hn => ?_, hkk⟩
  obtain ⟨d, hd, rfl⟩ := List.mem_map.mp hn
  obtain ⟨z, rfl, hz⟩ := among_str (al d hd)
  exact hz

section
variable {P : Program} {w : World} {K : PySem.W.Frag} {mg : Str → Option Value} {base : Heap}

/-- makers_by_kind(signature): a new dict -/
def spMakersBy : Sp := fun vs H Q _ => ∃ (v : V) (kd md : List PyData), vs = [v] ∧ Dd H v (.tuple [.tuple kd, .tuple md]) ∧ kindsB (.tuple kd) = true ∧ makersB (kd.map nameOf) (.tuple md) = true ∧
  ∀ p H', H p = none → Same H H' → MkD H' p (kd.map nameOf) md → Q (.ref p) H'

theorem sc_makers_by_kind : FnScope ["signature", "names", "maker", "needs", "kind", "name"] ["signature"] (defScope s_makers_by_kind) := ⟨rfl, rfl, rfl, by decide +kernel, rfl, by decide +kernel, by decide +kernel⟩
theorem ok_makers_by_kind (D : Df K mg "makers_by_kind" s_makers_by_kind) (G1 : Gd P w K mg base CX0 1 "kind_names" ["signature"] spNames) : Gd P w K mg base CX0 2 "makers_by_kind" ["signature"] spMakersBy := by
  refine gd_of D (fun _ _ _ _ _ _ us hl => match us, hl with | [_], _ => rfl) fun f fd F => ?_
  refine fun_q F sc_makers_by_kind (fun vs H Q E h => by obtain ⟨v, kd, m, rfl, _⟩ := h; rfl) (fun cdv A outer s H vs Q E hr hq h => ?_)
  obtain ⟨v, kd, md, rfl, hd, ek, em, k⟩ := h
  obtain ⟨p, x, y, rfl, hp, ha, hb⟩ := dd2 hd
  obtain ⟨l1, l8, kb, knd⟩ := kindsB_parts ek
  obtain ⟨l24, mb, mnd⟩ := makersB_parts em
  obtain ⟨ma, mx, rfl, hma, MA⟩ := hb.tupD
  have lm := MA.length
  refine ⟨_, (pss_cons (ps_set (i := 1) sc_makers_by_kind.nd rfl (Or.inl rfl) (pe_g G1 hr hq (pa_cons (pv 0) pa_nil)))
      (pss_one (ps_ret (pe_dc (own := [("name", 5)]) (g := (gName 5)) (tt := tYes) rfl sc_makers_by_kind.nd (pi_list (pv 1)) (blkOk_by (own := [("name", 5)]) (N := ["signature", "names", "maker", "needs", "kind", "name"]) (sc := defScope s_makers_by_kind) (by decide +kernel)) (fun _ _ _ _ _ => (pg_name (i := 5) sc_makers_by_kind.nd rfl (Or.inr rfl))) (fun _ _ _ _ _ => pts_nil) (fun _ _ _ _ _ => (pv 5)) (fun _ _ _ _ _ => (pe_lc (own := [("maker", 2), ("needs", 3), ("kind", 4)]) (g := (gTup K 3 (gCons (gName 2) (gCons (gName 3) (gCons (gName 4) gNil))))) rfl sc_makers_by_kind.nd (pi_tupK (K := K) rfl (pe_ix (ix_tupK (K := K) rfl) (pv 0) pe_int (fun _ _ => rfl))) (blkOk_by (own := [("maker", 2), ("needs", 3), ("kind", 4)]) (N := ["signature", "names", "maker", "needs", "kind", "name"]) (sc := relS (retS 1 s_makers_by_kind) (defScope s_makers_by_kind)) (by decide +kernel)) (fun _ _ _ _ _ => (pg_tup rfl (pgs_cons (pg_name (i := 2) sc_makers_by_kind.nd rfl (Or.inl rfl)) (pgs_cons (pg_name (i := 3) sc_makers_by_kind.nd rfl (Or.inl rfl)) (pgs_cons (pg_name (i := 4) sc_makers_by_kind.nd rfl (Or.inl rfl)) pgs_nil))))) (fun _ _ _ _ _ => (pts_one (pt_cmpR op_eq (pv 4) (pv 5) (nomark _)))) (fun _ _ _ _ _ => (pe_tup (pa_cons (pv 2) (pa_cons (pv 3) pa_nil)))))))))), ?_⟩
  walk_at "rd"
  refine ⟨_, kd, _, rfl, hd, ek, fun t H1 ht s1 e1 => ?_⟩
  walk_at "rd"
  refine ⟨⟨_, SqL.of e1⟩, fun D hD => ?_⟩
  have ne : t ≠ D := ne_of_none e1 hD
  refine dc_it walk_list (fun i H2 => Same H1 H2 ∧ ∃ L : Str → Addr, H2 D = some (.dK (((kd.map nameOf).take i).map fun x => (Sum.inr x, V.ref (L x)))) ∧ ∀ x ∈ (kd.map nameOf).take i, L x ≠ D ∧ ∃ ys, H2 (L x) = some (.lst ys) ∧ MkL H2 ys (ofKind md x))
    ⟨same_new hD _, fun _ => D, upd_same, fun x hx => by rw [List.take_zero] at hx; cases hx⟩ (fun i H2 _ p => SqL.of (p.1 _ _ e1)) (fun i y H2p H2 hi p hy => ?_) (fun H2 p => ?_)
  · obtain ⟨rfl, ey⟩ := hy
    obtain ⟨s2, L, e2, hL⟩ := p
    rw [List.getElem?_map] at ey
    obtain ⟨nm, en, rfl⟩ := Option.map_eq_some_iff.mp ey
    refine ⟨rfl, ?_⟩
    walk_at "rd"
    have s12 := s1.trans s2
    refine ⟨p, _, 1, _, rfl, rfl, SqT.of (s12 _ _ hp), rfl, ?_⟩
    refine ⟨ma, rfl, ⟨_, SqT.of (s12 _ _ hma)⟩, fun D2 hD2 => ?_⟩
    have n2 : D ≠ D2 := ne_of_none e2 hD2
    have nmk : nm ∈ kd.map nameOf := List.mem_of_getElem? en
    refine lc_it walk_tup (fun j H4 => Same H2 H4 ∧ ∃ ys, H4 D2 = some (.lst ys) ∧ MkL H4 ys (ofKind (md.take j) nm) ∧ ys.length ≤ j)
      ⟨same_new hD2 _, [], upd_same, (by rw [List.take_zero]; exact .nil), Nat.le_refl _⟩ (fun j H4 _ p => SqT.of (p.1 _ _ (s12 _ _ hma))) (fun j y H4p H4 hj p hy => ?_) (fun H4 p => ?_)
    · obtain ⟨rfl, ey⟩ := hy
      obtain ⟨s4, ys, e4, M, lz⟩ := p
      obtain ⟨q, x, nds, kk, na, em, rfl, hq4, hna, l3, hns, hkk⟩ := maker_at (MA.mono (s12.trans s4)) mb ey
      refine ⟨q, _, rfl, SqT.of hq4, rfl, _, _, rfl, _, _, rfl, _, _, rfl, rfl, rfl, ?_⟩
      walk_at "rd"
      have ek0 : kindOf (.tuple [.str x, .tuple nds, .str kk]) = kk := rfl
      rw [dec_str]
      by_cases c : kk = nm
      · rw [decide_eq_true c]
        walk_at "rd"
        intro T hT
        have nT : D2 ≠ T := ne_of_none e4 hT
        refine ⟨ys, by rw [upd_ne nT]; exact e4, by rw [sizeLine_eq]; omega, same_put (same_put s4 (s4.free hT)) hD2, ys ++ [.ref T], upd_same, ?_, by rw [List.length_append]; exact Nat.succ_le_succ lz⟩
        rw [ofKind_take em, if_pos (ek0.trans c)]
        have mono : ∀ b o, H4 b = some o → (∃ xs, o = .tup xs) → (upd (upd H4 T (.tup [.str x, .ref na])) D2 (.lst (ys ++ [.ref T]))) b = some o := fun b o e ⟨xs, eo⟩ => by
          have nb : b ≠ D2 := fun z => by rw [z, e4, eo] at e; cases e
          rw [upd_ne nb, upd_ne (ne_of_none e hT)]
          exact e
        refine (M.mono mono).snoc ⟨T, _, na, rfl, by rw [upd_ne nT.symm]; exact upd_same, ?_⟩
        exact mono _ _ hna ⟨_, rfl⟩
      · rw [decide_eq_false c]
        refine ⟨s4, ys, e4, ?_, by omega⟩
        rw [ofKind_take em, if_neg (fun z => c (ek0.symm.trans z))]
        exact M
    · obtain ⟨s4, ys, e4, M, lz⟩ := p
      rw [lm, List.take_length] at M
      have s14 := s2.trans s4
      have e5 := s4 _ _ e2
      have nm0 : ∀ q ∈ ((kd.map nameOf).take i).map (fun x => ((Sum.inr x : Key), V.ref (L x))), q.1 ≠ Sum.inr nm := fun q hq e => by
        obtain ⟨x, hx, rfl⟩ := List.mem_map.mp hq
        have e : x = nm := Sum.inr.inj e
        subst e
        obtain ⟨j, hj⟩ := List.mem_iff_getElem?.mp hx
        have hji : j < i := by
          have := (List.getElem?_eq_some_iff.mp hj).1
          rw [List.length_take] at this
          omega
        rw [List.getElem?_take_of_lt hji] at hj
        exact absurd (nodup_at knd hj en) (by omega)
      have nmL : nm ∉ (kd.map nameOf).take i := fun z => nm0 _ (List.mem_map.mpr ⟨nm, z, rfl⟩) rfl
      refine ⟨_, Sum.inr nm, rfl, e5, by rw [List.length_map, List.length_take, List.length_map, sizeLine_eq]; omega, same_put s14 hD, fun x => if x = nm then D2 else L x, ?_, fun x hx => ?_⟩
      · rw [upd_same, put_new nm0, List.take_add_one, en, List.map_append]
        have e7 : ((kd.map nameOf).take i).map (fun x => ((Sum.inr x : Key), V.ref (if x = nm then D2 else L x))) = ((kd.map nameOf).take i).map (fun x => ((Sum.inr x : Key), V.ref (L x))) :=
          List.map_congr_left fun x hx => by rw [if_neg (fun z : x = nm => nmL (z ▸ hx))]
        rw [e7]
        simp
      · have mono : ∀ b o, H4 b = some o → (∃ xs, o = .tup xs) → (upd H4 D (.dK (putK (((kd.map nameOf).take i).map fun x => ((Sum.inr x : Key), V.ref (L x))) (Sum.inr nm) (.ref D2)))) b = some o := fun b o e ⟨xs, eo⟩ => by
          have nb : b ≠ D := fun z => by rw [z, e5, eo] at e; cases e
          rw [upd_ne nb]
          exact e
        by_cases c : x = nm
        · subst c
          dsimp only
          rw [if_pos rfl]
          exact ⟨n2.symm, ys, by rw [upd_ne n2.symm]; exact e4, M.mono mono⟩
        · dsimp only
          rw [if_neg c]
          rw [List.take_add_one, en, List.mem_append] at hx
          have hx : x ∈ (kd.map nameOf).take i := hx.resolve_right fun z => c (List.mem_singleton.mp z)
          obtain ⟨nL, zs, e6, M6⟩ := hL x hx
          refine ⟨nL, zs, by rw [upd_ne nL]; exact s4 _ _ e6, (M6.mono fun b o e _ => s4 _ _ e).mono mono⟩
  · obtain ⟨s2, L, e2, hL⟩ := p
    rw [List.length_map, List.take_length] at e2 hL
    exact k D H2 (s1.free hD) (s1.trans s2) ⟨L, e2, fun x hx => (hL x hx).2⟩

end

/-- any loop by its turns -/
theorem loop_it {J : It} {n : Nat} {G : Hp → Prop} {Y : Nat → Hp → V → Hp → Prop} (w : Walk J n G Y) {H1 : Hp} {Qd : Hp → Prop} {body : (Hp → Prop) → V → Hp → Prop} (Pv : Nat → Hp → Prop) (h0 : Pv 0 H1) (hG : ∀ i H, i ≤ n → Pv i H → G H)
    (hs : ∀ i x H H', i < n → Pv i H → Y i H x H' → body (Pv (i + 1)) x H') (hd : ∀ H, Pv n H → Qd H) :
    ∃ W : Nat → Nat → Hp → Prop, (∃ m, W 0 m H1) ∧ ∀ i m H, W i m H →
      (J.stop i H ∧ Qd H) ∨ (J.go i H ∧ ∃ Nx : Hp → Prop, (∀ H', Nx H' → ∃ m', m' < m ∧ W (i + 1) m' H') ∧ ∀ x H', J.yld i H x H' → body Nx x H') := by
  refine ⟨fun i m H => m = n - i ∧ i ≤ n ∧ Pv i H, ⟨n, by omega, Nat.zero_le _, h0⟩, fun i m H ⟨em, le, p⟩ => ?_⟩
  have q := hG i H le p
  rcases Nat.lt_or_ge i n with lt | ge
  · exact .inr ⟨w.goes i H lt q, Pv (i + 1), fun H' p' => ⟨n - (i + 1), by omega, rfl, lt, p'⟩, fun x H' y => hs i x H H' lt p (w.yields i H x H' lt q y)⟩
  · obtain rfl : i = n := by omega
    exact .inl ⟨w.stops H q, hd H p⟩
/-- whether one kind is small, by what is known of the others -/
def ruleK (md : List PyData) (S : Str → Bool) (d : PyData) : Bool := decide (wordOf d = "closed") && (ofKind md (nameOf d)).all fun m => (needsOf m).all S
def stepK (md : List PyData) (S : Str → Bool) (d : PyData) : Str → Bool := fun y => if y = nameOf d then ruleK md S d else S y
def roundsK (kd md : List PyData) : Nat → (Str → Bool) → Str → Bool
  | 0, S => S
  | n + 1, S => kd.foldl (stepK md) (roundsK kd md n S)
/-- whether a kind is small -/
def smallB (kd md : List PyData) : Str → Bool := roundsK kd md kd.length fun _ => false
theorem MkD.but {H H' : Hp} {D pm : Addr} {kvs : List (Key × V)} {ns : List Str} {md : List PyData} (hD : H D = some (.dK kvs)) (n : pm ≠ D) (s : ∀ b o, b ≠ D → H b = some o → H' b = some o) (M : MkD H pm ns md) : MkD H' pm ns md := by
  obtain ⟨L, e, hL⟩ := M
  refine ⟨L, s _ _ n e, fun x hx => ?_⟩
  obtain ⟨ys, e1, m⟩ := hL x hx
  refine ⟨ys, s _ _ (fun z => by rw [z, hD] at e1; cases e1) e1, m.mono fun b o e2 ⟨xs, eo⟩ => s _ _ (fun z => by rw [z, hD, eo] at e2; cases e2) e2⟩
theorem flat_len {ms : List PyData} {f : PyData → List Bool} (h : ∀ m ∈ ms, (f m).length ≤ 3) : (ms.flatMap f).length ≤ 3 * ms.length := by
  induction ms with
  | nil => simp
  | cons m ms ih =>
    have h1 := h m (List.mem_cons_self ..)
    have h2 := ih fun x hx => h x (List.mem_cons_of_mem _ hx)
    rw [List.flatMap_cons, List.length_append, List.length_cons]
    omega
theorem flat_all {ms : List PyData} {S : Str → Bool} : (ms.flatMap fun m => (needsOf m).map S).all id = ms.all fun m => (needsOf m).all S := by
  induction ms with
  | nil => rfl
  | cons m ms ih =>
    rw [List.flatMap_cons, List.all_append, ih, List.all_cons, List.all_map]
    rfl
theorem needs_ok {ks : List Str} {m : PyData} (h : makerB ks m = true) : (needsOf m).length ≤ 3 ∧ ∀ n ∈ needsOf m, n ∈ ks := by
  obtain ⟨x, ns, k, rfl, _, l3, hns, _⟩ := makerB_of h
  refine ⟨by show (ns.map strD).length ≤ 3; rw [List.length_map]; exact l3, fun n hn => ?_⟩
  obtain ⟨d, hd, rfl⟩ := List.mem_map.mp (show n ∈ ns.map strD from hn)
  obtain ⟨z, rfl, hz⟩ := among_str (List.all_eq_true.mp hns d hd)
  exact hz
theorem map_get {f : Str → V} {x : Str} : ∀ {ns : List Str}, x ∈ ns → valV (ns.map fun y => ((Sum.inr y : Key), f y)) (Sum.inr x) = some (f x)
  | [], h => by cases h
  | y :: ns, h => by
    by_cases e : y = x
    · subst e
      exact valV_pos rfl
    · have h2 : x ∈ ns := (List.mem_cons.mp h).resolve_left fun z => e z.symm
      exact (valV_neg (r := ns.map fun y => ((Sum.inr y : Key), f y)) (fun z => e (Sum.inr.inj z))).trans (map_get h2)

section
variable {P : Program} {w : World} {K : PySem.W.Frag} {mg : Str → Option Value} {base : Heap}

/-- small_kinds(signature): a new dict -/
def spSmalls : Sp := fun vs H Q _ => ∃ (v : V) (kd md : List PyData), vs = [v] ∧ Dd H v (.tuple [.tuple kd, .tuple md]) ∧ kindsB (.tuple kd) = true ∧ makersB (kd.map nameOf) (.tuple md) = true ∧
  ∀ p H', H p = none → Same H H' → H' p = some (.dK (dic (kd.map nameOf) (smallB kd md))) → Q (.ref p) H'

theorem sc_small_kinds : FnScope ["signature", "small", "name", "makers", "_", "word", "maker", "needs", "need"] ["signature"] (defScope s_small_kinds) := ⟨rfl, rfl, rfl, by decide +kernel, rfl, by decide +kernel, by decide +kernel⟩
theorem ok_small_kinds (D : Df K mg "small_kinds" s_small_kinds) (B : Bi mg) (G1 : Gd P w K mg base CX0 1 "kind_names" ["signature"] spNames) (G2 : Gd P w K mg base CX0 2 "makers_by_kind" ["signature"] spMakersBy) : Gd P w K mg base CX0 3 "small_kinds" ["signature"] spSmalls := by
  refine gd_of D (fun _ _ _ _ _ _ us hl => match us, hl with | [_], _ => rfl) fun f fd F => ?_
  refine fun_q F sc_small_kinds (fun vs H Q E h => by obtain ⟨v, kd, m, rfl, _⟩ := h; rfl) (fun cdv A outer s H vs Q E hr hq h => ?_)
  obtain ⟨v, kd, md, rfl, hd, ek, em, k⟩ := h
  obtain ⟨p, x, y, rfl, hp, ha, hb⟩ := dd2 hd
  obtain ⟨l1, l8, kb, knd⟩ := kindsB_parts ek
  obtain ⟨l24, mb, mnd⟩ := makersB_parts em
  obtain ⟨ka, kx, rfl, hka, KA⟩ := ha.tupD
  have lk := KA.length
  refine ⟨_, (pss_cons (ps_set (i := 1) sc_small_kinds.nd rfl (Or.inr rfl) (pe_dc (own := [("name", 2)]) (g := (gName 2)) (tt := tYes) rfl sc_small_kinds.nd (pi_list (pe_g (G1.mono (by decide)) hr hq (pa_cons (pv 0) pa_nil))) (blkOk_by (own := [("name", 2)]) (N := ["signature", "small", "name", "makers", "_", "word", "maker", "needs", "need"]) (sc := defScope s_small_kinds) (by decide +kernel)) (fun _ _ _ _ _ => (pg_name (i := 2) sc_small_kinds.nd rfl (Or.inl rfl))) (fun _ _ _ _ _ => pts_nil) (fun _ _ _ _ _ => (pv 2)) (fun _ _ _ _ _ => pe_bl)))
      (pss_cons (ps_set (i := 3) sc_small_kinds.nd rfl (Or.inl rfl) (pe_g G2 hr hq (pa_cons (pv 0) pa_nil)))
      (pss_cons (ps_for PassesOwn.never rfl (pi_tup (pe_ix ix_tup (pv 0) pe_int (fun _ _ => rfl))) (pg_name (i := 4) sc_small_kinds.nd rfl (Or.inl rfl)) (pss_one (ps_for PassesOwn.never rfl (pi_tup (pe_ix ix_tup (pv 0) pe_int (fun _ _ => rfl))) (pg_tup rfl (pgs_cons (pg_name (i := 2) sc_small_kinds.nd rfl (Or.inl rfl)) (pgs_cons (pg_name (i := 5) sc_small_kinds.nd rfl (Or.inl rfl)) pgs_nil))) (pss_one (ps_dput (hu_of hr) (pv 1) (pv 2) (pe_and (pe_cmpR op_eq (pv 5) pe_str (nomark _)) (pe_one (pe_callB (cr_all rfl) (by rfl) B.all (by decide +kernel) (pa_cons (pe_lc2 (own := [("maker", 6), ("needs", 7), ("need", 8)]) (vs1 := [8]) (g := (gTup K 2 (gCons (gName 6) (gCons (gName 7) gNil)))) (g1 := (gName 8)) (tt := tYes) (tt1 := tYes) rfl sc_small_kinds.nd (pi_list (pe_dget (hu_of hr) (pv 3) (pv 2) (fun _ _ => rfl))) (blkOk_by (own := [("maker", 6), ("needs", 7), ("need", 8)]) (N := ["signature", "small", "name", "makers", "_", "word", "maker", "needs", "need"]) (sc := defScope s_small_kinds) (by decide +kernel)) (by decide) (fun _ _ _ _ _ => (pg_tup rfl (pgs_cons (pg_name (i := 6) sc_small_kinds.nd rfl (Or.inl rfl)) (pgs_cons (pg_name (i := 7) sc_small_kinds.nd rfl (Or.inl rfl)) pgs_nil)))) (fun _ _ _ _ _ => pts_nil) (fun _ _ _ _ _ => (pi_tupK (K := K) rfl (pv 7))) (fun _ _ _ _ _ => (pg_name (i := 8) sc_small_kinds.nd rfl (Or.inl rfl))) (fun _ _ _ _ _ => pts_nil) (fun _ _ _ _ _ => (pe_dget (hu_of hr) (pv 1) (pv 8) (fun _ _ => rfl)))) pa_nil)))) rfl)))))
      (pss_one (ps_ret (pv 1)))))), ?_⟩
  walk_at "rd"
  refine ⟨_, kd, _, rfl, hd, ek, fun t H1 ht s1 e1 => ?_⟩
  refine ⟨t, rfl, ⟨_, SqL.of e1⟩, fun D hD => ?_⟩
  refine dc_it walk_list (fun i H2 => Same H1 H2 ∧ H2 D = some (.dK (dic ((kd.map nameOf).take i) fun _ => false)))
    ⟨same_new hD _, by rw [List.take_zero]; exact upd_same⟩ (fun i H2 _ p => SqL.of (p.1 _ _ e1)) (fun i y H2p H2 hi p hy => ?_) (fun H2 p => ?_)
  · obtain ⟨rfl, ey⟩ := hy
    obtain ⟨s2, e2⟩ := p
    rw [List.getElem?_map] at ey
    obtain ⟨nm, en, rfl⟩ := Option.map_eq_some_iff.mp ey
    refine ⟨rfl, ?_⟩
    walk_at "rd"
    refine ⟨_, Sum.inr nm, rfl, e2, by unfold dic; rw [List.length_map, List.length_take, List.length_map, sizeLine_eq]; omega, same_put s2 hD, ?_⟩
    rw [upd_same, put_new, List.take_add_one, en]
    · simp [dic]
    · intro q hq e
      obtain ⟨x, hx, rfl⟩ := List.mem_map.mp hq
      have e : x = nm := Sum.inr.inj e
      subst e
      obtain ⟨j, hj⟩ := List.mem_iff_getElem?.mp hx
      have hji : j < i := by
        have := (List.getElem?_eq_some_iff.mp hj).1
        rw [List.length_take] at this
        omega
      rw [List.getElem?_take_of_lt hji] at hj
      exact absurd (nodup_at knd hj en) (by omega)
  obtain ⟨s2, e2⟩ := p
  rw [List.length_map, List.take_length] at e2
  walk_at "rd"
  refine ⟨_, kd, md, rfl, hd.mono (s1.trans s2), ek, em, fun pm H3 hpm s3 MD => ?_⟩
  have npm : pm ≠ D := (ne_of_none e2 hpm).symm
  walk_at "rd"
  have key : ∀ H4, Same H1 H4 → Same H H4 := fun _ s => s1.trans s
  have hka1 := s1 _ _ hka
  have hp1 := s1 _ _ hp
  refine ⟨p, _, 0, _, rfl, rfl, SqT.of (s3 _ _ (s2 _ _ hp1)), rfl, ?_⟩
  refine ⟨ka, rfl, ⟨_, SqT.of (s3 _ _ (s2 _ _ hka1))⟩, ?_⟩
  refine for_it walk_tup (fun i σ H4 => (∃ n u w', σ = [some (.ref p), some (.ref D), n, some (.ref pm), u, w', none, none, none]) ∧ Same H1 H4 ∧ H4 D = some (.dK (dic (kd.map nameOf) (roundsK kd md i fun _ => false))) ∧ MkD H4 pm (kd.map nameOf) md)
    ⟨⟨_, _, _, rfl⟩, s2.trans s3, s3 _ _ e2, MD⟩ (fun i σ H4 _ p => SqT.of (p.2.1 _ _ hka1)) (fun i y σ H4p H4 hi pv hy => ?_) (fun σ H4 pv => ?_)
  · obtain ⟨rfl, _⟩ := hy
    obtain ⟨⟨n, u, w', rfl⟩, s4, e4, MD⟩ := pv
    walk_at "rd"
    refine ⟨p, _, 0, _, rfl, rfl, SqT.of (s4 _ _ hp1), rfl, ?_⟩
    refine ⟨ka, rfl, ⟨_, SqT.of (s4 _ _ hka1)⟩, ?_⟩
    refine for_it walk_tup (fun j σ H5 => (∃ n u w', σ = [some (.ref p), some (.ref D), n, some (.ref pm), u, w', none, none, none]) ∧ Same H1 H5 ∧ H5 D = some (.dK (dic (kd.map nameOf) ((kd.take j).foldl (stepK md) (roundsK kd md i fun _ => false)))) ∧ MkD H5 pm (kd.map nameOf) md)
      ⟨⟨_, _, _, rfl⟩, s4, by rw [List.take_zero]; exact e4, MD⟩ (fun j σ H5 _ p => SqT.of (p.2.1 _ _ hka1)) (fun j y σ H5p H5 hj pv hy => ?_) (fun σ H5 pv => ?_)
    · obtain ⟨rfl, ey⟩ := hy
      obtain ⟨⟨n, u, w', rfl⟩, s5, e5, MD⟩ := pv
      obtain ⟨q, nm, wd, ed, rfl, hq, hw⟩ := kind_at (KA.mono (s1.trans s5)) kb ey
      have nmk : nm ∈ kd.map nameOf := List.mem_map.mpr ⟨_, List.mem_of_getElem? ed, rfl⟩
      have et : (kd.take (j + 1)).foldl (stepK md) (roundsK kd md i fun _ => false) = stepK md ((kd.take j).foldl (stepK md) (roundsK kd md i fun _ => false)) (.tuple [.str nm, .str wd]) := by
        rw [List.take_add_one, ed, List.foldl_append]
        rfl
      rw [et]
      generalize (kd.take j).foldl (stepK md) (roundsK kd md i fun _ => false) = S at e5 ⊢
      refine ⟨q, _, rfl, SqT.of hq, rfl, _, _, rfl, _, _, rfl, rfl, ?_⟩
      walk_at "rd"
      rw [dec_str]
      have fin : ∀ (b : Bool) (H6 : Hp), Same H5 H6 → b = ruleK md S (.tuple [.str nm, .str wd]) → 
          Same H1 (upd H6 D (.dK (putK (dic (kd.map nameOf) S) (Sum.inr nm) (.bl b)))) ∧
          (upd H6 D (.dK (putK (dic (kd.map nameOf) S) (Sum.inr nm) (.bl b)))) D = some (.dK (dic (kd.map nameOf) (stepK md S (.tuple [.str nm, .str wd])))) ∧
          MkD (upd H6 D (.dK (putK (dic (kd.map nameOf) S) (Sum.inr nm) (.bl b)))) pm (kd.map nameOf) md := fun b H6 s6 eb => by
        refine ⟨same_put (s5.trans s6) hD, ?_, MD.but e5 npm fun c o nc e => by rw [upd_ne nc]; exact s6 _ _ e⟩
        rw [upd_same, dic_put nmk, eb]
        rfl
      have dl : (dic (kd.map nameOf) S).length < sizeLine := by unfold dic; rw [List.length_map, List.length_map, sizeLine_eq]; omega
      cases cw : decide (wd = "closed") with
      | false =>
        refine iteF ?_
        walk_at "rd"
        refine ⟨D, _, rfl, DPut.k (k := Sum.inr nm) e5 dl, ?_⟩
        refine ⟨⟨_, _, _, rfl⟩, fin false H5 (Same.refl _) ?_⟩
        show false = (decide (wd = "closed") && _)
        rw [cw]
        rfl
      | true =>
        refine iteT ?_
        walk_at "rd"
        obtain ⟨L, eL, hL⟩ := id MD
        obtain ⟨ys, eys, M⟩ := hL nm nmk
        have lM := M.len
        have mok : ∀ m ∈ ofKind md nm, (needsOf m).length ≤ 3 ∧ ∀ n ∈ needsOf m, n ∈ kd.map nameOf := fun m hm => needs_ok (mb m (List.mem_filter.mp hm).1)
        have l24' : (ofKind md nm).length ≤ 24 := Nat.le_trans (List.length_filter_le ..) l24
        refine ⟨pm, V.ref (L nm), rfl, ?_, ?_⟩
        · have dg := DGet.k (k := Sum.inr nm) eL
          rw [map_get nmk] at dg
          exact dg
        refine ⟨L nm, rfl, ⟨_, SqL.of eys⟩, fun D2 hD2 => ?_⟩
        have n2 : D2 ≠ D := (ne_of_none e5 hD2).symm
        refine loop_it walk_list (fun l H6 => Same H5 H6 ∧ H6 D2 = some (.lst ((((ofKind md nm).take l).flatMap fun m => (needsOf m).map S).map V.bl)))
          ⟨same_new hD2 _, by rw [List.take_zero]; exact upd_same⟩ (fun l H6 _ p => SqL.of (p.1 _ _ eys)) (fun l y H6p H6 hl pv hy => ?_) (fun H6 pv => ?_)
        · obtain ⟨rfl, ey⟩ := hy
          obtain ⟨s6, e6⟩ := pv
          obtain ⟨m, em, t2, nv, na, rfl, ht2, hna⟩ := M.get ey
          have hmm : m ∈ ofKind md nm := List.mem_of_getElem? em
          obtain ⟨nl, nk⟩ := mok m hmm
          refine ⟨t2, _, rfl, SqT.of (s6 _ _ ht2), rfl, _, _, rfl, _, _, rfl, rfl, rfl, ?_⟩
          walk_at "rd"
          refine ⟨⟨_, SqT.of (s6 _ _ hna)⟩, ?_⟩
          have et : ((ofKind md nm).take (l + 1)).flatMap (fun m => (needsOf m).map S) = ((ofKind md nm).take l).flatMap (fun m => (needsOf m).map S) ++ (needsOf m).map S := by
            rw [List.take_add_one, em, List.flatMap_append]
            simp
          have fl : (((ofKind md nm).take l).flatMap fun m => (needsOf m).map S).length ≤ 72 := by
            have h1 := flat_len (ms := (ofKind md nm).take l) (f := fun m => (needsOf m).map S) fun m hm => by rw [List.length_map]; exact (mok m (List.mem_of_mem_take hm)).1
            have h2 := List.length_take_le l (ofKind md nm)
            omega
          refine loop_it walk_tup (fun r H7 => Same H5 H7 ∧ H7 D2 = some (.lst ((((ofKind md nm).take l).flatMap (fun m => (needsOf m).map S) ++ ((needsOf m).take r).map S).map V.bl)))
            ⟨s6, by rw [List.take_zero, List.map_nil, List.append_nil]; exact e6⟩ (fun r H7 _ p => SqT.of (p.1 _ _ hna)) (fun r y H7p H7 hr pv hy => ?_) (fun H7 pv => ?_)
          · obtain ⟨rfl, ey⟩ := hy
            obtain ⟨s7, e7⟩ := pv
            rw [List.getElem?_map] at ey
            obtain ⟨nd, en, rfl⟩ := Option.map_eq_some_iff.mp ey
            refine ⟨rfl, ?_⟩
            walk_at "rd"
            refine ⟨D, V.bl (S nd), rfl, ?_, ?_⟩
            · have dg := DGet.k (k := Sum.inr nd) (s7 _ _ e5)
              rw [dic_get (nk nd (List.mem_of_getElem? en))] at dg
              exact dg
            · refine ⟨_, e7, ?_, same_put s7 hD2, ?_⟩
              · rw [sizeLine_eq, List.length_map, List.length_append, List.length_map, List.length_take]
                omega
              · rw [upd_same, List.take_add_one, en]
                simp
          · obtain ⟨s7, e7⟩ := pv
            rw [List.length_map, List.take_length] at e7
            exact ⟨s7, by rw [et]; exact e7⟩
        · obtain ⟨s6, e6⟩ := pv
          rw [lM, List.take_length] at e6
          walk_at "rd"
          refine ⟨D2, _, rfl, SqL.of e6, ?_⟩
          walk_at "rd"
          rw [flat_all]
          refine ⟨D, _, rfl, DPut.k (k := Sum.inr nm) (s6 _ _ e5) dl, ?_⟩
          refine ⟨⟨_, _, _, rfl⟩, fin _ H6 s6 ?_⟩
          show _ = (decide (wd = "closed") && _)
          rw [cw]
          rfl
    · obtain ⟨⟨n, u, w', rfl⟩, s5, e5, MD⟩ := pv
      rw [lk, List.take_length] at e5
      exact ⟨⟨_, _, _, rfl⟩, s5, e5, MD⟩
  · obtain ⟨⟨n, u, w', rfl⟩, s4, e4, MD⟩ := pv
    rw [lk] at e4
    walk_at "rd"
    exact k D H4 (s1.free hD) (s1.trans s4) e4

end

section
variable {P : Program} {w : World} {K : PySem.W.Frag} {mg : Str → Option Value} {base : Heap}

/-- is_small(signature, kind), of a signature and a kind of it -/
def spIsSmall : Sp := fun vs H Q _ => ∃ (v : V) (kd md : List PyData) (x : Str), vs = [v, .str x] ∧ Dd H v (.tuple [.tuple kd, .tuple md]) ∧ okT (.tuple [.tuple kd, .tuple md]) = true ∧ sigB (.tuple [.tuple kd, .tuple md]) = true ∧ x ∈ kd.map nameOf ∧
  ∀ H', Same H H' → Q (.bl (smallB kd md x)) H'

theorem sc_is_small : FnScope ["signature", "kind"] ["signature", "kind"] (defScope s_is_small) := ⟨rfl, rfl, rfl, by decide +kernel, rfl, by decide +kernel, by decide +kernel⟩
theorem okF_is_small {f : Addr} {fd : FuncData} (F : Fun K "is_small" "is_small" s_is_small f fd)  (G1 : Gd P w K mg base CX0 5 "check_signature" ["signature"] spCheckSig) (G2 : Gd P w K mg base CX0 2 "check_kind" ["signature", "kind"] spCheckKind) (G3 : Gd P w K mg base CX0 3 "small_kinds" ["signature"] spSmalls) : Fn P w K mg base CX0 6 f fd ["signature", "kind"] spIsSmall := by
  refine fun_q F sc_is_small (fun vs H Q E h => by obtain ⟨v, kd, m, x, rfl, _⟩ := h; rfl) (fun cdv A outer s H vs Q E hr hq h => ?_)
  obtain ⟨v, kd, md, x, rfl, hd, ok, sg, hx, k⟩ := h
  obtain ⟨kd', md', e, ek, em, _⟩ := sigB_of sg
  cases e
  refine ⟨_, (pss_cons (ps_expr (pe_g G1 hr hq (pa_cons (pv 0) pa_nil)))
      (pss_cons (ps_expr (pe_g (G2.mono (by decide)) hr hq (pa_cons (pv 0) (pa_cons (pv 1) pa_nil))))
      (pss_one (ps_ret (pe_dget (hu_of hr) (pe_g (G3.mono (by decide)) hr hq (pa_cons (pv 0) pa_nil)) (pv 1) (fun _ _ => rfl)))))), ?_⟩
  walk_at "rd"
  refine ⟨v, _, rfl, hd, ok, sg, fun H1 s1 => ?_⟩
  walk_at "rd"
  refine ⟨v, kd, _, x, rfl, hd.mono s1, ek, hx, fun H2 s2 => ?_⟩
  have s12 := s1.trans s2
  walk_at "rd"
  refine ⟨v, kd, md, rfl, hd.mono s12, ek, em, fun p H3 hp s3 e3 => ?_⟩
  walk_at "rd"
  have dg := DGet.k (k := Sum.inr x) e3
  rw [dic_get hx] at dg
  exact ⟨p, _, rfl, dg, k H3 (s12.trans s3)⟩
theorem ok_is_small (D : Df K mg "is_small" s_is_small) (G1 : Gd P w K mg base CX0 5 "check_signature" ["signature"] spCheckSig) (G2 : Gd P w K mg base CX0 2 "check_kind" ["signature", "kind"] spCheckKind) (G3 : Gd P w K mg base CX0 3 "small_kinds" ["signature"] spSmalls) : Gd P w K mg base CX0 6 "is_small" ["signature", "kind"] spIsSmall := gd_of D (fun _ _ _ _ _ _ us hl => match us, hl with | [_, _], _ => rfl) fun _ _ F => okF_is_small F G1 G2 G3

end

section
variable {P : Program} {w : World} {K : PySem.W.Frag} {mg : Str → Option Value} {base : Heap}

theorem sc_lis_name : FnScope ["thing", "sign"] ["thing"] (defScope s_lis_name) := ⟨rfl, rfl, rfl, by decide +kernel, rfl, by decide +kernel, by decide +kernel⟩
theorem ok_lis_name (D : Df K mg "_law_is_name" s_lis_name) (B : Bi mg) : Gd P w K mg base CX0 1 "_law_is_name" ["thing"] spName := by
  refine gd_of D (fun _ _ _ _ _ _ us hl => match us, hl with | [_], _ => rfl) fun f fd F => ?_
  refine fun_q F sc_lis_name (fun vs H Q E h => by obtain ⟨v, d, rfl, _⟩ := h; rfl) (fun cdv A outer s H vs Q E hr hq h => ?_)
  obtain ⟨v, d, rfl, hd, ok, k⟩ := h
  refine ⟨_, (pss_cons (ps_if (PW.pt (pw_or (pt_not (pt_val (pe_callB call_isi (by rfl) B.isinstance (by decide +kernel) (pa_cons (pv 0) (pa_cons (pe_bltn (v := V.ty "str") (by rfl) B.str (by decide +kernel) rfl) pa_nil))))) (pw_or (pt_not (pt_chain op_le op_le pe_int (pe_callB call_len_str (by rfl) B.len (by decide +kernel) (pa_cons (pv 0) pa_nil)) pe_int)) (pw_or1 (pt_cmpR op_notIn_sign (pe_ix ix_str (pv 0) pe_int (fun _ _ => rfl)) pe_str (by rfl)))))) (pss_one (ps_ret pe_bl)) pss_nil)
      (pss_one (ps_ret (pe_callB (cr_all rfl) (by rfl) B.all (by decide +kernel) (pa_cons (pe_lc (own := [("sign", 1)]) (g := (gName 1)) (tt := tYes) rfl sc_lis_name.nd (pi_str (pv 0)) (blkOk_by (own := [("sign", 1)]) (N := ["thing", "sign"]) (sc := defScope s_lis_name) (by decide +kernel)) (fun _ _ _ _ _ => (pg_name (i := 1) sc_lis_name.nd rfl (Or.inl rfl))) (fun _ _ _ _ _ => pts_nil) (fun _ _ _ _ _ => (pe_cmpR op_in_sign (pv 1) pe_str (by rfl)))) pa_nil))))), ?_⟩
  walk_at "rd"
  refine ⟨_, V.ty _, _, _, _, rfl, ClsV.ty _, Dd.ty hd, kit_ty (kit_str d), ?_⟩
  refine ⟨_, rfl, ?_⟩
  cases d with
  | str x =>
    obtain rfl := hd.strD
    have q : Q (.bl (nameS x)) H := k H (Same.refl H)
    have ok : x.length ≤ 100000 := of_decide_eq_true ok
    have lz : x.length ≤ sizeLine := by rw [sizeLine_eq]; omega
    refine iteF ?_
    walk_at "rd"
    refine ite2 (fun c1 => ?_) (fun c1 => ?_)
    · walk_at "rd"
      refine ite2 (fun c2 => ?_) (fun c2 => ?_)
      · walk_at "rd"
        have e2 : nameS x = false := by
          unfold nameS
          have : ¬ ((x.length : Int) ≤ 12) := fun z => by simp [z] at c2
          have : decide (x.length ≤ 12) = false := decide_eq_false (by omega)
          rw [this]; simp
        rw [e2] at q
        exact iteT q
      · walk_at "rd"
        have c1' : 1 ≤ x.length := by have := of_decide_eq_true c1; omega
        have c2' : x.length ≤ 12 := by
          have : ((x.length : Int) ≤ 12) := Classical.byContradiction fun z => c2 (by simp [z])
          omega
        obtain ⟨c, r, ec⟩ : ∃ c r, x.cps.toList = c :: r := by
          cases e : x.cps.toList with
          | nil => exact absurd (show x.cps.toList.length = 0 by rw [e]; rfl) (by rw [Array.length_toList]; exact Nat.ne_of_gt c1')
          | cons c r => exact ⟨c, r, rfl⟩
        refine ⟨_, _, c, rfl, rfl, lz, by rw [ec]; exact atI_nat (j := 0) (xs := c :: r) rfl, ?_⟩
        refine ⟨_, _, rfl, rfl, ?_⟩
        have eq : nameS x = (decide (c ∈ letters.cps.toList) && x.cps.toList.all (fun c => decide (c ∈ signs.cps.toList))) := by
          unfold nameS
          rw [decide_eq_true c1', decide_eq_true c2', ec]
          rfl
        rw [eq] at q
        refine ⟨_, rfl, ?_⟩
        refine ite2 (fun c3 => ?_) (fun c3 => ?_)
        · have c3' : decide (c ∈ letters.cps.toList) = false := by
            cases e : decide (c ∈ letters.cps.toList) with
            | false => rfl
            | true =>
              have c3 : (!decide (c ∈ letters.cps.toList)) = true := c3
              rw [e] at c3
              cases c3
          rw [c3'] at q
          exact q
        · have c3' : decide (c ∈ letters.cps.toList) = true := by
            cases e : decide (c ∈ letters.cps.toList) with
            | true => rfl
            | false =>
              have c3 : ¬ (!decide (c ∈ letters.cps.toList)) = true := c3
              rw [e] at c3
              exact absurd rfl c3
          walk_at "rd"
          refine fun D hD => ?_
          refine lc_vals walk_str (fun i => x.cps.toList[i]?.map fun c => V.bl (decide (c ∈ signs.cps.toList))) hD lz (fun _ _ => trivial) (fun i y H1 H2 K1 K0 hi s1 hy k1 k0 => ?_) (fun H1 s1 e1 => ?_)
          · obtain ⟨rfl, d, ed, rfl⟩ := hy
            refine ⟨rfl, ?_⟩
            walk_at "rd"
            exact k1 _ _ (by rw [Array.getElem?_toList, ed]; rfl) (Same.refl _)
          · have e2 : (List.range x.cps.size).filterMap (fun i => x.cps.toList[i]?.map fun c => V.bl (decide (c ∈ signs.cps.toList))) = (x.cps.toList.map fun c => decide (c ∈ signs.cps.toList)).map V.bl := by
              rw [← Array.length_toList, range_map', List.map_map]
              rfl
            rw [e2] at e1
            walk_at "rd"
            refine ⟨D, _, rfl, SqL.of e1, ?_⟩
            have e3 : ((x.cps.toList.map fun c => decide (c ∈ signs.cps.toList)).all id) = x.cps.toList.all (fun c => decide (c ∈ signs.cps.toList)) := by rw [List.all_map]; rfl
            have q : Q (.bl (nameS x)) H1 := k H1 s1
            rw [eq, c3'] at q
            rw [e3]
            exact q
    · walk_at "rd"
      have e2 : nameS x = false := by
        unfold nameS
        have : ¬ ((1 : Int) ≤ x.length) := fun z => c1 (decide_eq_true z)
        have : decide (1 ≤ x.length) = false := decide_eq_false (by omega)
        rw [this]; simp
      rw [e2] at q
      refine iteT ?_
      walk_at "rd"
      exact iteT q
  | _ => exact iteT (k H (Same.refl H))

theorem sc_is_pair : FnScope ["thing", "few"] ["thing", "few"] (defScope s_is_pair) := ⟨rfl, rfl, rfl, by decide +kernel, rfl, by decide +kernel, by decide +kernel⟩
def spPair : Sp := fun vs H Q _ => ∃ (v : V) (d : PyData) (a : Int), vs = [v, .int a] ∧ Dd H v d ∧ ∀ H', Same H H' → Q (.bl (isTupB d a a)) H'

theorem ok_is_pair (D : Df K mg "_law_is_pair" s_is_pair) (B : Bi mg) : Gd P w K mg base CX0 1 "_law_is_pair" ["thing", "few"] spPair := by
  refine gd_of D (fun _ _ _ _ _ _ us hl => match us, hl with | [_, _], _ => rfl) fun f fd F => ?_
  refine fun_q F sc_is_pair (fun vs H Q E h => by obtain ⟨v, d, a, rfl, _⟩ := h; rfl) (fun cdv A outer s H vs Q E hr hq h => ?_)
  obtain ⟨v, d, a, rfl, hd, k⟩ := h
  refine ⟨_, (pss_one (ps_ret (pe_and (pe_callB call_isi (by rfl) B.isinstance (by decide +kernel) (pa_cons (pv 0) (pa_cons (pe_bltn (v := V.ty "tuple") (by rfl) B.tuple (by decide +kernel) rfl) pa_nil))) (pe_one (pe_cmpR op_eq (pe_callB call_len_seq (by rfl) B.len (by decide +kernel) (pa_cons (pv 0) pa_nil)) (pv 1) (nomark _)))))), ?_⟩
  walk_at "rd"
  refine ⟨_, V.ty _, _, _, _, rfl, ClsV.ty _, Dd.ty hd, kit_ty (kit_tup d), ?_⟩
  refine ⟨_, rfl, ?_⟩
  cases d with
  | tuple ds =>
    obtain ⟨t, xs, rfl, e, A⟩ := hd.tupD
    have el : xs.length = ds.length := A.length
    refine iteT ?_
    walk_at "rd"
    refine ⟨t, xs, rfl, .inr (SqT.of e), ?_⟩
    walk_at "rd"
    have q : Q (.bl (decide (a ≤ ds.length) && decide ((ds.length : Int) ≤ a))) H := k H (Same.refl H)
    rw [el]
    have e1 : decide (V.int (ds.length : Nat) = V.int a) = (decide (a ≤ ds.length) && decide ((ds.length : Int) ≤ a)) := by
      rw [Bool.eq_iff_iff, Bool.and_eq_true, decide_eq_true_iff, decide_eq_true_iff, decide_eq_true_iff]
      exact ⟨fun z => by injection z with z; omega, fun z => by rw [show (ds.length : Int) = a by omega]⟩
    rw [e1]
    exact q
  | _ => exact iteF (k H (Same.refl H))

end

section
variable {P : Program} {w : World} {K : PySem.W.Frag} {mg : Str → Option Value} {base : Heap}

/-- a whole number -/
def wholeB (d : PyData) : Bool := isInt d && !isBool d
def spWhole : Sp := fun vs H Q _ => ∃ (v : V) (d : PyData), vs = [v] ∧ Dd H v d ∧ ∀ H', Same H H' → Q (.bl (wholeB d)) H'
theorem sc_is_whole : FnScope ["thing"] ["thing"] (defScope s_is_whole) := ⟨rfl, rfl, rfl, by decide +kernel, rfl, by decide +kernel, by decide +kernel⟩
theorem ok_is_whole (D : Df K mg "_law_is_whole" s_is_whole) (B : Bi mg) : Gd P w K mg base CX0 1 "_law_is_whole" ["thing"] spWhole := by
  refine gd_of D (fun _ _ _ _ _ _ us hl => match us, hl with | [_], _ => rfl) fun f fd F => ?_
  refine fun_q F sc_is_whole (fun vs H Q E h => by obtain ⟨v, d, rfl, _⟩ := h; rfl) (fun cdv A outer s H vs Q E hr hq h => ?_)
  obtain ⟨v, d, rfl, hd, k⟩ := h
  refine ⟨_, (pss_one (ps_ret (pe_and (pe_callB call_isi (by rfl) B.isinstance (by decide +kernel) (pa_cons (pv 0) (pa_cons (pe_bltn (v := V.ty "int") (by rfl) B.int (by decide +kernel) rfl) pa_nil))) (pe_one (pe_not (pe_callB call_isi (by rfl) B.isinstance (by decide +kernel) (pa_cons (pv 0) (pa_cons (pe_bltn (v := V.ty "bool") (by rfl) B.bool (by decide +kernel) rfl) pa_nil)))))))), ?_⟩
  walk_at "rd"
  refine ⟨_, V.ty _, _, _, _, rfl, ClsV.ty _, Dd.ty hd, kit_ty (kit_int d), ?_⟩
  refine ⟨_, rfl, ?_⟩
  have q : Q (.bl (isInt d && !isBool d)) H := k H (Same.refl H)
  cases e : isInt d with
  | false =>
    rw [e] at q
    exact iteF q
  | true =>
    rw [e] at q
    refine iteT ?_
    walk_at "rd"
    refine ⟨_, V.ty _, _, _, _, rfl, ClsV.ty _, Dd.ty hd, kit_ty (kit_bool d), ?_⟩
    exact ⟨_, rfl, q⟩

theorem But.at {p q : Addr} {H H1 : Hp} {o : HO} (a : But p H H1) (n : H q = none) : But p H (upd H1 q o) := fun c u nc e => by
  rw [upd_ne (ne_of_none e n)]
  exact a c u nc e
/-- _law_mixed(well, some): the same in another order -/
def spMixed : Sp := fun vs H Q _ => ∃ (p t : Addr) (xs : List V) (ds : List PyData), vs = [.ref p, .ref t] ∧ Well H p ∧ H t = some (.tup xs) ∧ t ≠ p ∧ DdA (L2.del H p) xs ds ∧ (∀ d ∈ ds, shB 20 d = true) ∧ ds.length ≤ 1000 ∧
  ∀ (l : Addr) (ys : List V) (es : List PyData) (H' : Hp), Well H' p → But p H H' → l ≠ p → H l = none → H' l = some (.lst ys) → DdA (L2.del H' p) ys es → es.Perm ds → Q (.ref l) H'
theorem perm_erase {α : Type} {d : α} : ∀ {l : List α} {i : Nat}, l[i]? = some d → ([d] ++ l.eraseIdx i).Perm l
  | [], _, e => by simp at e
  | x :: l, 0, e => by
    simp only [List.getElem?_cons_zero, Option.some.injEq] at e
    subst e
    exact List.Perm.refl _
  | x :: l, i + 1, e => by
    have h := perm_erase (l := l) (i := i) (by simpa using e)
    exact (List.Perm.swap x d _).trans (h.cons x)
theorem perm_turn {fds lds ds : List PyData} {i : Nat} {d : PyData} (h : (fds ++ lds).Perm ds) (e : lds[i]? = some d) : ((fds ++ [d]) ++ lds.eraseIdx i).Perm ds := by
  refine List.Perm.trans ?_ h
  rw [List.append_assoc]
  exact (perm_erase e).append_left fds
theorem seqIx_nat {n k : Nat} (h : k < n) : seqIndex? ((k : Nat) : Int) n = some k := by
  have := ixN_seq (n := n) (i := ((k : Nat) : Int)) (j := k) (by unfold ixN; rw [if_pos (by omega), if_pos (by omega)]; simp)
  exact this.1
theorem sc_mixed : FnScope ["well", "some", "left", "found"] ["well", "some"] (defScope s_mixed) := ⟨rfl, rfl, rfl, by decide +kernel, rfl, by decide +kernel, by decide +kernel⟩
theorem ok_mixed (D : Df K mg "_law_mixed" s_mixed) (B : Bi mg) (G1 : Gd P w K mg base CX0 1 "_law_draw" ["well", "few"] spDraw) : Gd P w K mg base CX0 2 "_law_mixed" ["well", "some"] spMixed := by
  refine gd_of D (fun _ _ _ _ _ _ us hl => match us, hl with | [_, _], _ => rfl) fun f fd F => ?_
  refine fun_q F sc_mixed (fun vs H Q E h => by obtain ⟨p, t, xs, ds, rfl, _⟩ := h; rfl) (fun cdv A outer s H vs Q E hr hq h => ?_)
  obtain ⟨p, t, xs, ds, rfl, W, ht, ntp, A, sh, lz, k⟩ := h
  have la := A.length
  refine ⟨_, (pss_cons (ps_par (i := 2) (j := 3) (by rfl) sc_mixed.nd rfl rfl (by decide) rfl rfl (pa_cons (pe_callTy call_list_of (by rfl) B.list (by decide +kernel) (pa_cons (pv 1) pa_nil)) (pa_cons (pe_lst pa_nil) pa_nil)) (by rfl))
      (pss_cons (ps_while PassesOwn.never (pt_cmpR (op_neD hr.units) (pv 2) (pe_lst pa_nil) (nomark _)) (pss_one (ps_expr (pe_bm PySem.F.plainAttrs_list PySem.F.slot_list_append PySem.F.type_list_append mt_append (pv 3) (pa_cons (pe_bm PySem.F.plainAttrs_list PySem.F.slot_list_pop PySem.F.type_list_pop mt_popAt (pv 2) (pa_cons (pe_g G1 hr hq (pa_cons (pv 0) (pa_cons (pe_callB call_len_seq (by rfl) B.len (by decide +kernel) (pa_cons (pv 2) pa_nil)) pa_nil))) pa_nil)) pa_nil)))))
      (pss_one (ps_ret (pv 3))))), ?_⟩
  walk_at "rd"
  refine ⟨t, xs, rfl, .inr (SqT.of ht), fun a ha => ?_⟩
  refine ⟨by show 0 ≤ sizeLine; exact Nat.zero_le _, fun b hb => ?_⟩
  have nba : b ≠ a := fun z => by rw [z, upd_same] at hb; cases hb
  have hb0 : H b = none := by rw [upd_ne nba] at hb; exact hb
  have npa : a ≠ p := fun z => W.some (z ▸ ha)
  have npb : b ≠ p := fun z => W.some (z ▸ hb0)
  refine ⟨_, _, rfl, ?_⟩
  refine ⟨fun m σ H1 => ∃ ls fs lds fds, σ = [some (.ref p), some (.ref t), some (.ref a), some (.ref b)] ∧ m = ls.length ∧ Well H1 p ∧ But p H H1 ∧ H1 a = some (.lst ls) ∧ H1 b = some (.lst fs) ∧ DdA (L2.del H p) ls lds ∧ DdA (L2.del H p) fs fds ∧ (fds ++ lds).Perm ds,
    ⟨_, xs, [], ds, [], rfl, rfl, (W.new ha).new hb, (But.refl.at ha).at hb0, by rw [upd_ne nba.symm, upd_same], upd_same, A, .nil, List.Perm.refl _⟩, ?_⟩
  rintro m σ H1 ⟨ls, fs, lds, fds, rfl, rfl, W1, bt, ea, eb, LA, FA, pm⟩
  have ll := LA.length
  have lf := FA.length
  have lp := pm.length_eq
  rw [List.length_append] at lp
  walk_at "rd"
  refine fun c hc => ?_
  have ea2 : upd H1 c (.lst []) a = some (.lst ls) := by rw [upd_ne (ne_of_none ea hc)]; exact ea
  have mem : ∀ d ∈ lds, shB 20 d = true := fun d hd => sh d (pm.mem_iff.mp (List.mem_append_right _ hd))
  refine ⟨.list lds, .list [], .lst (SqL.of ea2) (DdA.dp mem ((LA.but (bt.new hc)).all)), .lst (SqL.of upd_same) .nil, list_shaped mem (by decide), rfl, ?_⟩
  refine ⟨_, rfl, ?_⟩
  cases lds with
  | nil =>
    cases LA
    refine iteF ?_
    walk_at "rd"
    refine k b fs fds _ (W1.new hc) (bt.new hc) npb hb0 (by rw [upd_ne (ne_of_none eb hc)]; exact eb) (FA.but (bt.new hc)) ?_
    rw [List.append_nil] at pm
    exact pm
  | cons d0 lds =>
  have pos : 0 < ls.length := by rw [ll]; exact Nat.succ_pos _
  refine iteT ⟨fun σ' H' => ∃ m', m' < ls.length ∧ ∃ ls fs lds fds, σ' = [some (.ref p), some (.ref t), some (.ref a), some (.ref b)] ∧ m' = ls.length ∧ Well H' p ∧ But p H H' ∧ H' a = some (.lst ls) ∧ H' b = some (.lst fs) ∧ DdA (L2.del H p) ls lds ∧ DdA (L2.del H p) fs fds ∧ (fds ++ lds).Perm ds, fun _ _ z => z, ?_⟩
  have eb2 : upd H1 c (.lst []) b = some (.lst fs) := by rw [upd_ne (ne_of_none eb hc)]; exact eb
  have W2 := W1.new (o := .lst []) hc
  have bt2 := bt.new (o := .lst []) hc
  refine ⟨_, rfl, .inl ⟨rfl, _, SqL.of eb2⟩, ?_⟩
  refine ⟨_, rfl, .inl ⟨rfl, _, SqL.of ea2⟩, ?_⟩
  refine ⟨_, rfl, _, rfl, _, _, rfl, .inl (SqL.of ea2), p, _, rfl, W2, by omega, by omega, fun n H3 n0 n1 W3 b3 => ?_⟩
  have hn : n.toNat < ls.length := by omega
  have en : n = ((n.toNat : Nat) : Int) := by omega
  have ea3 := b3 _ _ npa ea2
  have eb3 := b3 _ _ npb eb2
  have bt3 := bt2.trans b3
  obtain ⟨d, ed, hd⟩ := LA.get (List.getElem?_eq_getElem hn)
  refine ⟨a, ls, n, n.toNat, _, rfl, rfl, ea3, by omega, by omega, by rw [en]; exact seqIx_nat hn, List.getElem?_eq_getElem hn, ?_⟩
  refine ⟨b, fs, _, rfl, rfl, by rw [upd_ne nba]; exact eb3, by rw [sizeLine_eq]; omega, ?_⟩
  refine ⟨_, ?_, ls.eraseIdx n.toNat, fs ++ [ls[n.toNat]], _, fds ++ [d], rfl, rfl, ?_, (bt3.at ha).at hb0, ?_, upd_same, LA.erase n.toNat, FA.append (.cons hd .nil), perm_turn pm ed⟩
  · rw [List.length_eraseIdx_of_lt hn]
    omega
  · obtain ⟨x, y, z, N, e⟩ := W3
    exact ⟨x, y, z, N, by rw [upd_ne npb.symm, upd_ne npa.symm]; exact e⟩
  · rw [upd_ne nba.symm, upd_same]

end

/-- what _law_odd_thing picks from -/
def oddL : List PyData := [.none, (.bool true), (.bool false), (.str "z"), (.str ""), (.str "?"), (.str "#"), (.int (-1)), (.int 0), (.int 1), (.int 7), (.int (1000000000000000000000000000000)), (.tuple []), (.list []), (.dict []), (.tuple [(.str "z")]), (.list [(.str "z")]), (.tuple [(.str "?"), (.str "x")]), (.tuple [(.str "?")]), (.tuple [(.str "#"), (.str "type"), (.int 1)]), (.tuple [(.str "#"), (.str "count"), (.int 1)]), (.tuple [(.tuple [(.str "z")])]), (.tuple [(.tuple [(.str "?"), (.str "x")])]), (.tuple [(.str "s"), (.tuple [(.str "z")])]), (.tuple [(.str "a"), (.str "closed")]), (.tuple [(.str "?"), (.str "x"), (.str "y")])]

section
variable {X : Cx} {H0 : Hp} {pos pos2 pos3 : Pos}
theorem da_neg {i : Int} {j : Nat} : PE X (.UnaryOp .USub (.Constant (.int i) j pos) pos2) (tD H0 pT (.int (-i))) := da_of (pe_un un_neg pe_int) fun σ H Q q => ⟨i, rfl, q _ fun _ => .int _⟩
theorem da_pow {i k : Int} {j j2 : Nat} (h : CPow i k := by exact ⟨by decide, by decide, by decide⟩) : PE X (.BinOp (.Constant (.int i) j pos) .Pow (.Constant (.int k) j2 pos2) pos3) (tD H0 pT (.int (i ^ k.toNat))) := da_of (pe_op op_pow pe_int pe_int) fun σ H Q q => ⟨i, k, rfl, rfl, h, q _ fun _ => .int _⟩
end
/-- _law_odd_thing(well): one of them -/
def spOdd : Sp := fun vs H Q _ => ∃ p : Addr, vs = [.ref p] ∧ Well H p ∧ ∀ (v : V) (d : PyData) (H' : Hp), d ∈ oddL → Well H' p → But p H H' → Dd (news H H') v d → Q v H'
section
variable {P : Program} {w : World} {K : PySem.W.Frag} {mg : Str → Option Value} {base : Heap}
theorem sc_odd : FnScope ["well", "some", "more"] ["well"] (defScope s_odd_thing) := ⟨rfl, rfl, rfl, by decide +kernel, rfl, by decide +kernel, by decide +kernel⟩
theorem ok_odd (D : Df K mg "_law_odd_thing" s_odd_thing) (B : Bi mg) (G : Gd P w K mg base CX0 2 "_law_one" ["well", "some"] (spOne K)) : Gd P w K mg base CX0 3 "_law_odd_thing" ["well"] spOdd := by
  refine gd_of D (fun _ _ _ _ _ _ us hl => match us, hl with | [_], _ => rfl) fun f fd F => ?_
  refine fun_q F sc_odd (fun vs H Q E h => ?_) (fun cdv A outer s H vs Q E hr hq h => ?_)
  · obtain ⟨p, rfl, _⟩ := h
    rfl
  obtain ⟨p, rfl, W, k⟩ := h
  refine ⟨_, pss_cons (ps_set (i := 1) sc_odd.nd rfl (Or.inl rfl) (da_tup (H0 := H) (da_cons (by walk_at "st") da_none (da_cons (by walk_at "st") da_bool (da_cons (by walk_at "st") da_bool (da_cons (by walk_at "st") da_str (da_cons (by walk_at "st") da_str (da_cons (by walk_at "st") da_str (da_cons (by walk_at "st") da_str (da_cons (by walk_at "st") da_neg (da_cons (by walk_at "st") da_int (da_cons (by walk_at "st") da_int (da_cons (by walk_at "st") da_int (da_cons (by walk_at "st") da_pow (da_cons (by walk_at "st") (da_tup da_nil) (da_cons (by walk_at "st") (da_lst da_nil) (da_cons (by walk_at "st") da_dict (da_cons (by walk_at "st") (da_tup (da_cons (by walk_at "st") da_str da_nil)) (da_cons (by walk_at "st") (da_lst (da_cons (by walk_at "st") da_str da_nil)) (da_cons (by walk_at "st") (da_tup (da_cons (by walk_at "st") da_str (da_cons (by walk_at "st") da_str da_nil))) (da_cons (by walk_at "st") (da_tup (da_cons (by walk_at "st") da_str da_nil)) da_nil)))))))))))))))))))))
    (pss_cons (ps_set (i := 2) sc_odd.nd rfl (Or.inl rfl) (da_tup (H0 := H) (da_cons (by walk_at "st") (da_tup (da_cons (by walk_at "st") da_str (da_cons (by walk_at "st") da_str (da_cons (by walk_at "st") da_int da_nil)))) (da_cons (by walk_at "st") (da_tup (da_cons (by walk_at "st") da_str (da_cons (by walk_at "st") da_str (da_cons (by walk_at "st") da_int da_nil)))) (da_cons (by walk_at "st") (da_tup (da_cons (by walk_at "st") (da_tup (da_cons (by walk_at "st") da_str da_nil)) da_nil)) (da_cons (by walk_at "st") (da_tup (da_cons (by walk_at "st") (da_tup (da_cons (by walk_at "st") da_str (da_cons (by walk_at "st") da_str da_nil))) da_nil)) (da_cons (by walk_at "st") (da_tup (da_cons (by walk_at "st") da_str (da_cons (by walk_at "st") (da_tup (da_cons (by walk_at "st") da_str da_nil)) da_nil))) (da_cons (by walk_at "st") (da_tup (da_cons (by walk_at "st") da_str (da_cons (by walk_at "st") da_str da_nil))) (da_cons (by walk_at "st") (da_tup (da_cons (by walk_at "st") da_str (da_cons (by walk_at "st") da_str (da_cons (by walk_at "st") da_str da_nil)))) da_nil)))))))))
    (pss_one (ps_ret (pe_g G hr hq (pa_cons (pv 0) (pa_cons (pe_op op_catT (pv 1) (pv 2)) pa_nil)))))), ?_⟩
  refine ⟨Bs.refl, by walk_at "pre", fun v1 H1 s1 d1 => ?_⟩
  refine ⟨Bs.refl.same s1, by walk_at "pre", fun v2 H2 s2 d2 => ?_⟩
  cases d1 with
  | tup t1 a1 =>
  cases d2 with
  | tup t2 a2 =>
  rename_i x1 y1 x2 y2
  have e1 := s2 _ _ (news_old _ _ t1)
  have e2 := news_old _ _ t2
  walk_at "rd"
  have l1 : y1.length = 19 := a1.length
  have l2 : y2.length = 7 := a2.length
  refine ⟨x1, x2, y1, y2, rfl, rfl, SqT.of e1, SqT.of e2, ?_, ?_, fun z => ?_, fun _ t ht => ?_⟩
  · intro z
    rw [z] at l1
    cases l1
  · rw [l1, l2, sizeLine_eq]
    decide
  · rw [z] at l2
    cases l2
  have W2 : Well H2 p := by
    obtain ⟨a, mm, c, N, e⟩ := W
    exact ⟨a, mm, c, N, s2 _ _ (s1 _ _ e)⟩
  refine ⟨p, t, y1 ++ y2, rfl, W2.new ht, SqT.of upd_same, W2.ne ht, ?_, ?_, fun i v H' hi W' bt => ?_⟩
  · rw [List.length_append, l1, l2]
    decide
  · rw [List.length_append, l1, l2]
    decide
  have np : H p ≠ none := by
    obtain ⟨a, mm, c, N, e⟩ := W
    rw [e]
    exact fun z => nomatch z
  have s3 : Same (news H H2) (news H H') := fun b o q => by
    obtain ⟨q1, q2⟩ := news_some.mp q
    exact news_some.mpr ⟨q1, bt b o (fun z => np (z ▸ q1)) (same_new ht _ b o q2)⟩
  obtain ⟨d, hd, dd⟩ := ((a1.mono (news_same s2)).append a2).get hi
  refine k v d H' ?_ W' (fun b o n q => bt b o n (same_new ht _ b o (s2 _ _ (s1 _ _ q)))) (dd.mono s3)
  exact List.mem_of_getElem? (show oddL[i]? = some d from hd)
end

theorem sub_len : ∀ {F ks : List Str}, F.Nodup → (∀ x ∈ F, x ∈ ks) → F.length ≤ ks.length
  | [], _, _, _ => Nat.zero_le _
  | x :: F, ks, nd, h => by
    obtain ⟨n1, n2⟩ := List.nodup_cons.mp nd
    have hx := h x (List.mem_cons_self ..)
    have ih := sub_len (F := F) (ks := ks.erase x) n2 fun y hy => (List.mem_erase_of_ne (show y ≠ x from fun z => n1 (by rw [← z]; exact hy))).mpr (h y (List.mem_cons_of_mem _ hy))
    rw [List.length_erase_of_mem hx] at ih
    have : 0 < ks.length := List.length_pos_of_mem hx
    rw [List.length_cons]
    omega
theorem sub_all : ∀ {F ks : List Str}, F.Nodup → (∀ x ∈ F, x ∈ ks) → ks.length ≤ F.length → ∀ x ∈ ks, x ∈ F
  | [], ks, _, _, l, x, hx => by
    have : ks = [] := List.length_eq_zero_iff.mp (Nat.le_zero.mp l)
    rw [this] at hx
    cases hx
  | y :: F, ks, nd, h, l, x, hx => by
    obtain ⟨n1, n2⟩ := List.nodup_cons.mp nd
    have hy := h y (List.mem_cons_self ..)
    by_cases e : x = y
    · exact e ▸ List.mem_cons_self ..
    · refine List.mem_cons_of_mem _ (sub_all (ks := ks.erase y) n2 (fun z hz => (List.mem_erase_of_ne (show z ≠ y from fun q => n1 (by rw [← q]; exact hz))).mpr (h z (List.mem_cons_of_mem _ hz))) ?_ x ((List.mem_erase_of_ne e).mpr hx))
      rw [List.length_erase_of_mem hy]
      rw [List.length_cons] at l
      omega
section
variable {P : Program} {w : World} {K : PySem.W.Frag} {mg : Str → Option Value} {base : Heap}

/-- the names of the open kinds -/
def opens (kd : List PyData) : List Str := kd.filterMap fun d => if wordOf d = "open" then some (nameOf d) else none
/-- what a list of names says of the kinds -/
def Tells (ks : List Str) (F : List Str) (S : Str → Bool) : Prop := F.Nodup ∧ (∀ x ∈ F, x ∈ ks) ∧ ∀ x ∈ ks, decide (x ∈ F) = S x
theorem tells_open {kd : List PyData} (nd : (kd.map nameOf).Nodup) : Tells (kd.map nameOf) (opens kd) (S0 kd) := by
  have e : opens kd = (kd.filter fun d => decide (wordOf d = "open")).map nameOf := by
    unfold opens
    clear nd
    induction kd with
    | nil => rfl
    | cons d ds ih =>
      rw [List.filterMap_cons, List.filter_cons]
      by_cases c : wordOf d = "open"
      · rw [if_pos c, if_pos (decide_eq_true c), List.map_cons, ih]
      · rw [if_neg c, if_neg (by simpa using c), ih]
  rw [e]
  refine ⟨nd.sublist (List.filter_sublist.map nameOf), fun x hx => ?_, fun x hx => ?_⟩
  · obtain ⟨d, hd, rfl⟩ := List.mem_map.mp hx
    exact List.mem_map.mpr ⟨d, (List.mem_filter.mp hd).1, rfl⟩
  · unfold S0
    rw [Bool.eq_iff_iff, decide_eq_true_iff, List.any_eq_true, List.mem_map]
    constructor
    · rintro ⟨d, hd, rfl⟩
      obtain ⟨h1, h2⟩ := List.mem_filter.mp hd
      exact ⟨d, h1, by rw [h2]; simp⟩
    · rintro ⟨d, hd, q⟩
      rw [Bool.and_eq_true, decide_eq_true_iff, decide_eq_true_iff] at q
      exact ⟨d, List.mem_filter.mpr ⟨hd, decide_eq_true q.2⟩, q.1⟩
theorem tells_all {ks F : List Str} {S : Str → Bool} (h : Tells ks F S) : ∀ {ns : List Str}, (∀ n ∈ ns, n ∈ ks) → (ns.map fun n => decide (n ∈ F)).all id = ns.all S
  | [], _ => rfl
  | n :: ns, hn => by
    rw [List.map_cons, List.all_cons, List.all_cons, tells_all h fun x hx => hn x (List.mem_cons_of_mem _ hx), ← h.2.2 n (hn n (List.mem_cons_self ..))]
    rfl
theorem tells_new {ks F : List Str} {S : Str → Bool} {k : Str} (h : Tells ks F S) (hk : k ∈ ks) (n : k ∉ F) : Tells ks (F ++ [k]) (fun y => if y = k then true else S y) := by
  obtain ⟨h1, h2, h3⟩ := h
  refine ⟨?_, fun x hx => ?_, fun x hx => ?_⟩
  · rw [List.nodup_append]
    exact ⟨h1, List.nodup_cons.mpr ⟨by simp, List.nodup_nil⟩, fun a ha b hb e => n (by rw [List.mem_singleton] at hb; subst hb; subst e; exact ha)⟩
  · rcases List.mem_append.mp hx with z | z
    · exact h2 x z
    · rw [List.mem_singleton] at z; exact z ▸ hk
  · by_cases e : x = k
    · subst e; simp
    · show decide (x ∈ F ++ [k]) = if x = k then true else S x
      rw [if_neg e, ← h3 x hx]
      simp [e]
theorem tells_old {ks F : List Str} {S : Str → Bool} {k : Str} (h : Tells ks F S) (hk : k ∈ ks) (m : k ∈ F) : Tells ks F (fun y => if y = k then true else S y) := by
  refine ⟨h.1, h.2.1, fun x hx => ?_⟩
  by_cases e : x = k
  · subst e; simp [m]
  · show decide (x ∈ F) = if x = k then true else S x
    rw [if_neg e]; exact h.2.2 x hx
theorem tells_len {ks F : List Str} {S : Str → Bool} (nd : ks.Nodup) (h : Tells ks F S) : (F.length = ks.length) ↔ ks.all S = true := by
  obtain ⟨h1, h2, h3⟩ := h
  constructor
  · intro e
    rw [List.all_eq_true]
    intro x hx
    rw [← h3 x hx, decide_eq_true_iff]
    exact sub_all h1 h2 (Nat.le_of_eq e.symm) x hx
  · intro a
    rw [List.all_eq_true] at a
    refine Nat.le_antisymm (sub_len h1 h2) (sub_len nd fun x hx => ?_)
    have := (h3 x hx).trans (a x hx)
    exact of_decide_eq_true this
/-- _law_living(sig): the kinds that have a closed term -/
def spLiving : Sp := fun vs H Q _ => ∃ (v : V) (kd md : List PyData), vs = [v] ∧ Dd H v (.tuple [.tuple kd, .tuple md]) ∧ kindsB (.tuple kd) = true ∧ makersB (kd.map nameOf) (.tuple md) = true ∧
  ∀ (l : Addr) (F : List Str) (H' : Hp), Same H H' → H' l = some (.lst (F.map V.str)) → Tells (kd.map nameOf) F (roundsM md kd.length (S0 kd)) → Q (.ref l) H'
theorem sc_living : FnScope ["sig", "found", "kind", "word", "turn", "name", "args", "arg"] ["sig"] (defScope s_living) := ⟨rfl, rfl, rfl, by decide +kernel, rfl, by decide +kernel, by decide +kernel⟩
theorem ok_living (D : Df K mg "_law_living" s_living) (B : Bi mg) : Gd P w K mg base CX0 1 "_law_living" ["sig"] spLiving := by
  refine gd_of D (fun _ _ _ _ _ _ us hl => match us, hl with | [_], _ => rfl) fun f fd F => ?_
  refine fun_q F sc_living (fun vs H Q E h => by obtain ⟨v, kd, md, rfl, _⟩ := h; rfl) (fun cdv A outer s H vs Q E hr hq h => ?_)
  obtain ⟨v, kd, md, rfl, hd, k1, k2, k⟩ := h
  refine ⟨_, (pss_cons (ps_set (i := 1) sc_living.nd rfl (Or.inr rfl) (pe_lc (own := [("kind", 2), ("word", 3)]) (g := (gTup K 2 (gCons (gName 2) (gCons (gName 3) gNil)))) rfl sc_living.nd (pi_tup (pe_ix ix_tup (pv 0) pe_int (fun _ _ => rfl))) (blkOk_by (own := [("kind", 2), ("word", 3)]) (N := ["sig", "found", "kind", "word", "turn", "name", "args", "arg"]) (sc := defScope s_living) (by decide +kernel)) (fun _ _ _ _ _ => (pg_tup rfl (pgs_cons (pg_name (i := 2) sc_living.nd rfl (Or.inl rfl)) (pgs_cons (pg_name (i := 3) sc_living.nd rfl (Or.inl rfl)) pgs_nil)))) (fun _ _ _ _ _ => (pts_one (pt_cmpR op_eq (pv 3) pe_str (nomark _)))) (fun _ _ _ _ _ => (pv 2))))
      (pss_cons (ps_for PassesOwn.never rfl (pi_range1 rfl B.range (pa_cons (pe_callB call_len_seq (by rfl) B.len (by decide +kernel) (pa_cons (pe_ix ix_tup (pv 0) pe_int (fun _ _ => rfl)) pa_nil)) pa_nil)) (pg_name (i := 4) sc_living.nd rfl (Or.inl rfl)) (pss_one (ps_for PassesOwn.never rfl (pi_tup (pe_ix ix_tup (pv 0) pe_int (fun _ _ => rfl))) (pg_tup rfl (pgs_cons (pg_name (i := 5) sc_living.nd rfl (Or.inl rfl)) (pgs_cons (pg_name (i := 6) sc_living.nd rfl (Or.inl rfl)) (pgs_cons (pg_name (i := 2) sc_living.nd rfl (Or.inl rfl)) pgs_nil)))) (pss_one (ps_if (PW.pt (pw_and (pt_cmpR op_notIn_seq (pv 2) (pv 1) (by rfl)) (pw_and1 (pt_val (pe_callB (cr_all rfl) (by rfl) B.all (by decide +kernel) (pa_cons (pe_lc (own := [("arg", 7)]) (g := (gName 7)) (tt := tYes) rfl sc_living.nd (pi_tup (pv 6)) (blkOk_by (own := [("arg", 7)]) (N := ["sig", "found", "kind", "word", "turn", "name", "args", "arg"]) (sc := defScope s_living) (by decide +kernel)) (fun _ _ _ _ _ => (pg_name (i := 7) sc_living.nd rfl (Or.inl rfl))) (fun _ _ _ _ _ => pts_nil) (fun _ _ _ _ _ => (pe_cmpR (op_in_seqK (K := K) rfl) (pv 7) (pv 1) (by rfl)))) pa_nil)))))) (pss_one (ps_expr (pe_bm PySem.F.plainAttrs_list PySem.F.slot_list_append PySem.F.type_list_append mt_append (pv 1) (pa_cons (pv 2) pa_nil)))) pss_nil)))))
      (pss_one (ps_ret (pv 1))))), ?_⟩
  obtain ⟨sa, u, v, rfl, hsa, hk, hm⟩ := dd2 hd
  obtain ⟨ka, kx, rfl, hka, KA⟩ := hk.tupD
  obtain ⟨ma, mx, rfl, hma, MA⟩ := hm.tupD
  obtain ⟨l1, l8, kb, knd⟩ := kindsB_parts k1
  obtain ⟨l24, mb, mnd⟩ := makersB_parts k2
  have lk := KA.length
  have lm := MA.length
  walk_at "rd"
  refine ⟨⟨_, SqT.of hka⟩, fun D hD => ?_⟩
  refine lc_vals walk_tup (fun i => kd[i]?.bind fun d => if wordOf d = "open" then some (V.str (nameOf d)) else none) hD (by rw [lk, sizeLine_eq]; omega) (fun H s => SqT.of (s _ _ hka)) (fun i y H7 H8 K1 K0 hi s7 hy q1 q0 => ?_) (fun H2 s2 e2 => ?_)
  · obtain ⟨rfl, ey⟩ := hy
    obtain ⟨q, x, b, ed, rfl, hq2, _⟩ := kind_at (KA.mono s7) kb ey
    refine ⟨q, _, rfl, SqT.of hq2, rfl, _, _, rfl, _, _, rfl, rfl, rfl, ?_⟩
    walk_at "rd"
    rw [dec_str]
    refine ite2 (fun c => ?_) (fun c => ?_)
    · walk_at "rd"
      refine q1 _ _ ?_ (Same.refl _)
      rw [ed]
      exact if_pos (of_decide_eq_true c)
    · refine q0 _ ?_ (Same.refl _)
      rw [ed]
      exact if_neg (fun z => c (decide_eq_true z))
  · have e3 : (List.range kx.length).filterMap (fun i => kd[i]?.bind fun d => if wordOf d = "open" then some (V.str (nameOf d)) else none) = (opens kd).map V.str := by
      rw [lk, range_bind]
      unfold opens
      rw [List.map_filterMap]
      refine congrArg (fun f => List.filterMap f kd) (funext fun d => ?_)
      by_cases c : wordOf d = "open"
      · rw [if_pos c, if_pos c]; rfl
      · rw [if_neg c, if_neg c]; rfl
    rw [e3] at e2
    have T0 := tells_open knd
    walk_at "rd"
    refine ⟨sa, _, 0, _, rfl, rfl, SqT.of (s2 _ _ hsa), rfl, ?_⟩
    refine ⟨ka, kx, rfl, .inr (SqT.of (s2 _ _ hka)), ?_⟩
    refine ⟨_, rfl, by omega, by omega, ?_⟩
    refine for_it walk_range (fun i σ H3 => (∃ tn nm ag kk F, σ = [some (.ref sa), some (.ref D), kk, none, tn, nm, ag, none] ∧ Same H H3 ∧ H3 D = some (.lst (F.map V.str)) ∧ Tells (kd.map nameOf) F (roundsM md i (S0 kd))))
      ⟨_, _, _, _, _, rfl, s2, e2, T0⟩ (fun i σ H3 _ p => True.intro) (fun i y σ H3 H4 hi p hy => ?_) (fun σ H3 p => ?_)
    · obtain ⟨rfl, rfl⟩ := hy
      obtain ⟨tn, nm, ag, kk, F, rfl, s3, e3, T⟩ := p
      walk_at "rd"
      refine ⟨sa, _, 1, _, rfl, rfl, SqT.of (s3 _ _ hsa), rfl, ?_⟩
      refine ⟨ma, rfl, ⟨_, SqT.of (s3 _ _ hma)⟩, ?_⟩
      refine for_it walk_tup (fun j σ H5 => (∃ tn nm ag kk F, σ = [some (.ref sa), some (.ref D), kk, none, tn, nm, ag, none] ∧ Same H H5 ∧ H5 D = some (.lst (F.map V.str)) ∧ Tells (kd.map nameOf) F ((md.take j).foldl stepM (roundsM md i (S0 kd)))))
        ⟨_, _, _, _, F, rfl, s3, e3, by rw [List.take_zero]; exact T⟩ (fun j σ H5 _ p => by obtain ⟨_, _, _, _, _, _, s, _⟩ := p; exact SqT.of (s _ _ hma)) (fun j y σ H5 H6 hj p hy => ?_) (fun σ H5 p => ?_)
      · obtain ⟨rfl, ey⟩ := hy
        obtain ⟨tn, nm, ag, kk, F, rfl, s5, e5, T⟩ := p
        obtain ⟨q, x, ns, kk, na, em, rfl, hq5, hna, l3, hns, hkk⟩ := maker_at (MA.mono s5) mb ey
        have et : (md.take (j + 1)).foldl stepM (roundsM md i (S0 kd)) = stepM ((md.take j).foldl stepM (roundsM md i (S0 kd))) (.tuple [.str x, .tuple ns, .str kk]) := by
          rw [List.take_add_one, em, List.foldl_append]
          rfl
        rw [et]
        generalize (md.take j).foldl stepM (roundsM md i (S0 kd)) = S at T ⊢
        have lF : F.length ≤ 8 := by
          have := sub_len T.1 T.2.1
          rw [List.length_map] at this
          omega
        refine ⟨q, _, rfl, SqT.of hq5, rfl, _, _, rfl, _, _, rfl, _, _, rfl, rfl, ?_⟩
        refine ⟨_, rfl, _, rfl, D, _, rfl, .inl (SqL.of e5), rfl, flat_strs' F, ?_⟩
        refine ⟨_, rfl, ?_⟩
        rw [inV_strs]
        by_cases c : kk ∈ F
        · rw [decide_eq_true c]
          refine iteF ?_
          refine iteF ?_
          refine ⟨_, _, _, _, F, rfl, s5, e5, ?_⟩
          unfold stepM
          split
          · exact tells_old T hkk c
          · exact T
        · rw [decide_eq_false c]
          refine iteT ?_
          walk_at "rd"
          refine ⟨⟨_, SqT.of hna⟩, fun D2 hD2 => ?_⟩
          refine lc_vals walk_tup (fun i => (ns.map strD)[i]?.map fun n => V.bl (decide (n ∈ F))) hD2 (by rw [List.length_map, List.length_map, sizeLine_eq]; omega) (fun H s => SqT.of (s _ _ hna)) (fun i y H7 H8 K1 K0 hi s7 hy k1 k0 => ?_) (fun H7 s7 e7 => ?_)
          · obtain ⟨rfl, ey⟩ := hy
            rw [List.getElem?_map] at ey
            obtain ⟨z, ez, rfl⟩ := Option.map_eq_some_iff.mp ey
            refine ⟨rfl, ?_⟩
            walk_at "rd"
            refine ⟨D, _, rfl, .inl (SqL.of (s7 _ _ e5)), rfl, flat_strs' F, ?_⟩
            exact k1 _ _ (by rw [ez, inV_strs]; rfl) (Same.refl _)
          · have e8 : (List.range ((ns.map strD).map V.str).length).filterMap (fun i => (ns.map strD)[i]?.map fun n => V.bl (decide (n ∈ F))) = ((ns.map strD).map fun n => decide (n ∈ F)).map V.bl := by
              rw [List.length_map, range_map' (fun n => V.bl (decide (n ∈ F))) (ns.map strD), List.map_map (g := V.bl)]
              rfl
            rw [e8] at e7
            walk_at "rd"
            refine ⟨D2, _, rfl, SqL.of e7, ?_⟩
            refine ⟨_, rfl, ?_⟩
            rw [tells_all T hns]
            have e9 := s7 _ _ e5
            cases eb : (ns.map strD).all S with
            | true =>
              have es : stepM S (.tuple [.str x, .tuple ns, .str kk]) = fun y => if y = kk then true else S y := if_pos eb
              rw [es]
              refine iteT ?_
              refine ⟨_, rfl, .inl ⟨rfl, _, SqL.of e9⟩, _, rfl, ?_⟩
              refine ⟨D, _, _, rfl, rfl, e9, by rw [List.length_map, sizeLine_eq]; omega, ?_⟩
              refine ⟨_, _, _, _, F ++ [kk], rfl, same_put (s5.trans s7) hD, by rw [upd_same, List.map_append]; rfl, tells_new T hkk c⟩
            | false =>
              have es : stepM S (.tuple [.str x, .tuple ns, .str kk]) = S := if_neg (by rw [show (needsOf (.tuple [.str x, .tuple ns, .str kk])).all S = false from eb]; exact Bool.false_ne_true)
              rw [es]
              refine iteF ?_
              exact ⟨_, _, _, _, F, rfl, s5.trans s7, e9, T⟩
      · obtain ⟨tn, nm, ag, kk, F, rfl, s5, e5, T⟩ := p
        rw [lm, List.take_length] at T
        exact ⟨_, _, _, _, F, rfl, s5, e5, T⟩
    · obtain ⟨tn, nm, ag, kk, F, rfl, s3, e3, T⟩ := p
      rw [lk] at T
      walk_at "rd"
      exact k D F H3 s3 e3 T

end

section
variable {X : Cx} {K : PySem.W.Frag}
theorem call_isiK (h : X.K = K) : CallR X (.builtin "isinstance") (rIsi K) := h ▸ call_isi
end

section
variable {P : Program} {w : World} {K : PySem.W.Frag} {mg : Str → Option Value} {base : Heap}

theorem isTup_of {d : PyData} (h : isTup d = true) : ∃ ds, d = .tuple ds := by
  cases d with
  | tuple ds => exact ⟨ds, rfl⟩
  | _ => exact absurd h (by intro z; cases z)
theorem isStr_of {d : PyData} (h : isStr d = true) : ∃ x, d = .str x := by
  cases d with
  | str x => exact ⟨x, rfl⟩
  | _ => exact absurd h (by intro z; cases z)
theorem kindsB_not {d : PyData} (h : isTup d = false) : kindsB d = false := by
  cases d with
  | tuple ds => exact absurd h (by intro z; cases z)
  | _ => rfl
theorem makersB_not {ks : List Str} {d : PyData} (h : isTup d = false) : makersB ks d = false := by
  cases d with
  | tuple ds => exact absurd h (by intro z; cases z)
  | _ => rfl
theorem kindsB_bad {kd : List PyData} {d : PyData} (h : d ∈ kd) (b : kindB d = false) : kindsB (.tuple kd) = false := by
  show (decide (1 ≤ kd.length) && decide (kd.length ≤ 8) && kd.all kindB && decide (kd.map nameOf).Nodup) = false
  have e : kd.all kindB = false := Bool.eq_false_iff.mpr fun z => by
    rw [List.all_eq_true.mp z d h] at b
    cases b
  rw [e]; simp
theorem makersB_bad {ks : List Str} {md : List PyData} {d : PyData} (h : d ∈ md) (b : makerB ks d = false) : makersB ks (.tuple md) = false := by
  show (decide (md.length ≤ 24) && md.all (makerB ks) && decide (md.map nameOf).Nodup) = false
  have e : md.all (makerB ks) = false := Bool.eq_false_iff.mpr fun z => by
    rw [List.all_eq_true.mp z d h] at b
    cases b
  rw [e]; simp
theorem all_take {α : Type} {f : α → Bool} {l : List α} {i : Nat} {x : α} (h : ∀ y ∈ l.take i, f y = true) (e : l[i]? = some x) (b : f x = true) : ∀ y ∈ l.take (i + 1), f y = true := fun y hy => by
  rw [List.take_add_one, e] at hy
  rcases List.mem_append.mp hy with z | z
  · exact h y z
  · simp at z
    exact z ▸ b
/-- t + u, all ways in one -/
theorem catA_all {K : PySem.W.Frag} {a b : Addr} {xs ys : List V} {H : Hp} {Q : VK} (ha : H a = some (.tup xs)) (hb : H b = some (.tup ys)) (hl : xs.length + ys.length ≤ sizeLine)
    (k : ∀ c H', Same H H' → H' c = some (.tup (xs ++ ys)) → Q (.ref c) H') : rCatA K (.ref a) (.ref b) H Q :=
  ⟨a, b, xs, ys, rfl, rfl, SqT.of ha, SqT.of hb, hl, fun z => k b H (Same.refl H) (by subst z; exact hb), fun _ z => k a H (Same.refl H) (by subst z; rw [List.append_nil]; exact ha), fun _ _ c hc => k c _ (same_new hc _) upd_same⟩
/-- _law_is_signature(thing) -/
def spLSig : Sp := fun vs H Q _ => ∃ (v : V) (d : PyData), vs = [v] ∧ Dd H v d ∧ okT d = true ∧ ∀ H', Same H H' → Q (.bl (sigB d)) H'
theorem sc_lis_signature : FnScope ["thing", "each", "kinds", "arg", "names"] ["thing"] (defScope s_lis_signature) := ⟨rfl, rfl, rfl, by decide +kernel, rfl, by decide +kernel, by decide +kernel⟩
theorem ok_lis_signature (D : Df K mg "_law_is_signature" s_lis_signature) (B : Bi mg) (G1 : Gd P w K mg base CX0 1 "_law_is_pair" ["thing", "few"] spPair) (G2 : Gd P w K mg base CX0 1 "_law_is_name" ["thing"] spName) (G3 : Gd P w K mg base CX0 1 "_law_living" ["sig"] spLiving) : Gd P w K mg base CX0 2 "_law_is_signature" ["thing"] spLSig := by
  refine gd_of D (fun _ _ _ _ _ _ us hl => match us, hl with | [_], _ => rfl) fun f fd F => ?_
  refine fun_q F sc_lis_signature (fun vs H Q E h => by obtain ⟨v, d, rfl, _⟩ := h; rfl) (fun cdv A outer s H vs Q E hr hq h => ?_)
  obtain ⟨v, d, rfl, hd, ok, k⟩ := h
  have kf : sigB d = false → ∀ H', Same H H' → Q (.bl false) H' := fun e H' s => by
    have q := k H' s
    rw [e] at q
    exact q
  refine ⟨_, (pss_cons (ps_if (PW.pt (pw_or (pt_not (pt_val (pe_g (G1.mono (by decide)) hr hq (pa_cons (pv 0) (pa_cons pe_int pa_nil))))) (pw_or (pt_not (pt_val (pe_callB call_isi (by rfl) B.isinstance (by decide +kernel) (pa_cons (pe_ix ix_tup (pv 0) pe_int (fun _ _ => rfl)) (pa_cons (pe_bltn (v := V.ty "tuple") (by rfl) B.tuple (by decide +kernel) rfl) pa_nil))))) (pw_or1 (pt_not (pt_chain op_le op_le pe_int (pe_callB call_len_seq (by rfl) B.len (by decide +kernel) (pa_cons (pe_ix ix_tup (pv 0) pe_int (fun _ _ => rfl)) pa_nil)) pe_int)))))) (pss_one (ps_ret pe_bl)) pss_nil)
      (pss_cons (ps_for PassesOwn.never rfl (pi_tup (pe_ix ix_tup (pv 0) pe_int (fun _ _ => rfl))) (pg_name (i := 1) sc_lis_signature.nd rfl (Or.inl rfl)) (pss_cons (ps_if (PW.pt (pw_or (pt_not (pt_val (pe_g (G1.mono (by decide)) hr hq (pa_cons (pv 1) (pa_cons pe_int pa_nil))))) (pw_or (pt_not (pt_val (pe_g (G2.mono (by decide)) hr hq (pa_cons (pe_ix ix_tup (pv 1) pe_int (fun _ _ => rfl)) pa_nil)))) (pw_or1 (pt_not (pt_val (pe_callB call_isi (by rfl) B.isinstance (by decide +kernel) (pa_cons (pe_ix ix_tup (pv 1) pe_int (fun _ _ => rfl)) (pa_cons (pe_bltn (v := V.ty "str") (by rfl) B.str (by decide +kernel) rfl) pa_nil))))))))) (pss_one (ps_ret pe_bl)) pss_nil)
      (pss_one (ps_if (pt_cmpR op_notIn_seq (pe_ix ix_tup (pv 1) pe_int (fun _ _ => rfl)) (pe_tup (pa_cons pe_str (pa_cons pe_str pa_nil))) (by rfl)) (pss_one (ps_ret pe_bl)) pss_nil))))
      (pss_cons (ps_set (i := 2) sc_lis_signature.nd rfl (Or.inr rfl) (pe_lc (own := [("each", 1)]) (g := (gName 1)) (tt := tYes) rfl sc_lis_signature.nd (pi_tup (pe_ix ix_tup (pv 0) pe_int (fun _ _ => rfl))) (blkOk_by (own := [("each", 1)]) (N := ["thing", "each", "kinds", "arg", "names"]) (sc := defScope s_lis_signature) (by decide +kernel)) (fun _ _ _ _ _ => (pg_name (i := 1) sc_lis_signature.nd rfl (Or.inl rfl))) (fun _ _ _ _ _ => pts_nil) (fun _ _ _ _ _ => (pe_ix (ix_tupK (K := K) rfl) (pv 1) pe_int (fun _ _ => rfl)))))
      (pss_cons (ps_if (PW.pt (pw_or (pt_cmpR op_ne (pe_callB call_len_seq (by rfl) B.len (by decide +kernel) (pa_cons (pe_callB (cr_sortTx rfl) (by rfl) B.sorted (by decide +kernel) (pa_cons (pe_callTy (cr_setS rfl) (by rfl) B.set (by decide +kernel) (pa_cons (pv 2) pa_nil)) pa_nil)) pa_nil)) (pe_callB call_len_seq (by rfl) B.len (by decide +kernel) (pa_cons (pv 2) pa_nil)) (nomark _)) (pw_or (pt_not (pt_val (pe_callB call_isi (by rfl) B.isinstance (by decide +kernel) (pa_cons (pe_ix ix_tup (pv 0) pe_int (fun _ _ => rfl)) (pa_cons (pe_bltn (v := V.ty "tuple") (by rfl) B.tuple (by decide +kernel) rfl) pa_nil))))) (pw_or1 (pt_cmpR op_gt (pe_callB call_len_seq (by rfl) B.len (by decide +kernel) (pa_cons (pe_ix ix_tup (pv 0) pe_int (fun _ _ => rfl)) pa_nil)) pe_int (nomark _)))))) (pss_one (ps_ret pe_bl)) pss_nil)
      (pss_cons (ps_for PassesOwn.never rfl (pi_tup (pe_ix ix_tup (pv 0) pe_int (fun _ _ => rfl))) (pg_name (i := 1) sc_lis_signature.nd rfl (Or.inl rfl)) (pss_cons (ps_if (PW.pt (pw_or (pt_not (pt_val (pe_g (G1.mono (by decide)) hr hq (pa_cons (pv 1) (pa_cons pe_int pa_nil))))) (pw_or (pt_not (pt_val (pe_g (G2.mono (by decide)) hr hq (pa_cons (pe_ix ix_tup (pv 1) pe_int (fun _ _ => rfl)) pa_nil)))) (pw_or (pt_not (pt_val (pe_callB call_isi (by rfl) B.isinstance (by decide +kernel) (pa_cons (pe_ix ix_tup (pv 1) pe_int (fun _ _ => rfl)) (pa_cons (pe_bltn (v := V.ty "tuple") (by rfl) B.tuple (by decide +kernel) rfl) pa_nil))))) (pw_or1 (pt_cmpR op_gt (pe_callB call_len_seq (by rfl) B.len (by decide +kernel) (pa_cons (pe_ix ix_tup (pv 1) pe_int (fun _ _ => rfl)) pa_nil)) pe_int (nomark _))))))) (pss_one (ps_ret pe_bl)) pss_nil)
      (pss_one (ps_if (pt_not (pt_val (pe_callB (cr_all rfl) (by rfl) B.all (by decide +kernel) (pa_cons (pe_lc (own := [("arg", 3)]) (g := (gName 3)) (tt := tYes) rfl sc_lis_signature.nd (pi_tup (pe_op op_catA (pe_ix ix_tup (pv 1) pe_int (fun _ _ => rfl)) (pe_tup (pa_cons (pe_ix ix_tup (pv 1) pe_int (fun _ _ => rfl)) pa_nil)))) (blkOk_by (own := [("arg", 3)]) (N := ["thing", "each", "kinds", "arg", "names"]) (sc := defScope s_lis_signature) (by decide +kernel)) (fun _ _ _ _ _ => (pg_name (i := 3) sc_lis_signature.nd rfl (Or.inl rfl))) (fun _ _ _ _ _ => pts_nil) (fun _ _ _ _ _ => (pe_and (pe_callB (call_isiK (K := K) rfl) (by rfl) B.isinstance (by decide +kernel) (pa_cons (pv 3) (pa_cons (pe_bltn (v := V.ty "str") (by rfl) B.str (by decide +kernel) rfl) pa_nil))) (pe_one (pe_cmpR (op_in_seqK (K := K) rfl) (pv 3) (pv 2) (by rfl)))))) pa_nil)))) (pss_one (ps_ret pe_bl)) pss_nil))))
      (pss_cons (ps_setLc (i := 4) (own := [("each", 1)]) (g := (gName 1)) (tt := tYes) rfl sc_lis_signature.nd rfl rfl (sw_true rfl rfl rfl (by decide +kernel)) (pi_tup (pe_ix ix_tup (pv 0) pe_int (fun _ _ => rfl))) (blkOk_by (own := [("each", 1)]) (N := ["thing", "each", "kinds", "arg", "names"]) (sc := defScope s_lis_signature) (by decide +kernel)) (fun _ _ _ _ _ => (pg_name (i := 1) sc_lis_signature.nd rfl (Or.inl rfl))) (fun _ _ _ _ _ => pts_nil) (fun _ _ _ _ _ => (pe_ix (ix_tupK (K := K) rfl) (pv 1) pe_int (fun _ _ => rfl))))
      (pss_one (ps_ret (pe_and (pe_cmpR op_eq (pe_callB call_len_seq (by rfl) B.len (by decide +kernel) (pa_cons (pe_callB (cr_sortTx rfl) (by rfl) B.sorted (by decide +kernel) (pa_cons (pe_callTy (cr_setS rfl) (by rfl) B.set (by decide +kernel) (pa_cons (pv 4) pa_nil)) pa_nil)) pa_nil)) (pe_callB call_len_seq (by rfl) B.len (by decide +kernel) (pa_cons (pv 4) pa_nil)) (nomark _)) (pe_one (pe_cmpR op_eq (pe_callB call_len_seq (by rfl) B.len (by decide +kernel) (pa_cons (pe_g (G3.mono (by decide)) hr hq (pa_cons (pv 0) pa_nil)) pa_nil)) (pe_callB call_len_seq (by rfl) B.len (by decide +kernel) (pa_cons (pv 2) pa_nil)) (nomark _)))))))))))), ?_⟩
  walk_at "rd"
  refine ⟨v, d, 2, rfl, hd, fun H1 s1 => ⟨_, rfl, ?_⟩⟩
  cases e : isTupB d 2 2 with
  | false => exact iteT (kf (sigB_no e) H1 s1)
  | true =>
  obtain ⟨a, b, rfl⟩ := tupB_2 e
  obtain ⟨oka, okb⟩ := okT_2 ok
  obtain ⟨p, x, y, rfl, hp, ha, hb⟩ := dd2 hd
  have es : sigB (.tuple [a, b]) = (kindsB a && (makersB (namesOf a) b && have2 a b)) := rfl
  refine iteF ?_
  refine ⟨_, rfl, p, _, 0, _, rfl, rfl, SqT.of (s1 _ _ hp), rfl, ?_⟩
  refine ⟨_, V.ty _, _, _, _, rfl, ClsV.ty _, Dd.ty (ha.mono s1), kit_ty (kit_tup a), ?_⟩
  refine ⟨_, rfl, ?_⟩
  cases et : isTup a with
  | false => exact iteT (kf (by rw [es, kindsB_not et]; rfl) H1 s1)
  | true =>
  obtain ⟨kd, rfl⟩ := isTup_of et
  obtain ⟨ka, kx, rfl, hka, KA⟩ := ha.tupD
  have lk := KA.length
  refine iteF ?_
  refine ⟨_, rfl, p, _, 0, _, rfl, rfl, SqT.of (s1 _ _ hp), rfl, ka, kx, rfl, .inr (SqT.of (s1 _ _ hka)), ?_⟩
  have kl : ¬ (1 ≤ kd.length ∧ kd.length ≤ 8) → kindsB (.tuple kd) = false := fun c => by
    show (decide (1 ≤ kd.length) && decide (kd.length ≤ 8) && kd.all kindB && decide (kd.map nameOf).Nodup) = false
    have e : (decide (1 ≤ kd.length) && decide (kd.length ≤ 8)) = false := by
      rw [← Bool.decide_and]; exact decide_eq_false c
    rw [e]; rfl
  walk_at "rd"
  refine ite2 (fun c1 => ?_) (fun c1 => ?_)
  rotate_left
  · have c1 : ¬ ((1 : Int) ≤ kx.length) := fun z => c1 (decide_eq_true z)
    walk_at "rd"
    exact iteT (kf (by rw [es, kl (by omega)]; rfl) H1 s1)
  have l1 : (1 : Int) ≤ kx.length := of_decide_eq_true c1
  walk_at "rd"
  refine ite2 (fun c2 => ?_) (fun c2 => ?_)
  · have c2 : ¬ ((kx.length : Int) ≤ 8) := fun z => by rw [decide_eq_true z] at c2; cases c2
    exact (kf (by rw [es, kl (by omega)]; rfl) H1 s1)
  have l8 : (kx.length : Int) ≤ 8 := Classical.byContradiction fun z => c2 (by rw [decide_eq_false z]; rfl)
  refine ⟨_, rfl, p, _, 0, _, rfl, rfl, SqT.of (s1 _ _ hp), rfl, ka, rfl, ⟨_, SqT.of (s1 _ _ hka)⟩, ?_⟩
  refine for_it walk_tup (fun i σ H2 => (∃ ec, σ = [some (.ref p), ec, none, none, none]) ∧ Same H H2 ∧ ∀ d ∈ kd.take i, kindB d = true)
    ⟨⟨_, rfl⟩, s1, fun d hd => by rw [List.take_zero] at hd; cases hd⟩ (fun i σ H2 _ q => SqT.of (q.2.1 _ _ hka)) (fun i y σ H2 H2' hi q hy => ?_) (fun σ H2 q => ?_)
  · obtain ⟨rfl, ey⟩ := hy
    obtain ⟨⟨ec, rfl⟩, s2, kt⟩ := q
    obtain ⟨d, ed, hdd⟩ := KA.get ey
    have hmem := List.mem_of_getElem? ed
    have bad : kindB d = false → ∀ H', Same H H' → Q (.bl false) H' := fun z H' s => kf (by rw [es, kindsB_bad hmem z]; rfl) H' s
    refine ⟨_, rfl, y, d, 2, rfl, hdd.mono s2, fun H3 s3 => ⟨_, rfl, ?_⟩⟩
    have s13 := s2.trans s3
    cases e2 : isTupB d 2 2 with
    | false => exact iteT (bad (kindB_no e2) H3 s13)
    | true =>
    obtain ⟨g, h, rfl⟩ := tupB_2 e2
    obtain ⟨okg, okh⟩ := okT_2 (okTs_at oka ed)
    obtain ⟨q, vg, vh, rfl, hq, hg, hh⟩ := dd2 hdd
    have eb : kindB (.tuple [g, h]) = (isNameB g && isAmongB h ["open", "closed"]) := rfl
    refine iteF ?_
    refine ⟨_, rfl, q, _, 0, _, rfl, rfl, SqT.of (s13 _ _ hq), rfl, vg, g, rfl, hg.mono s13, okg, fun H4 s4 => ⟨_, rfl, ?_⟩⟩
    have s14 := s13.trans s4
    cases e3 : isNameB g with
    | false => exact iteT (bad (by rw [eb, e3]; rfl) H4 s14)
    | true =>
    refine iteF ?_
    refine ⟨_, rfl, q, _, 1, _, rfl, rfl, SqT.of (s14 _ _ hq), rfl, ?_⟩
    refine ⟨_, V.ty _, _, _, _, rfl, ClsV.ty _, Dd.ty (hh.mono s14), kit_ty (kit_str h), ?_⟩
    refine ⟨_, rfl, ?_⟩
    cases e4 : isStr h with
    | false =>
      refine iteT (bad (by
        rw [eb]
        cases h with
        | str z => cases e4
        | _ => simp [isAmongB]) H4 s14)
    | true =>
    obtain ⟨wd, rfl⟩ := isStr_of e4
    obtain rfl := hh.strD
    refine iteF ?_
    refine ⟨_, rfl, q, _, 1, _, rfl, rfl, SqT.of (s14 _ _ hq), rfl, ?_⟩
    refine ⟨by show 2 ≤ sizeLine; rw [sizeLine_eq]; decide, fun t ht => ?_⟩
    refine ⟨t, _, rfl, .inr (SqT.of upd_same), rfl, rfl, ?_⟩
    refine ⟨_, rfl, ?_⟩
    have ei : inV (.str wd) [V.str "open", V.str "closed"] = isAmongB (.str wd) ["open", "closed"] := inV_strs wd ["open", "closed"]
    have s15 := s14.trans (same_new ht (.tup [V.str "open", V.str "closed"]))
    rw [ei]
    cases e5 : isAmongB (.str wd) ["open", "closed"] with
    | false => exact iteT (bad (by rw [eb, e5, e3]; rfl) _ s15)
    | true =>
    refine iteF ?_
    refine ⟨⟨_, rfl⟩, s15, all_take kt ed (by rw [eb, e5, e3]; rfl)⟩
  obtain ⟨⟨ec, rfl⟩, s2, kt⟩ := q
  rw [lk, List.take_length] at kt
  have kb := kt
  refine ⟨_, rfl, p, _, 0, _, rfl, rfl, SqT.of (s2 _ _ hp), rfl, ka, rfl, ⟨_, SqT.of (s2 _ _ hka)⟩, fun D hD => ?_⟩
  refine lc_vals walk_tup (fun i => kd[i]?.map fun d => V.str (nameOf d)) hD (by rw [sizeLine_eq]; omega) (fun H s => SqT.of (s _ _ (s2 _ _ hka))) (fun i y H3 H4 K1 K0 hi s3 hy k1 k0 => ?_) (fun H3 s3 e3 => ?_)
  · obtain ⟨rfl, ey⟩ := hy
    obtain ⟨q, x, b, ed, rfl, hq2, _⟩ := kind_at (KA.mono (s2.trans s3)) kb ey
    refine ⟨rfl, ?_⟩
    refine ⟨_, rfl, q, _, 0, _, rfl, rfl, SqT.of hq2, rfl, ?_⟩
    exact k1 _ _ (by rw [ed]; rfl) (Same.refl _)
  rw [lk, range_map' (fun d => V.str (nameOf d)) kd] at e3
  have e4 : (kd.map fun d => V.str (nameOf d)) = (kd.map nameOf).map V.str := by rw [List.map_map]; rfl
  rw [e4] at e3
  have s03 := s2.trans s3
  refine ⟨_, rfl, D, _, rfl, SqL.of e3, by rw [List.length_map]; unfold scanBound; omega, fun t ht => ?_⟩
  have lo := once_len (kd.map nameOf) []
  rw [List.length_map, List.length_nil] at lo
  refine ⟨t, _, rfl, upd_same, by omega, fun ys l pm srt hl => ?_⟩
  have s04 := (s03.trans (same_new ht (TxO w t (once [] (kd.map nameOf))))).trans (same_new hl (.lst (ys.map V.str)))
  have sD4 := (same_new ht (TxO w t (once [] (kd.map nameOf)))).trans (same_new hl (.lst (ys.map V.str)))
  refine ⟨l, _, rfl, .inl (SqL.of upd_same), ?_⟩
  refine ⟨_, rfl, D, _, rfl, .inl (SqL.of (sD4 _ _ e3)), ?_⟩
  generalize hH4 : upd (upd H3 t (TxO w t (once [] (kd.map nameOf)))) l (HO.lst (ys.map V.str)) = H4 at s04 sD4 ⊢
  have enod : (decide (V.int ((ys.map V.str).length : Nat) = V.int (((kd.map nameOf).map V.str).length : Nat))) = decide (kd.map nameOf).Nodup := by
    rw [List.length_map, List.length_map, pm.length_eq]
    refine decide_eq_decide.mpr ((Iff.intro (fun z => ?_) (fun z => by rw [z])).trans (once_nodup (kd.map nameOf)))
    injection z with z
    exact Int.ofNat_inj.mp z
  refine ⟨rfl, ?_⟩
  refine ⟨_, rfl, ?_⟩
  have ek : kindsB (.tuple kd) = decide (kd.map nameOf).Nodup := by
    show (decide (1 ≤ kd.length) && decide (kd.length ≤ 8) && kd.all kindB && decide (kd.map nameOf).Nodup) = _
    rw [decide_eq_true (by omega : 1 ≤ kd.length), decide_eq_true (by omega : kd.length ≤ 8), List.all_eq_true.mpr kb]
    rfl
  rw [enod]
  cases end_ : decide (kd.map nameOf).Nodup with
  | false => exact iteT (kf (by rw [es, ek, end_]; rfl) _ s04)
  | true =>
  have knd := of_decide_eq_true end_
  refine iteF ?_
  refine ⟨_, rfl, p, _, 1, _, rfl, rfl, SqT.of (s04 _ _ hp), rfl, ?_⟩
  refine ⟨_, V.ty _, _, _, _, rfl, ClsV.ty _, Dd.ty (hb.mono s04), kit_ty (kit_tup b), ?_⟩
  refine ⟨_, rfl, ?_⟩
  cases et2 : isTup b with
  | false => exact iteT (kf (by rw [es, makersB_not et2]; simp) _ s04)
  | true =>
  obtain ⟨md, rfl⟩ := isTup_of et2
  obtain ⟨ma, mx, rfl, hma, MA⟩ := hb.tupD
  have lm := MA.length
  refine iteF ?_
  refine ⟨_, rfl, p, _, 1, _, rfl, rfl, SqT.of (s04 _ _ hp), rfl, ma, mx, rfl, .inr (SqT.of (s04 _ _ hma)), ?_⟩
  walk_at "rd"
  refine ite2 (fun c3 => ?_) (fun c3 => ?_)
  · have c3 : (mx.length : Int) > 24 := of_decide_eq_true c3
    refine (kf ?_ _ s04)
    have : makersB (namesOf (.tuple kd)) (.tuple md) = false := by
      show (decide (md.length ≤ 24) && _ && _) = false
      rw [decide_eq_false (by omega)]; rfl
    rw [es, this]; simp
  have l24 : md.length ≤ 24 := by
    have : ¬ ((mx.length : Int) > 24) := fun z => c3 (decide_eq_true z)
    omega
  have e4 := sD4 _ _ e3
  refine ⟨_, rfl, p, _, 1, _, rfl, rfl, SqT.of (s04 _ _ hp), rfl, ma, rfl, ⟨_, SqT.of (s04 _ _ hma)⟩, ?_⟩
  refine for_it walk_tup (fun i σ H5 => (∃ ec, σ = [some (.ref p), ec, some (.ref D), none, none]) ∧ Same H H5 ∧ H5 D = some (.lst ((kd.map nameOf).map V.str)) ∧ ∀ d ∈ md.take i, makerB (kd.map nameOf) d = true)
    ⟨⟨_, rfl⟩, s04, e4, fun d hd => by rw [List.take_zero] at hd; cases hd⟩ (fun i σ H2 _ q => SqT.of (q.2.1 _ _ hma)) (fun i y σ H5 H5' hi q hy => ?_) (fun σ H5 q => ?_)
  · obtain ⟨rfl, ey⟩ := hy
    obtain ⟨⟨ec, rfl⟩, s5, eD, kt⟩ := q
    obtain ⟨d, ed, hdd⟩ := MA.get ey
    have hmem := List.mem_of_getElem? ed
    have bad : makerB (kd.map nameOf) d = false → ∀ H', Same H H' → Q (.bl false) H' := fun z H' s => kf (by rw [es, show makersB (namesOf (.tuple kd)) (.tuple md) = false from makersB_bad hmem z]; simp) H' s
    refine ⟨_, rfl, y, d, 3, rfl, hdd.mono s5, fun H6 s6 => ⟨_, rfl, ?_⟩⟩
    have s06 := s5.trans s6
    cases e2 : isTupB d 3 3 with
    | false => exact iteT (bad (makerB_no e2) H6 s06)
    | true =>
    obtain ⟨g, h, j, rfl⟩ := tupB_3 e2
    obtain ⟨okg, okh, okj⟩ := okT_3 (okTs_at okb ed)
    obtain ⟨q, vg, vh, vj, rfl, hq, hg, hh, hj⟩ := dd3 hdd
    have eb := makerB_3 (ks := kd.map nameOf) (a := g) (b := h) (c := j)
    refine iteF ?_
    refine ⟨_, rfl, q, _, 0, _, rfl, rfl, SqT.of (s06 _ _ hq), rfl, vg, g, rfl, hg.mono s06, okg, fun H7 s7 => ⟨_, rfl, ?_⟩⟩
    have s07 := s06.trans s7
    cases e3 : isNameB g with
    | false => exact iteT (bad (by rw [eb, e3]; rfl) H7 s07)
    | true =>
    refine iteF ?_
    refine ⟨_, rfl, q, _, 1, _, rfl, rfl, SqT.of (s07 _ _ hq), rfl, ?_⟩
    refine ⟨_, V.ty _, _, _, _, rfl, ClsV.ty _, Dd.ty (hh.mono s07), kit_ty (kit_tup h), ?_⟩
    refine ⟨_, rfl, ?_⟩
    cases e4 : isTup h with
    | false =>
      refine iteT (bad ?_ H7 s07)
      rw [eb]
      cases h with
      | tuple z => cases e4
      | _ => simp [isTupB]
    | true =>
    obtain ⟨ns, rfl⟩ := isTup_of e4
    obtain ⟨na, nx, rfl, hna, NA⟩ := hh.tupD
    have ln := NA.length
    refine iteF ?_
    refine ⟨_, rfl, q, _, 1, _, rfl, rfl, SqT.of (s07 _ _ hq), rfl, na, nx, rfl, .inr (SqT.of (s07 _ _ hna)), ?_⟩
    walk_at "rd"
    have et3 : isTupB (.tuple ns) 0 3 = decide (ns.length ≤ 3) := by
      show (decide ((0 : Int) ≤ ns.length) && decide ((ns.length : Int) ≤ 3)) = _
      rw [decide_eq_true (by omega : (0 : Int) ≤ ns.length), Bool.true_and]
      exact decide_eq_decide.mpr (by omega)
    refine ite2 (fun c4 => ?_) (fun c4 => ?_)
    · have c4 : (nx.length : Int) > 3 := of_decide_eq_true c4
      refine bad ?_ H7 s07
      rw [eb, et3, decide_eq_false (by omega)]; simp
    have l3 : ns.length ≤ 3 := by
      have : ¬ ((nx.length : Int) > 3) := fun z => c4 (decide_eq_true z)
      omega
    have eb : makerB (kd.map nameOf) (.tuple [g, .tuple ns, j]) = (ns ++ [j]).all (fun n => isAmongB n (kd.map nameOf)) := by
      rw [eb, e3, et3, decide_eq_true l3, List.all_append]
      simp
    -- each[1] + (each[2],)
    refine ⟨_, rfl, q, _, 1, _, rfl, rfl, SqT.of (s07 _ _ hq), rfl, ?_⟩
    refine ⟨_, rfl, q, _, 2, _, rfl, rfl, SqT.of (s07 _ _ hq), rfl, ?_⟩
    refine ⟨by show 1 ≤ sizeLine; rw [sizeLine_eq]; decide, fun t2 ht2 => ?_⟩
    have s08 := s07.trans (same_new ht2 (.tup [vj]))
    refine catA_all (xs := nx) (ys := [vj]) (same_new ht2 _ _ _ (s07 _ _ hna)) upd_same (by rw [sizeLine_eq]; show nx.length + 1 ≤ _; omega) (fun c H8 s8 ec8 => ?_)
    have s09 := s08.trans s8
    have eD8 : H8 D = some (.lst ((kd.map nameOf).map V.str)) := s8 _ _ (same_new ht2 _ _ _ (s7 _ _ (s6 _ _ eD)))
    have CA := (NA.append (.cons hj .nil)).mono s09
    refine ⟨c, rfl, ⟨_, SqT.of ec8⟩, fun D2 hD2 => ?_⟩
    have lc : (nx ++ [vj]).length = (ns ++ [j]).length := CA.length
    refine lc_vals walk_tup (fun i => (ns ++ [j])[i]?.map fun d => V.bl (isAmongB d (kd.map nameOf))) hD2 (by rw [sizeLine_eq, List.length_append]; show nx.length + 1 ≤ _; omega) (fun H s => SqT.of (s _ _ ec8)) (fun i y H9 H10 K1 K0 hi s9 hy k1 k0 => ?_) (fun H9 s9 e9 => ?_)
    · obtain ⟨rfl, ey⟩ := hy
      obtain ⟨d, ed, hdd⟩ := CA.get ey
      refine ⟨rfl, ?_⟩
      refine ⟨_, rfl, ?_⟩
      refine ⟨_, V.ty _, _, _, _, rfl, ClsV.ty _, Dd.ty (hdd.mono s9), kit_ty (kit_str d), ?_⟩
      refine ⟨_, rfl, ?_⟩
      cases e5 : isStr d with
      | false =>
        refine iteF ?_
        refine k1 _ _ ?_ (Same.refl _)
        rw [ed]
        cases d with
        | str z => cases e5
        | _ => rfl
      | true =>
        obtain ⟨z, rfl⟩ := isStr_of e5
        obtain rfl := (hdd.mono s9).strD
        refine iteT ?_
        refine ⟨_, rfl, _, rfl, D, _, rfl, .inl (SqL.of (s9 _ _ eD8)), rfl, flat_strs' _, ?_⟩
        refine k1 _ _ ?_ (Same.refl _)
        rw [ed, inV_strs]
        rfl
    · rw [lc, range_map' (fun d => V.bl (isAmongB d (kd.map nameOf))) (ns ++ [j])] at e9
      have e10 : ((ns ++ [j]).map fun d => V.bl (isAmongB d (kd.map nameOf))) = ((ns ++ [j]).map fun d => isAmongB d (kd.map nameOf)).map V.bl := by rw [List.map_map]; rfl
      rw [e10] at e9
      refine ⟨D2, _, rfl, SqL.of e9, ?_⟩
      refine ⟨_, rfl, ?_⟩
      have e11 : (((ns ++ [j]).map fun d => isAmongB d (kd.map nameOf)).all id) = (ns ++ [j]).all (fun n => isAmongB n (kd.map nameOf)) := by rw [List.all_map]; rfl
      rw [e11, ← eb]
      cases e12 : makerB (kd.map nameOf) (.tuple [g, .tuple ns, j]) with
      | false => exact iteT (bad e12 H9 (s09.trans s9))
      | true =>
        refine iteF ?_
        exact ⟨⟨_, rfl⟩, s09.trans s9, s9 _ _ eD8, all_take kt ed e12⟩
  obtain ⟨⟨ec, rfl⟩, s5, eD, kt⟩ := q
  rw [lm, List.take_length] at kt
  refine ⟨_, rfl, p, _, 1, _, rfl, rfl, SqT.of (s5 _ _ hp), rfl, ma, rfl, ⟨_, SqT.of (s5 _ _ hma)⟩, fun D2 hD2 => ?_⟩
  refine lc_vals walk_tup (fun i => md[i]?.map fun d => V.str (nameOf d)) hD2 (by rw [sizeLine_eq]; omega) (fun H s => SqT.of (s _ _ (s5 _ _ hma))) (fun i y H6 H7 K1 K0 hi s6 hy k1 k0 => ?_) (fun H6 s6 e6 => ?_)
  · obtain ⟨rfl, ey⟩ := hy
    obtain ⟨q, x, ns, kk, na, em, rfl, hq5, _⟩ := maker_at (MA.mono (s5.trans s6)) kt ey
    refine ⟨rfl, ?_⟩
    refine ⟨_, rfl, q, _, 0, _, rfl, rfl, SqT.of hq5, rfl, ?_⟩
    exact k1 _ _ (by rw [em]; rfl) (Same.refl _)
  rw [lm, range_map' (fun d => V.str (nameOf d)) md] at e6
  have e7 : (md.map fun d => V.str (nameOf d)) = (md.map nameOf).map V.str := by rw [List.map_map]; rfl
  rw [e7] at e6
  have s06 := s5.trans s6
  refine ⟨_, rfl, D2, _, rfl, SqL.of e6, by rw [List.length_map]; unfold scanBound; omega, fun t2 ht2 => ?_⟩
  have lo2 := once_len (md.map nameOf) []
  rw [List.length_map, List.length_nil] at lo2
  refine ⟨t2, _, rfl, upd_same, by omega, fun ys2 l2 pm2 srt2 hl2 => ?_⟩
  have sD7 := (same_new ht2 (TxO w t2 (once [] (md.map nameOf)))).trans (same_new hl2 (.lst (ys2.map V.str)))
  have s07 := s06.trans sD7
  refine ⟨l2, _, rfl, .inl (SqL.of upd_same), ?_⟩
  refine ⟨_, rfl, D2, _, rfl, .inl (SqL.of (sD7 _ _ e6)), ?_⟩
  have enod2 : (decide (V.int ((ys2.map V.str).length : Nat) = V.int (((md.map nameOf).map V.str).length : Nat))) = decide (md.map nameOf).Nodup := by
    rw [List.length_map, List.length_map, pm2.length_eq]
    refine decide_eq_decide.mpr ((Iff.intro (fun z => ?_) (fun z => by rw [z])).trans (once_nodup (md.map nameOf)))
    injection z with z
    exact Int.ofNat_inj.mp z
  have em : makersB (kd.map nameOf) (.tuple md) = decide (md.map nameOf).Nodup := by
    show (decide (md.length ≤ 24) && md.all (makerB (kd.map nameOf)) && decide (md.map nameOf).Nodup) = _
    rw [decide_eq_true l24, List.all_eq_true.mpr kt]
    rfl
  refine ⟨rfl, ?_⟩
  refine ⟨_, rfl, ?_⟩
  rw [enod2]
  cases en2 : decide (md.map nameOf).Nodup with
  | false => exact iteF (kf (by rw [es, show makersB (namesOf (.tuple kd)) (.tuple md) = false from em.trans en2]; simp) _ s07)
  | true =>
  have em1 := em.trans en2
  have ek1 := ek.trans end_
  refine iteT ?_
  refine ⟨_, rfl, _, kd, md, rfl, hd.mono s07, ek1, em1, fun l3 F H8 s8 e8 T => ?_⟩
  refine ⟨l3, _, rfl, .inl (SqL.of e8), ?_⟩
  refine ⟨_, rfl, D, _, rfl, .inl (SqL.of (s8 _ _ (sD7 _ _ (s6 _ _ eD)))), ?_⟩
  refine ⟨rfl, ?_⟩
  have q := k H8 (s07.trans s8)
  have ef : sigB (.tuple [.tuple kd, .tuple md]) = (decide (V.int ((F.map V.str).length : Nat) = V.int (((kd.map nameOf).map V.str).length : Nat))) := by
    rw [es, ek1, show makersB (namesOf (.tuple kd)) (.tuple md) = true from em1, Bool.true_and, Bool.true_and, List.length_map, List.length_map]
    show (kd.map nameOf).all (roundsM md kd.length (S0 kd)) = _
    rw [Bool.eq_iff_iff, decide_eq_true_iff, ← tells_len knd T]
    exact ⟨fun z => by rw [z], fun z => by injection z with z; exact Int.ofNat_inj.mp z⟩
  rw [ef] at q
  exact q

end

section
variable {kd md : List PyData}
/-- small within n steps -/
def JN (kd md : List PyData) : Nat → Str → Prop
  | 0, _ => False
  | n + 1, x => S0 kd x = false ∧ ∀ m ∈ ofKind md x, ∀ a ∈ needsOf m, JN kd md n a
theorem JN.succ : ∀ {n : Nat} {x : Str}, JN kd md n x → JN kd md (n + 1) x
  | 0, _, h => h.elim
  | n + 1, _, h => ⟨h.1, fun m hm a ha => JN.succ (h.2 m hm a ha)⟩
theorem JN.mono {n m : Nat} {x : Str} (l : n ≤ m) (h : JN kd md n x) : JN kd md m x := by
  induction l with
  | refl => exact h
  | step _ ih => exact ih.succ
theorem JN.max {l : List Str} (h : ∀ a ∈ l, ∃ n, JN kd md n a) : ∃ n, ∀ a ∈ l, JN kd md n a := by
  induction l with
  | nil => exact ⟨0, fun a ha => by cases ha⟩
  | cons b l ih =>
    obtain ⟨n, hn⟩ := h b (List.mem_cons_self ..)
    obtain ⟨m, hm⟩ := ih fun a ha => h a (List.mem_cons_of_mem _ ha)
    refine ⟨n + m, fun a ha => ?_⟩
    rcases List.mem_cons.mp ha with z | z
    · exact z ▸ hn.mono (by omega)
    · exact (hm a z).mono (by omega)
/-- all that a kind needs -/
def kids (md : List PyData) (x : Str) : List Str := (ofKind md x).flatMap needsOf
theorem mem_kids {x a : Str} : a ∈ kids md x ↔ ∃ m ∈ ofKind md x, a ∈ needsOf m := List.mem_flatMap
theorem JN.of {n : Nat} {x : Str} (c : S0 kd x = false) (h : ∀ a ∈ kids md x, JN kd md n a) : JN kd md (n + 1) x := ⟨c, fun m hm a ha => h a (mem_kids.mpr ⟨m, hm, ha⟩)⟩
theorem JN.kid {n : Nat} {x a : Str} (h : JN kd md (n + 1) x) (ha : a ∈ kids md x) : JN kd md n a := by
  obtain ⟨m, hm, q⟩ := mem_kids.mp ha
  exact h.2 m hm a q
/-- no way on from this one comes to an open kind, or round -/
inductive Good (kd md : List PyData) : List Str → Prop
  | mk {u : List Str} {k : Str} : S0 kd k = false → (∀ a ∈ kids md k, a ∉ u ++ [k]) → (∀ a ∈ kids md k, Good kd md (u ++ [k] ++ [a])) → Good kd md (u ++ [k])
theorem Good.inv {u : List Str} {k : Str} (h : Good kd md (u ++ [k])) : S0 kd k = false ∧ (∀ a ∈ kids md k, a ∉ u ++ [k]) ∧ ∀ a ∈ kids md k, Good kd md (u ++ [k] ++ [a]) := by
  generalize e : u ++ [k] = w at h
  cases h with
  | mk h1 h2 h3 =>
    have e2 := List.append_inj' e rfl
    obtain ⟨rfl, e3⟩ := e2
    cases e3
    exact ⟨h1, h2, h3⟩
theorem good_small {w : List Str} (h : Good kd md w) : ∀ {u : List Str} {k : Str}, w = u ++ [k] → ∃ n, JN kd md n k := by
  induction h with
  | @mk u k c h2 h3 ih =>
    intro u' k' e
    obtain ⟨rfl, e3⟩ := List.append_inj' e rfl
    cases e3
    obtain ⟨n, hn⟩ := JN.max (l := kids md k) fun a ha => ih a ha rfl
    exact ⟨n + 1, .of c hn⟩
theorem small_good : ∀ (n : Nat) {u : List Str} {k : Str}, JN kd md (n + 1) k → (∀ y ∈ u ++ [k], ¬ JN kd md n y) → Good kd md (u ++ [k]) := by
  intro n
  induction n using Nat.strongRecOn with
  | _ n ih =>
    intro u k h hu
    refine .mk h.1 (fun a ha z => hu a z (h.kid ha)) fun a ha => ?_
    have ja := h.kid ha
    have hn : n ≠ 0 := fun z => by subst z; exact ja.elim
    -- the least number of steps for a
    have least : ∀ m, m < n → JN kd md (m + 1) a → ∃ j, j < n ∧ JN kd md (j + 1) a ∧ ¬ JN kd md j a := by
      intro m
      induction m with
      | zero => exact fun l h => ⟨0, l, h, fun z => z⟩
      | succ m ihm =>
        intro l h
        by_cases c : JN kd md (m + 1) a
        · exact ihm (by omega) c
        · exact ⟨m + 1, l, h, c⟩
    obtain ⟨j, hj, h1, h0⟩ := least (n - 1) (by omega) (by rw [Nat.sub_add_cancel (by omega)]; exact ja)
    refine ih j hj h1 fun y hy => ?_
    rcases List.mem_append.mp hy with z | z
    · exact fun q => hu y z (q.mono (by omega))
    · rw [List.mem_singleton] at z
      exact z ▸ h0
theorem good_iff {x : Str} : Good kd md [x] ↔ ∃ n, JN kd md n x := by
  constructor
  · exact fun h => good_small h (u := []) rfl
  · rintro ⟨n, h⟩
    have least : ∀ m, JN kd md m x → ∃ j, JN kd md (j + 1) x ∧ ¬ JN kd md j x := by
      intro m
      induction m with
      | zero => exact fun h => h.elim
      | succ m ihm =>
        intro h
        by_cases c : JN kd md m x
        · exact ihm c
        · exact ⟨m, h, c⟩
    obtain ⟨j, h1, h0⟩ := least n h
    exact small_good j (u := []) h1 fun y hy => by
      have hy : y ∈ [x] := hy
      rw [List.mem_singleton] at hy
      exact hy ▸ h0

/-! ### the rounds come to the same -/
theorem rule_iff {S : Str → Bool} {d : PyData} : ruleK md S d = true ↔ wordOf d = "closed" ∧ ∀ a ∈ kids md (nameOf d), S a = true := by
  unfold ruleK
  rw [Bool.and_eq_true, decide_eq_true_iff, List.all_eq_true]
  refine and_congr_right fun _ => ⟨fun h a ha => ?_, fun h m hm => ?_⟩
  · obtain ⟨m, hm, q⟩ := mem_kids.mp ha
    exact List.all_eq_true.mp (h m hm) a q
  · exact List.all_eq_true.mpr fun a ha => h a (mem_kids.mpr ⟨m, hm, ha⟩)
def Le (S T : Str → Bool) : Prop := ∀ y, S y = true → T y = true
theorem rule_mono {S T : Str → Bool} {d : PyData} (l : Le S T) (h : ruleK md S d = true) : ruleK md T d = true := by
  rw [rule_iff] at h ⊢
  exact ⟨h.1, fun a ha => l a (h.2 a ha)⟩
/-- what is told true follows from what is told true -/
def Infl (kd md : List PyData) (S : Str → Bool) : Prop := ∀ d ∈ kd, S (nameOf d) = true → ruleK md S d = true
theorem same_kind (nd : (kd.map nameOf).Nodup) {d e : PyData} (hd : d ∈ kd) (he : e ∈ kd) (h : nameOf e = nameOf d) : e = d := by
  obtain ⟨i, hi, rfl⟩ := List.getElem_of_mem he
  obtain ⟨j, hj, rfl⟩ := List.getElem_of_mem hd
  have := nodup_at nd (i := i) (j := j) (a := nameOf kd[j]) (by rw [List.getElem?_map, List.getElem?_eq_getElem hi, Option.map_some, h]) (by rw [List.getElem?_map, List.getElem?_eq_getElem hj, Option.map_some])
  subst this
  rfl
theorem step_le {S : Str → Bool} {d : PyData} (hd : d ∈ kd) (I : Infl kd md S) : Le S (stepK md S d) := fun y h => by
  unfold stepK
  by_cases e : y = nameOf d
  · rw [if_pos e]; exact I d hd (e ▸ h)
  · rw [if_neg e]; exact h
theorem step_infl (nd : (kd.map nameOf).Nodup) {S : Str → Bool} {d : PyData} (hd : d ∈ kd) (I : Infl kd md S) : Infl kd md (stepK md S d) := fun e he h => by
  have l := step_le hd I
  unfold stepK at h
  by_cases q : nameOf e = nameOf d
  · have := same_kind nd hd he q
    subst this
    simp only [if_true] at h
    exact rule_mono l h
  · simp only [if_neg q] at h
    exact rule_mono l (I e he h)
theorem fold_infl (nd : (kd.map nameOf).Nodup) : ∀ {l : List PyData} {S : Str → Bool}, (∀ d ∈ l, d ∈ kd) → Infl kd md S → Infl kd md (l.foldl (stepK md) S) ∧ Le S (l.foldl (stepK md) S)
  | [], S, _, I => ⟨I, fun _ h => h⟩
  | d :: l, S, h, I => by
    have hd := h d (List.mem_cons_self ..)
    obtain ⟨h1, h2⟩ := fold_infl nd (l := l) (fun x hx => h x (List.mem_cons_of_mem _ hx)) (step_infl nd hd I)
    exact ⟨h1, fun y hy => h2 y (step_le hd I y hy)⟩
theorem fold_closed (nd : (kd.map nameOf).Nodup) : ∀ {l : List PyData} {S T : Str → Bool}, (∀ d ∈ l, d ∈ kd) → Infl kd md S → Le T S → (∀ y ∈ kd.map nameOf, l.foldl (stepK md) S y = true → T y = true) → ∀ d ∈ l, ruleK md T d = true → T (nameOf d) = true
  | [], _, _, _, _, _, _, d, hd, _ => by cases hd
  | e :: l, S, T, h, I, lt, f, d, hd, r => by
    have he := h e (List.mem_cons_self ..)
    have hl := fun x hx => h x (List.mem_cons_of_mem _ hx)
    have I1 := step_infl nd he I
    have L1 := step_le he I
    rcases List.mem_cons.mp hd with z | z
    · subst z
      refine f (nameOf d) (List.mem_map.mpr ⟨d, he, rfl⟩) ((fold_infl nd hl I1).2 (nameOf d) ?_)
      show stepK md S d (nameOf d) = true
      unfold stepK
      rw [if_pos rfl]
      exact rule_mono lt r
    · exact fold_closed nd hl I1 (fun y hy => L1 y (lt y hy)) f d z r
theorem rounds_infl (nd : (kd.map nameOf).Nodup) : ∀ n, Infl kd md (roundsK kd md n fun _ => false)
  | 0 => fun d _ h => by cases h
  | n + 1 => (fold_infl nd (fun _ h => h) (rounds_infl nd n)).1
theorem rounds_le (nd : (kd.map nameOf).Nodup) (n : Nat) : Le (roundsK kd md n fun _ => false) (roundsK kd md (n + 1) fun _ => false) := (fold_infl nd (fun _ h => h) (rounds_infl nd n)).2
theorem rounds_mono (nd : (kd.map nameOf).Nodup) {i n : Nat} (l : i ≤ n) : Le (roundsK kd md i fun _ => false) (roundsK kd md n fun _ => false) := by
  induction l with
  | refl => exact fun _ h => h
  | step _ ih => exact fun y h => rounds_le nd _ y (ih y h)
theorem filter_grow {S T : Str → Bool} (l : Le S T) {y : Str} (hs : S y = false) (ht : T y = true) : ∀ {ks : List Str}, y ∈ ks → (ks.filter S).length < (ks.filter T).length := by
  have le : ∀ ks : List Str, (ks.filter S).length ≤ (ks.filter T).length := fun ks => by
    induction ks with
    | nil => exact Nat.le_refl _
    | cons k ks ih =>
      rw [List.filter_cons, List.filter_cons]
      cases e : S k with
      | true => rw [l k e]; simpa using ih
      | false => cases T k <;> simp <;> omega
  intro ks
  induction ks with
  | nil => intro h; cases h
  | cons k ks ih =>
    intro h
    rw [List.filter_cons, List.filter_cons]
    by_cases e : k = y
    · subst e
      rw [hs, ht]
      have := le ks
      simp
      omega
    · have := ih ((List.mem_cons.mp h).resolve_left fun z => e z.symm)
      cases e2 : S k with
      | true => rw [l k e2]; simpa using this
      | false => cases T k <;> simp <;> omega
theorem rounds_closed (nd : (kd.map nameOf).Nodup) (n : Nat) : (∃ i, i ≤ n ∧ ∀ d ∈ kd, ruleK md (roundsK kd md i fun _ => false) d = true → (roundsK kd md i fun _ => false) (nameOf d) = true) ∨ n ≤ ((kd.map nameOf).filter (roundsK kd md n fun _ => false)).length := by
  induction n with
  | zero => exact .inr (Nat.zero_le _)
  | succ n ih =>
    rcases ih with ⟨i, hi, h⟩ | h
    · exact .inl ⟨i, by omega, h⟩
    · by_cases c : ∀ y ∈ kd.map nameOf, (roundsK kd md (n + 1) fun _ => false) y = true → (roundsK kd md n fun _ => false) y = true
      · exact .inl ⟨n, by omega, fold_closed nd (fun _ h => h) (rounds_infl nd n) (fun _ h => h) c⟩
      · right
        have ⟨y, hy⟩ := Classical.not_forall.mp c
        have ⟨hy1, hy2⟩ := Classical.not_imp.mp hy
        have ⟨ht, hs⟩ := Classical.not_imp.mp hy2
        have := filter_grow (rounds_le nd n) (Bool.eq_false_iff.mpr hs) ht hy1
        omega
theorem filter_all {S : Str → Bool} : ∀ {ks : List Str}, ks.length ≤ (ks.filter S).length → ∀ y ∈ ks, S y = true
  | [], _, _, h => by cases h
  | k :: ks, l, y, h => by
    rw [List.filter_cons] at l
    have l2 := List.length_filter_le S ks
    cases e : S k with
    | false => rw [e] at l; simp at l; omega
    | true =>
      rw [e] at l
      rcases List.mem_cons.mp h with z | z
      · exact z ▸ e
      · exact filter_all (by simpa using l) y z
theorem word_closed {d : PyData} (h : kindB d = true) : (decide (wordOf d = "open")) = false ↔ wordOf d = "closed" := by
  obtain ⟨x, b, rfl, _, hb⟩ := kindB_pair h
  obtain ⟨b, rfl, hm⟩ := among_str hb
  show decide (b = "open") = false ↔ b = "closed"
  rcases List.mem_cons.mp hm with z | z
  · subst z; decide
  · rw [List.mem_singleton] at z
    subst z; decide
theorem small_iff (nd : (kd.map nameOf).Nodup) (kb : ∀ d ∈ kd, kindB d = true) (mb : ∀ m ∈ md, ∀ a ∈ needsOf m, a ∈ kd.map nameOf) {x : Str} (hx : x ∈ kd.map nameOf) : smallB kd md x = true ↔ ∃ n, JN kd md n x := by
  have kidsIn : ∀ {y a : Str}, a ∈ kids md y → a ∈ kd.map nameOf := fun h => by
    obtain ⟨m, hm, q⟩ := mem_kids.mp h
    exact mb m (List.mem_filter.mp hm).1 _ q
  constructor
  · have one : ∀ {S : Str → Bool} {d : PyData}, d ∈ kd → (∀ y ∈ kd.map nameOf, S y = true → ∃ n, JN kd md n y) → ∀ y ∈ kd.map nameOf, stepK md S d y = true → ∃ n, JN kd md n y := by
      intro S d hd hS y hy h
      unfold stepK at h
      by_cases e : y = nameOf d
      · rw [if_pos e, rule_iff] at h
        obtain ⟨n, hn⟩ := JN.max (l := kids md (nameOf d)) fun a ha => hS a (kidsIn ha) (h.2 a ha)
        refine ⟨n + 1, ?_⟩
        rw [e]
        exact .of (by rw [S0_at nd hd]; exact (word_closed (kb d hd)).mpr h.1) hn
      · rw [if_neg e] at h
        exact hS y hy h
    have fold : ∀ {l : List PyData} {S : Str → Bool}, (∀ d ∈ l, d ∈ kd) → (∀ y ∈ kd.map nameOf, S y = true → ∃ n, JN kd md n y) → ∀ y ∈ kd.map nameOf, l.foldl (stepK md) S y = true → ∃ n, JN kd md n y := by
      intro l
      induction l with
      | nil => exact fun _ h => h
      | cons d l ih => exact fun h hS => ih (fun x hx => h x (List.mem_cons_of_mem _ hx)) (one (h d (List.mem_cons_self ..)) hS)
    have rounds : ∀ n, ∀ y ∈ kd.map nameOf, roundsK kd md n (fun _ => false) y = true → ∃ n, JN kd md n y := by
      intro n
      induction n with
      | zero => exact fun _ _ h => by cases h
      | succ n ih => exact fold (fun _ h => h) ih
    exact rounds _ x hx
  · rintro ⟨n, h⟩
    have low : ∀ {S : Str → Bool}, (∀ d ∈ kd, ruleK md S d = true → S (nameOf d) = true) → ∀ n y, y ∈ kd.map nameOf → JN kd md n y → S y = true := by
      intro S cl n
      induction n with
      | zero => exact fun _ _ h => h.elim
      | succ n ih =>
        intro y hy h
        obtain ⟨d, hd, rfl⟩ := List.mem_map.mp hy
        refine cl d hd (rule_iff.mpr ⟨(word_closed (kb d hd)).mp ((S0_at nd hd).symm.trans h.1), fun a ha => ih a (kidsIn ha) (h.kid ha)⟩)
    rcases rounds_closed (md := md) nd kd.length with ⟨i, hi, cl⟩ | c
    · exact rounds_mono nd hi x (low cl n x hx h)
    · exact filter_all (by rw [List.length_map]; exact c) x hx
end

section
variable {P : Program} {w : World} {K : PySem.W.Frag} {mg : Str → Option Value} {base : Heap}

theorem un65 {k : Nat} {A : Around} (r : Room k A) : A.units + 65 < cLine := by have := r.un; omega
/-- _law_makers(sig, kind): a new list of the makers, each with what it needs -/
def spLMakers : Sp := fun vs H Q _ => ∃ (v : V) (kd md : List PyData) (x : Str), vs = [v, .str x] ∧ Dd H v (.tuple [.tuple kd, .tuple md]) ∧ makersB (kd.map nameOf) (.tuple md) = true ∧
  ∀ (l : Addr) (ys : List V) (H' : Hp), Same H H' → H l = none → H' l = some (.lst ys) → MkL H' ys (ofKind md x) → Q (.ref l) H'
theorem sc_makers : FnScope ["sig", "kind", "name", "args", "own"] ["sig", "kind"] (defScope s_makers) := ⟨rfl, rfl, rfl, by decide +kernel, rfl, by decide +kernel, by decide +kernel⟩
theorem ok_makers (D : Df K mg "_law_makers" s_makers) : Gd P w K mg base CX0 1 "_law_makers" ["sig", "kind"] spLMakers := by
  refine gd_of D (fun _ _ _ _ _ _ us hl => match us, hl with | [_, _], _ => rfl) fun f fd F => ?_
  refine fun_q F sc_makers (fun vs H Q E h => by obtain ⟨v, kd, md, x, rfl, _⟩ := h; rfl) (fun cdv A outer s H vs Q E hr hq h => ?_)
  obtain ⟨v, kd, md, x, rfl, hd, k2, k⟩ := h
  refine ⟨_, (pss_one (ps_ret (pe_lc (own := [("name", 2), ("args", 3), ("own", 4)]) (g := (gTup K 3 (gCons (gName 2) (gCons (gName 3) (gCons (gName 4) gNil))))) rfl sc_makers.nd (pi_tup (pe_ix ix_tup (pv 0) pe_int (fun _ _ => rfl))) (blkOk_by (own := [("name", 2), ("args", 3), ("own", 4)]) (N := ["sig", "kind", "name", "args", "own"]) (sc := defScope s_makers) (by decide +kernel)) (fun _ _ _ _ _ => (pg_tup rfl (pgs_cons (pg_name (i := 2) sc_makers.nd rfl (Or.inl rfl)) (pgs_cons (pg_name (i := 3) sc_makers.nd rfl (Or.inl rfl)) (pgs_cons (pg_name (i := 4) sc_makers.nd rfl (Or.inl rfl)) pgs_nil))))) (fun _ _ _ _ _ => (pts_one (pt_cmpR op_eq (pv 4) (pv 1) (nomark _)))) (fun _ _ _ _ _ => (pe_tup (pa_cons (pv 2) (pa_cons (pv 3) pa_nil))))))), ?_⟩
  obtain ⟨sa, u, v, rfl, hsa, hk, hm⟩ := dd2 hd
  obtain ⟨ma, mx, rfl, hma, MA⟩ := hm.tupD
  obtain ⟨l24, mb, mnd⟩ := makersB_parts k2
  have lm := MA.length
  refine ⟨_, rfl, sa, _, 1, _, rfl, rfl, SqT.of hsa, rfl, ma, rfl, ⟨_, SqT.of hma⟩, fun D hD => ?_⟩
  refine lc_it walk_tup (fun i H2 => Same H H2 ∧ ∃ ys, H2 D = some (.lst ys) ∧ MkL H2 ys (ofKind (md.take i) x)) ⟨same_new hD _, [], upd_same, .nil⟩ (fun i H2 _ p => SqT.of (p.1 _ _ hma)) (fun i y H2p H2 hi p hy => ?_) (fun H2 p => ?_)
  · obtain ⟨rfl, ey⟩ := hy
    obtain ⟨s2, ys, e2, M⟩ := p
    obtain ⟨q, nm, ns, kk, na, em, rfl, hq, hna, _⟩ := maker_at (MA.mono s2) mb ey
    refine ⟨q, _, rfl, SqT.of hq, rfl, _, _, rfl, _, _, rfl, _, _, rfl, rfl, rfl, ?_⟩
    refine ⟨_, rfl, _, rfl, rfl, _, rfl, ?_⟩
    rw [dec_str, ofKind_take em]
    show if decide (kk = x) = true then _ else _
    by_cases c : kk = x
    · rw [if_pos (decide_eq_true c), if_pos (show kindOf (.tuple [.str nm, .tuple ns, .str kk]) = x from c)]
      refine ⟨_, rfl, _, rfl, by show 2 ≤ sizeLine; rw [sizeLine_eq]; decide, fun t ht => ?_⟩
      have e3 : upd H2 t (.tup [.str nm, .ref na]) D = some (.lst ys) := same_new ht _ _ _ e2
      have s3 : Same H2 (upd H2 t (.tup [.str nm, .ref na])) := same_new ht _
      have nDt : t ≠ D := fun z => by rw [z, e2] at ht; cases ht
      have ly : ys.length ≤ 24 := by
        rw [M.len]
        have h1 := List.length_filter_le (fun m => decide (kindOf m = x)) (md.take i)
        have h2 := List.length_take_le i md
        unfold ofKind
        omega
      refine ⟨ys, e3, by rw [sizeLine_eq]; omega, same_put (s2.trans s3) hD, _, upd_same, ?_⟩
      have keep : ∀ b o, upd H2 t (.tup [.str nm, .ref na]) b = some o → (∃ xs, o = .tup xs) → upd (upd H2 t (.tup [.str nm, .ref na])) D (.lst (ys ++ [.ref t])) b = some o := fun b o e ⟨xs, eo⟩ => by
        rw [upd_ne fun z => by rw [z, e3, eo] at e; cases e]
        exact e
      refine (M.mono fun b o e z => keep b o (s3 _ _ e) z).snoc ⟨t, .str nm, na, rfl, keep _ _ upd_same ⟨_, rfl⟩, keep _ _ (s3 _ _ hna) ⟨_, rfl⟩⟩
    · rw [if_neg (by simpa using c), if_neg (show ¬ kindOf (.tuple [.str nm, .tuple ns, .str kk]) = x from c)]
      exact ⟨s2, ys, e2, M⟩
  · obtain ⟨s2, ys, e2, M⟩ := p
    rw [lm, List.take_length] at M
    exact k D ys H2 s2 hD e2 M

theorem name_ok {x : Str} (h : nameS x = true) : shB 0 (.str x) = true := by
  unfold nameS at h
  simp only [Bool.and_eq_true, decide_eq_true_iff] at h
  obtain ⟨⟨⟨_, h2⟩, _⟩, h4⟩ := h
  show (decide (x.length ≤ 100) && PyData.strOk x) = true
  rw [decide_eq_true (by omega), Bool.true_and]
  unfold PyData.strOk
  rw [← Array.all_toList]
  rw [List.all_eq_true] at h4 ⊢
  intro c hc
  have m := of_decide_eq_true (h4 c hc)
  have all : ∀ c ∈ signs.cps.toList, c < 0x110000 := by decide +kernel
  exact decide_eq_true (all c m)
theorem kind_sh {d : PyData} (h : kindB d = true) : shB 1 d = true := by
  obtain ⟨x, b, rfl, hx, hb⟩ := kindB_pair h
  obtain ⟨b, rfl, hm⟩ := among_str hb
  refine shB_of (show 2 ≤ 1000 by decide) fun d hd => ?_
  rcases List.mem_cons.mp hd with z | z
  · exact z ▸ name_ok hx
  · rw [List.mem_singleton] at z
    subst z
    rcases List.mem_cons.mp hm with q | q
    · subst q; decide +kernel
    · rw [List.mem_singleton] at q
      subst q; decide +kernel
theorem name_of_kind {kd : List PyData} (kb : ∀ d ∈ kd, kindB d = true) {x : Str} (h : x ∈ kd.map nameOf) : nameS x = true := by
  obtain ⟨d, hd, rfl⟩ := List.mem_map.mp h
  obtain ⟨x, b, rfl, hx, hb⟩ := kindB_pair (kb d hd)
  exact hx
theorem eqv_pair {x y b c : Str} : PyData.eqv (.tuple [.str x, .str b]) (.tuple [.str y, .str c]) = (decide (x = y) && decide (b = c)) := by
  have e : ∀ a b : Str, (a == b) = decide (a = b) := fun a b => by rw [Bool.eq_iff_iff, beq_iff_eq, decide_eq_true_iff]
  simp [PyData.eqv, PyData.eqvAll, e]
theorem open_any {kd : List PyData} (kb : ∀ d ∈ kd, kindB d = true) (x : Str) : (kd.any fun z => PyData.eqv z (.tuple [.str x, .str "open"])) = S0 kd x := by
  unfold S0
  induction kd with
  | nil => rfl
  | cons d ds ih =>
    rw [List.any_cons, List.any_cons, ih fun x hx => kb x (List.mem_cons_of_mem _ hx)]
    obtain ⟨n, b, rfl, hx, hb⟩ := kindB_pair (kb d (List.mem_cons_self ..))
    obtain ⟨b, rfl, hm⟩ := among_str hb
    rw [eqv_pair]
    rfl
def spIsOpen : Sp := fun vs H Q _ => ∃ (v : V) (kd : List PyData) (m : PyData) (x : Str), vs = [v, .str x] ∧ Dd H v (.tuple [.tuple kd, m]) ∧ kindsB (.tuple kd) = true ∧ nameS x = true ∧ ∀ H', Same H H' → Q (.bl (S0 kd x)) H'
theorem sc_is_open : FnScope ["sig", "kind"] ["sig", "kind"] (defScope s_is_open) := ⟨rfl, rfl, rfl, by decide +kernel, rfl, by decide +kernel, by decide +kernel⟩
theorem ok_is_open (D : Df K mg "_law_is_open" s_is_open) : Gd P w K mg base CX0 1 "_law_is_open" ["sig", "kind"] spIsOpen := by
  refine gd_of D (fun _ _ _ _ _ _ us hl => match us, hl with | [_, _], _ => rfl) fun f fd F => ?_
  refine fun_q F sc_is_open (fun vs H Q E h => by obtain ⟨v, kd, md, x, rfl, _⟩ := h; rfl) (fun cdv A outer s H vs Q E hr hq h => ?_)
  obtain ⟨v, kd, m, x, rfl, hd, k1, nx, k⟩ := h
  refine ⟨_, (pss_one (ps_ret (pe_cmpR (op_inDT (un65 hr)) (pe_tup (pa_cons (pv 1) (pa_cons pe_str pa_nil))) (pe_ix ix_tup (pv 0) pe_int (fun _ _ => rfl)) (by rfl)))), ?_⟩
  obtain ⟨sa, u, v, rfl, hsa, hk, hm⟩ := dd2 hd
  obtain ⟨ka, kx, rfl, hka, KA⟩ := hk.tupD
  obtain ⟨l1, l8, kb, knd⟩ := kindsB_parts k1
  refine ⟨_, rfl, by show 2 ≤ sizeLine; rw [sizeLine_eq]; decide, fun t ht => ?_⟩
  have s1 : Same H (upd H t (.tup [.str x, .str "open"])) := same_new ht _
  refine ⟨_, rfl, sa, _, 0, _, rfl, rfl, SqT.of (s1 _ _ hsa), rfl, ?_⟩
  have sh1 : shB 1 (.tuple [.str x, .str "open"]) = true := shB_of (show 2 ≤ 1000 by decide) fun d hd => by
    rcases List.mem_cons.mp hd with z | z
    · exact z ▸ name_ok nx
    · rw [List.mem_singleton] at z
      subst z; decide +kernel
  have sh2 : shB 2 (.tuple kd) = true := shB_of (by omega) fun d hd => kind_sh (kb d hd)
  refine ⟨.tuple [.str x, .str "open"], kd, .tup (SqT.of upd_same) (.cons (.str x) (.cons (.str _) .nil)), Dd.dp sh2 (hk.mono s1), shB_shaped sh1 (by decide), shB_shaped sh2 (by decide), ?_⟩
  rw [open_any kb]
  exact k _ s1

end

/-- ways, as they stand in the heap -/
inductive WL (H : Hp) : List V → List (List Str) → Prop
  | nil : WL H [] []
  | cons {t : Addr} {vs : List V} {w : List Str} {ws : List (List Str)} : H t = some (.tup (w.map V.str)) → WL H vs ws → WL H (.ref t :: vs) (w :: ws)
theorem WL.mono {H H' : Hp} (s : ∀ b xs, H b = some (.tup xs) → H' b = some (.tup xs)) : ∀ {vs : List V} {ws : List (List Str)}, WL H vs ws → WL H' vs ws
  | _, _, .nil => .nil
  | _, _, .cons e t => .cons (s _ _ e) (t.mono s)
theorem WL.snoc {H : Hp} {t : Addr} {w : List Str} (h : H t = some (.tup (w.map V.str))) : ∀ {vs : List V} {ws : List (List Str)}, WL H vs ws → WL H (vs ++ [.ref t]) (ws ++ [w])
  | _, _, .nil => .cons h .nil
  | _, _, .cons e r => .cons e (r.snoc h)
theorem WL.len {H : Hp} : ∀ {vs : List V} {ws : List (List Str)}, WL H vs ws → vs.length = ws.length
  | _, _, .nil => rfl
  | _, _, .cons _ r => congrArg Nat.succ r.len
theorem WL.last {H : Hp} : ∀ {vs : List V} {ws : List (List Str)}, WL H vs ws → ws ≠ [] → ∃ vs' t ws' w, vs = vs' ++ [.ref t] ∧ ws = ws' ++ [w] ∧ WL H vs' ws' ∧ H t = some (.tup (w.map V.str))
  | _, _, .nil, h => absurd rfl h
  | _, _, .cons (w := w) e .nil, _ => ⟨[], _, [], w, rfl, rfl, .nil, e⟩
  | _, _, .cons e (.cons e2 r), _ => by
    obtain ⟨vs', t, ws', w, h1, h2, h3, h4⟩ := (WL.cons e2 r).last (by simp)
    exact ⟨_ :: vs', t, _ :: ws', w, by rw [h1]; rfl, by rw [h2]; rfl, .cons e h3, h4⟩
theorem WL.dp {K : PySem.W.Frag} {H : Hp} : ∀ {vs : List V} {ws : List (List Str)}, WL H vs ws → DpAll K H vs (ws.map fun w => .tuple (w.map PyData.str))
  | _, _, .nil => .nil
  | _, _, .cons (w := w) e r => .cons (.tup (SqT.of e) (strs_dp w)) r.dp
where strs_dp {K : PySem.W.Frag} {H : Hp} : ∀ w : List Str, DpAll K H (w.map V.str) (w.map PyData.str)
  | [] => .nil
  | x :: w => .cons (.str x) (strs_dp w)
/-- ways that are all of the kinds, no kind twice; the deeper ones lie above -/
structure Stk (ks : List Str) (st : List (List Str)) : Prop where
  nd : ∀ w ∈ st, w.Nodup
  sub : ∀ w ∈ st, ∀ y ∈ w, y ∈ ks
  ix : ∀ (i : Nat) (w : List Str), st[i]? = some w → i < 72 * w.length
def mu (st : List (List Str)) : Nat := (st.map fun w => 73 ^ (9 - w.length)).sum
theorem mu_append (a b : List (List Str)) : mu (a ++ b) = mu a + mu b := by unfold mu; rw [List.map_append, List.sum_append]
theorem Stk.few {ks : List Str} {rest : List (List Str)} {w : List Str} (S : Stk ks (rest ++ [w])) (h8 : ks.length ≤ 8) : w.length ≤ 8 ∧ 1 ≤ w.length ∧ rest.length < 72 * w.length := by
  have h1 := sub_len (S.nd w (by simp)) (S.sub w (by simp))
  have h2 := S.ix rest.length w (by simp)
  omega
theorem Stk.turn {ks : List Str} {rest : List (List Str)} {w : List Str} (S : Stk ks (rest ++ [w])) (h8 : ks.length ≤ 8) {cs : List Str} (l : cs.length ≤ 72) (n : ∀ a ∈ cs, a ∉ w) (m : ∀ a ∈ cs, a ∈ ks) :
    Stk ks (rest ++ cs.map fun a => w ++ [a]) ∧ mu (rest ++ cs.map fun a => w ++ [a]) < mu (rest ++ [w]) := by
  obtain ⟨w8, w1, rl⟩ := S.few h8
  have ndw : ∀ a ∈ cs, (w ++ [a]).Nodup := fun a ha => by
    rw [List.nodup_append]
    exact ⟨S.nd w (by simp), List.nodup_cons.mpr ⟨by simp, List.nodup_nil⟩, fun b hb c hc e => n a ha (by rw [List.mem_singleton] at hc; subst hc; subst e; exact hb)⟩
  have subw : ∀ a ∈ cs, ∀ y ∈ w ++ [a], y ∈ ks := fun a ha y hy => by
    rcases List.mem_append.mp hy with z | z
    · exact S.sub w (by simp) y z
    · rw [List.mem_singleton] at z
      exact z ▸ m a ha
  refine ⟨⟨fun v hv => ?_, fun v hv => ?_, fun i v hv => ?_⟩, ?_⟩
  · rcases List.mem_append.mp hv with z | z
    · exact S.nd v (List.mem_append_left _ z)
    · obtain ⟨a, ha, rfl⟩ := List.mem_map.mp z
      exact ndw a ha
  · rcases List.mem_append.mp hv with z | z
    · exact S.sub v (List.mem_append_left _ z)
    · obtain ⟨a, ha, rfl⟩ := List.mem_map.mp z
      exact subw a ha
  · by_cases c : i < rest.length
    · rw [List.getElem?_append_left c] at hv
      exact S.ix i v (by rw [List.getElem?_append_left c]; exact hv)
    · rw [List.getElem?_append_right (by omega), List.getElem?_map] at hv
      obtain ⟨a, ha, rfl⟩ := Option.map_eq_some_iff.mp hv
      have := (List.getElem?_eq_some_iff.mp ha).1
      rw [List.length_append]
      simp only [List.length_singleton]
      omega
  · rw [mu_append, mu_append]
    have e1 : mu [w] = 73 ^ (9 - w.length) := by simp [mu]
    have e2 : mu (cs.map fun a => w ++ [a]) = cs.length * 73 ^ (8 - w.length) := by
      clear n m ndw subw l
      unfold mu
      induction cs with
      | nil => simp
      | cons a cs ih =>
        have e : 9 - (w ++ [a]).length = 8 - w.length := by rw [List.length_append, List.length_singleton]; omega
        rw [List.map_cons, List.map_cons, List.sum_cons, ih, e, List.length_cons, Nat.add_mul]
        omega
    have e3 : 73 ^ (9 - w.length) = 73 * 73 ^ (8 - w.length) := by
      rw [show 9 - w.length = (8 - w.length) + 1 by omega, Nat.pow_succ]
      omega
    have p : 0 < 73 ^ (8 - w.length) := Nat.pow_pos (by decide)
    rw [e1, e2, e3]
    have := Nat.mul_le_mul_right (73 ^ (8 - w.length)) l
    omega
theorem kids_len {md : List PyData} {ks : List Str} {x : Str} (l : md.length ≤ 24) (mb : ∀ m ∈ md, makerB ks m = true) : (kids md x).length ≤ 72 := by
  unfold kids
  have h : ∀ ms : List PyData, (∀ m ∈ ms, (needsOf m).length ≤ 3) → (ms.flatMap needsOf).length ≤ 3 * ms.length := fun ms => by
    induction ms with
    | nil => intro _; simp
    | cons m ms ih =>
      intro h
      have h1 := h m (List.mem_cons_self ..)
      have h2 := ih fun x hx => h x (List.mem_cons_of_mem _ hx)
      rw [List.flatMap_cons, List.length_append, List.length_cons]
      omega
  have h1 := h (ofKind md x) fun m hm => (needs_ok (mb m (List.mem_filter.mp hm).1)).1
  have h2 := List.length_filter_le (fun m => decide (kindOf m = x)) md
  unfold ofKind at h1 ⊢
  omega
theorem map_last {α : Type} {xs ys : List α} {y : α} (h : ys = xs ++ [y]) : ys[ys.length - 1]? = some y ∧ ys.dropLast = xs := by
  subst h
  simp
theorem nonempty_last {α : Type} : ∀ {l : List α}, 1 ≤ l.length → ∃ u k, l = u ++ [k] := fun {l} h => by
  cases e : l.reverse with
  | nil => rw [List.reverse_eq_nil_iff] at e; subst e; simp at h
  | cons k u => exact ⟨u.reverse, k, by rw [← List.reverse_reverse l, e, List.reverse_cons]⟩
theorem tup_put {H : Hp} {a b : Addr} {vs ws xs : List V} (e : H a = some (.lst vs)) (q : H b = some (.tup xs)) : upd H a (.lst ws) b = some (.tup xs) := by
  rw [upd_ne (fun z => by rw [z, e] at q; cases q)]
  exact q
theorem MkL.put {H : Hp} {a : Addr} {vs ws ys : List V} {ms : List PyData} (e : H a = some (.lst vs)) (M : MkL H ys ms) : MkL (upd H a (.lst ws)) ys ms := M.mono fun b o q ⟨xs, eo⟩ => by subst eo; exact tup_put e q

section
variable {P : Program} {w : World} {K : PySem.W.Frag} {mg : Str → Option Value} {base : Heap}

def spLSmall : Sp := fun vs H Q _ => ∃ (v : V) (kd md : List PyData) (x : Str), vs = [v, .str x] ∧ Dd H v (.tuple [.tuple kd, .tuple md]) ∧ kindsB (.tuple kd) = true ∧ makersB (kd.map nameOf) (.tuple md) = true ∧ x ∈ kd.map nameOf ∧
  ∀ H', Same H H' → Q (.bl (smallB kd md x)) H'
theorem sc_lis_small : FnScope ["sig", "kind", "ways", "way", "name", "args", "arg"] ["sig", "kind"] (defScope s_lis_small) := ⟨rfl, rfl, rfl, by decide +kernel, rfl, by decide +kernel, by decide +kernel⟩
theorem ok_lis_small (D : Df K mg "_law_is_small" s_lis_small) (G1 : Gd P w K mg base CX0 1 "_law_is_open" ["sig", "kind"] spIsOpen) (G2 : Gd P w K mg base CX0 1 "_law_makers" ["sig", "kind"] spLMakers) : Gd P w K mg base CX0 2 "_law_is_small" ["sig", "kind"] spLSmall := by
  refine gd_of D (fun _ _ _ _ _ _ us hl => match us, hl with | [_, _], _ => rfl) fun f fd F => ?_
  refine fun_q F sc_lis_small (fun vs H Q E h => by obtain ⟨v, kd, md, x, rfl, _⟩ := h; rfl) (fun cdv A outer s H vs Q E hr hq h => ?_)
  obtain ⟨v, kd, md, x, rfl, hd, k1, k2, hx, k⟩ := h
  refine ⟨_, (pss_cons (ps_set (i := 2) sc_lis_small.nd rfl (Or.inl rfl) (pe_lst (pa_cons (pe_tup (pa_cons (pv 1) pa_nil)) pa_nil)))
      (pss_cons (ps_while PassesOwn.never (pt_cmpR (op_neD hr.units) (pv 2) (pe_lst pa_nil) (nomark _)) (pss_cons (ps_set (i := 3) sc_lis_small.nd rfl (Or.inl rfl) (pe_bm0 PySem.F.plainAttrs_list PySem.F.slot_list_pop PySem.F.type_list_pop mt_pop (pv 2)))
      (pss_cons (ps_if (pt_val (pe_g G1 hr hq (pa_cons (pv 0) (pa_cons (pe_ix ix_tup (pv 3) (pe_un un_neg pe_int) (fun _ _ => rfl)) pa_nil)))) (pss_one (ps_ret pe_bl)) pss_nil)
      (pss_one (ps_for PassesOwn.never rfl (pi_list (pe_g G2 hr hq (pa_cons (pv 0) (pa_cons (pe_ix ix_tup (pv 3) (pe_un un_neg pe_int) (fun _ _ => rfl)) pa_nil)))) (pg_tup rfl (pgs_cons (pg_name (i := 4) sc_lis_small.nd rfl (Or.inl rfl)) (pgs_cons (pg_name (i := 5) sc_lis_small.nd rfl (Or.inl rfl)) pgs_nil))) (pss_one (ps_for PassesOwn.never rfl (pi_tup (pv 5)) (pg_name (i := 6) sc_lis_small.nd rfl (Or.inl rfl)) (pss_cons (ps_if (pt_cmpR op_in_seq (pv 6) (pv 3) (by rfl)) (pss_one (ps_ret pe_bl)) pss_nil)
      (pss_one (ps_expr (pe_bm PySem.F.plainAttrs_list PySem.F.slot_list_append PySem.F.type_list_append mt_append (pv 2) (pa_cons (pe_op op_catA (pv 3) (pe_tup (pa_cons (pv 6) pa_nil))) pa_nil))))))))))))
      (pss_one (ps_ret pe_bl)))), ?_⟩
  obtain ⟨l1, l8, kb, knd⟩ := kindsB_parts k1
  obtain ⟨l24, mb, mnd⟩ := makersB_parts k2
  have iff := (small_iff (md := md) knd kb (fun m hm => (needs_ok (mb m hm)).2) hx).trans good_iff.symm
  have k8 : (kd.map nameOf).length ≤ 8 := by rw [List.length_map]; exact l8
  have fin0 : ¬ Good kd md [x] → ∀ H', Same H H' → Q (.bl false) H' := fun n H' s => by
    have q := k H' s
    rw [Bool.eq_false_iff.mpr fun z => n (iff.mp z)] at q
    exact q
  have fin1 : Good kd md [x] → ∀ H', Same H H' → Q (.bl true) H' := fun g H' s => by
    have q := k H' s
    rw [iff.mpr g] at q
    exact q
  obtain ⟨sa, u, v, rfl, hsa, hk, hm⟩ := dd2 hd
  refine ⟨_, rfl, by show 1 ≤ sizeLine; rw [sizeLine_eq]; decide, fun t0 ht0 => ?_⟩
  refine ⟨by show 1 ≤ sizeLine; rw [sizeLine_eq]; decide, fun a ha => ?_⟩
  have ha0 : H a = none := by
    by_cases e : a = t0
    · exact e ▸ ht0
    · rw [upd_ne e] at ha; exact ha
  have nt0 : t0 ≠ a := fun z => by rw [← z, upd_same] at ha; cases ha
  refine ⟨fun m σ H1 => ∃ n3 n4 n5 n6 st vs, σ = [some (.ref sa), some (.str x), some (.ref a), n3, n4, n5, n6] ∧ m = mu st ∧ Same H H1 ∧ H1 a = some (.lst vs) ∧ WL H1 vs st ∧ Stk (kd.map nameOf) st ∧ (Good kd md [x] ↔ ∀ w ∈ st, Good kd md w),
    ⟨_, _, _, _, _, [[x]], _, rfl, rfl, (same_new ht0 _).trans (same_new ha _), upd_same, .cons (by rw [upd_ne nt0, upd_same]; rfl) .nil, ⟨fun w hw => ?_, fun w hw y hy => ?_, fun i w hw => ?_⟩, by simp⟩, ?_⟩
  · rw [List.mem_singleton] at hw; subst hw; exact List.nodup_cons.mpr ⟨by simp, List.nodup_nil⟩
  · rw [List.mem_singleton] at hw; subst hw
    rw [List.mem_singleton] at hy; exact hy ▸ hx
  · match i, hw with
    | 0, hw =>
      simp only [List.getElem?_cons_zero, Option.some.injEq] at hw
      subst hw
      show 0 < 72 * 1
      decide
    | i + 1, hw => simp at hw
  rintro m σ H1 ⟨n3, n4, n5, n6, st, vs, rfl, rfl, s1, ea, WW, S, gi⟩
  refine ⟨_, rfl, by show 0 ≤ sizeLine; exact Nat.zero_le _, fun c hc => ?_⟩
  have s1c : Same H1 (upd H1 c (.lst [])) := same_new hc _
  have ea2 := s1c _ _ ea
  have W2 := WW.mono fun b xs e => s1c _ _ e
  have shs : ∀ d ∈ st.map (fun w => PyData.tuple (w.map PyData.str)), shB 1 d = true := fun d hd => by
    obtain ⟨w, hw, rfl⟩ := List.mem_map.mp hd
    refine shB_of ?_ fun d hd => ?_
    · rw [List.length_map]
      have := sub_len (S.nd w hw) (S.sub w hw)
      omega
    · obtain ⟨y, hy, rfl⟩ := List.mem_map.mp hd
      exact name_ok (name_of_kind kb (S.sub w hw y hy))
  refine ⟨_, .list [], .lst (SqL.of ea2) W2.dp, .lst (SqL.of upd_same) .nil, list_shaped shs (by decide), rfl, ?_⟩
  refine ⟨_, rfl, ?_⟩
  by_cases est : st = []
  · subst est
    refine iteF ?_
    exact fin1 (gi.mpr fun w hw => by cases hw) _ (s1.trans s1c)
  obtain ⟨vs', wt, rest, w, rfl, rfl, W3, ewt⟩ := W2.last est
  obtain ⟨w8, w1, rl⟩ := S.few k8
  obtain ⟨u0, kk, rfl⟩ := nonempty_last w1
  have hkk : kk ∈ kd.map nameOf := S.sub (u0 ++ [kk]) (by simp) kk (by simp)
  have eT : (!PyData.eqv (.list ((rest ++ [u0 ++ [kk]]).map fun w => PyData.tuple (w.map PyData.str))) (.list [])) = true := by
    rw [List.map_append]
    cases rest.map fun w => PyData.tuple (w.map PyData.str) <;> rfl
  rw [eT]
  refine iteT ⟨fun σ' H' => ∃ m', m' < mu (rest ++ [u0 ++ [kk]]) ∧ ∃ n3 n4 n5 n6 st vs, σ' = [some (.ref sa), some (.str x), some (.ref a), n3, n4, n5, n6] ∧ m' = mu st ∧ Same H H' ∧ H' a = some (.lst vs) ∧ WL H' vs st ∧ Stk (kd.map nameOf) st ∧ (Good kd md [x] ↔ ∀ w ∈ st, Good kd md w), fun _ _ z => z, ?_⟩
  refine ⟨_, rfl, .inl ⟨rfl, _, SqL.of ea2⟩, a, _, .ref wt, rfl, rfl, ea2, (map_last rfl).1, ?_⟩
  rw [(map_last (xs := vs') rfl).2]
  have s2 : Same H (upd (upd H1 c (.lst [])) a (.lst vs')) := same_put (s1.trans s1c) ha0
  have ew : upd (upd H1 c (.lst [])) a (.lst vs') wt = some (.tup ((u0 ++ [kk]).map V.str)) := tup_put ea2 ewt
  have W4 : WL (upd (upd H1 c (.lst [])) a (.lst vs')) vs' rest := W3.mono fun b xs e => tup_put ea2 e
  have eA : upd (upd H1 c (.lst [])) a (.lst vs') a = some (.lst vs') := upd_same
  generalize upd (upd H1 c (.lst [])) a (.lst vs') = H2 at s2 ew W4 eA ⊢
  have lastk : atI ((u0 ++ [kk]).map V.str) (-1) = some (V.str kk) := by rw [List.map_append]; exact atI_last _ _
  refine ⟨_, rfl, _, rfl, 1, rfl, wt, _, -1, _, rfl, rfl, SqT.of ew, lastk, _, kd, _, kk, rfl, hd.mono s2, k1, name_of_kind kb hkk, fun H3 s3 => ⟨_, rfl, ?_⟩⟩
  have s03 := s2.trans s3
  cases eo : S0 kd kk with
  | true =>
    refine iteT (fin0 (fun g => ?_) H3 s03)
    have z := (gi.mp g (u0 ++ [kk]) (by simp)).inv.1
    rw [eo] at z
    cases z
  | false =>
  refine iteF ?_
  refine ⟨_, rfl, _, rfl, 1, rfl, wt, _, -1, _, rfl, rfl, SqT.of (s3 _ _ ew), lastk, _, kd, md, kk, rfl, hd.mono s03, k2, fun l ys H4 s4 hl el M => ?_⟩
  have nla : l ≠ a := fun z => by rw [z, s3 _ _ eA] at hl; cases hl
  have s34 := s3.trans s4
  have lM := M.len
  refine ⟨l, rfl, ⟨_, SqL.of el⟩, ?_⟩
  refine for_it walk_list (fun j σ H5 => ∃ n4 n5 n6 vs2, σ = [some (.ref sa), some (.str x), some (.ref a), some (.ref wt), n4, n5, n6] ∧ Same H H5 ∧ H5 l = some (.lst ys) ∧ MkL H5 ys (ofKind md kk) ∧ H5 wt = some (.tup ((u0 ++ [kk]).map V.str)) ∧ H5 a = some (.lst vs2) ∧
      WL H5 vs2 (rest ++ (((ofKind md kk).take j).flatMap needsOf).map fun b => u0 ++ [kk] ++ [b]) ∧ ∀ b ∈ ((ofKind md kk).take j).flatMap needsOf, b ∉ u0 ++ [kk])
    ⟨_, _, _, vs', rfl, s03.trans s4, el, M, s34 _ _ ew, s34 _ _ eA, by simpa using W4.mono fun b xs e => s34 _ _ e, fun b hb => by simp at hb⟩
    (fun j σ H5 _ p => by obtain ⟨_, _, _, _, _, _, e, _⟩ := p; exact SqL.of e) (fun j y σ H5p H5 hj p hy => ?_) (fun σ H5 p => ?_)
  · obtain ⟨rfl, ey⟩ := hy
    obtain ⟨n4, n5, n6, vs2, rfl, s5, el5, M5, ew5, ea5, W5, no5⟩ := p
    obtain ⟨m, em, t, nv, na, rfl, ht, hna⟩ := M5.get ey
    have hmm := List.mem_of_getElem? em
    have hmd := (List.mem_filter.mp hmm).1
    have nok := needs_ok (mb m hmd)
    refine ⟨t, _, rfl, SqT.of ht, rfl, _, _, rfl, _, _, rfl, rfl, ?_⟩
    refine ⟨_, rfl, na, rfl, ⟨_, SqT.of hna⟩, ?_⟩
    have dl : (((ofKind md kk).take j).flatMap needsOf).length ≤ 72 := by
      refine Nat.le_trans ?_ (kids_len (x := kk) l24 mb)
      unfold kids
      have e : ofKind md kk = (ofKind md kk).take j ++ (ofKind md kk).drop j := (List.take_append_drop _ _).symm
      rw [show ((ofKind md kk).flatMap needsOf) = ((ofKind md kk).take j ++ (ofKind md kk).drop j).flatMap needsOf from by rw [← e], List.flatMap_append, List.length_append]
      omega
    refine for_it walk_tup (fun r σ H6 => ∃ n4 n6 vs2, σ = [some (.ref sa), some (.str x), some (.ref a), some (.ref wt), n4, some (.ref na), n6] ∧ Same H H6 ∧ H6 l = some (.lst ys) ∧ MkL H6 ys (ofKind md kk) ∧ H6 wt = some (.tup ((u0 ++ [kk]).map V.str)) ∧ H6 na = some (.tup ((needsOf m).map V.str)) ∧ H6 a = some (.lst vs2) ∧
        WL H6 vs2 (rest ++ (((ofKind md kk).take j).flatMap needsOf ++ (needsOf m).take r).map fun b => u0 ++ [kk] ++ [b]) ∧ ∀ b ∈ ((ofKind md kk).take j).flatMap needsOf ++ (needsOf m).take r, b ∉ u0 ++ [kk])
      ⟨_, _, vs2, rfl, s5, el5, M5, ew5, hna, ea5, by rw [List.take_zero, List.append_nil]; exact W5, by rw [List.take_zero, List.append_nil]; exact no5⟩
      (fun j σ H5 _ p => by obtain ⟨_, _, _, _, _, _, _, _, e, _⟩ := p; exact SqT.of e) (fun r y σ H6p H6 hr6 p hy => ?_) (fun σ H6 p => ?_)
    · obtain ⟨rfl, ey⟩ := hy
      obtain ⟨n4, n6, vs2, rfl, s6, el6, M6, ew6, hna6, ea6, W6, no6⟩ := p
      rw [List.getElem?_map] at ey
      obtain ⟨b, eb, rfl⟩ := Option.map_eq_some_iff.mp ey
      have hb := List.mem_of_getElem? eb
      refine ⟨_, rfl, _, rfl, wt, _, rfl, .inr (SqT.of ew6), rfl, flat_strs' _, ?_⟩
      refine ⟨_, rfl, ?_⟩
      rw [inV_strs]
      by_cases cb : b ∈ u0 ++ [kk]
      · rw [decide_eq_true cb]
        exact iteT (fin0 (fun g => (gi.mp g (u0 ++ [kk]) (by simp)).inv.2.1 b (mem_kids.mpr ⟨m, hmm, hb⟩) cb) H6 s6)
      · rw [decide_eq_false cb]
        refine iteF ?_
        refine ⟨_, rfl, .inl ⟨rfl, _, SqL.of ea6⟩, ?_⟩
        refine ⟨_, rfl, _, rfl, by show 1 ≤ sizeLine; rw [sizeLine_eq]; decide, fun t2 ht2 => ?_⟩
        have s7 : Same H6 (upd H6 t2 (.tup [.str b])) := same_new ht2 _
        refine catA_all (xs := (u0 ++ [kk]).map V.str) (ys := [V.str b]) (s7 _ _ ew6) upd_same (by rw [sizeLine_eq, List.length_map]; show (u0 ++ [kk]).length + 1 ≤ _; omega) (fun c8 H8 s8 ec8 => ?_)
        have s78 := s7.trans s8
        have ea8 := s78 _ _ ea6
        have lw := W6.len
        have lt : ((needsOf m).take r).length ≤ (needsOf m).length := by rw [List.length_take]; omega
        rw [List.length_append, List.length_map, List.length_append] at lw
        refine ⟨a, vs2, _, rfl, rfl, ea8, by rw [sizeLine_eq]; omega, ?_⟩
        have et : ((needsOf m).take (r + 1)) = (needsOf m).take r ++ [b] := by rw [List.take_add_one, eb]; rfl
        refine ⟨_, _, vs2 ++ [.ref c8], rfl, same_put (s6.trans s78) ha0, by rw [upd_ne nla]; exact s78 _ _ el6, (M6.mono fun b o q _ => s78 _ _ q).put ea8, tup_put ea8 (s78 _ _ ew6), tup_put ea8 (s78 _ _ hna6), upd_same, ?_, ?_⟩
        · rw [et, ← List.append_assoc, List.map_append, ← List.append_assoc]
          refine ((W6.mono fun b xs q => s78 _ _ q).mono fun b xs q => tup_put ea8 q).snoc (tup_put ea8 ?_)
          rw [ec8, List.map_append (l₁ := u0 ++ [kk])]
          rfl
        · intro z hz
          rw [et, ← List.append_assoc] at hz
          rcases List.mem_append.mp hz with q | q
          · exact no6 z q
          · rw [List.mem_singleton] at q
            exact q ▸ cb
    · obtain ⟨n4, n6, vs2, rfl, s6, el6, M6, ew6, hna6, ea6, W6, no6⟩ := p
      have et : ((ofKind md kk).take (j + 1)).flatMap needsOf = ((ofKind md kk).take j).flatMap needsOf ++ needsOf m := by
        rw [List.take_add_one, em, List.flatMap_append]
        simp
      rw [List.length_map, List.take_length] at W6 no6
      exact ⟨_, _, _, vs2, rfl, s6, el6, M6, ew6, ea6, by rw [et]; exact W6, by rw [et]; exact no6⟩
  · obtain ⟨n4, n5, n6, vs2, rfl, s5, el5, M5, ew5, ea5, W5, no5⟩ := p
    rw [lM, List.take_length] at W5 no5
    obtain ⟨S2, less⟩ := S.turn k8 (cs := kids md kk) (kids_len l24 mb) no5 (fun b hb => by
      obtain ⟨m, hm, q⟩ := mem_kids.mp hb
      exact (needs_ok (mb m (List.mem_filter.mp hm).1)).2 b q)
    refine ⟨_, less, _, _, _, _, _, vs2, rfl, rfl, s5, ea5, W5, S2, gi.trans ⟨fun g z hz => ?_, fun g z hz => ?_⟩⟩
    · rcases List.mem_append.mp hz with q | q
      · exact g z (List.mem_append_left _ q)
      · obtain ⟨b, hb, rfl⟩ := List.mem_map.mp q
        exact (g (u0 ++ [kk]) (by simp)).inv.2.2 b hb
    · rcases List.mem_append.mp hz with q | q
      · exact g z (List.mem_append_left _ q)
      · rw [List.mem_singleton] at q
        subst q
        exact .mk eo no5 fun b hb => g _ (List.mem_append_right _ (List.mem_map.mpr ⟨b, hb, rfl⟩))

end

theorem del_get {H : Hp} {p b : Addr} {o : HO} (h : L2.del H p b = some o) : b ≠ p ∧ H b = some o := by
  by_cases e : b = p
  · subst e
    rw [del_same] at h
    cases h
  · rw [del_ne e] at h
    exact ⟨e, h⟩

/-- the signatures that are drawn from -/
def sigL : List PyData := [(.tuple [(.tuple [(.tuple [(.str "count"), (.str "closed")]), (.tuple [(.str "truth"), (.str "closed")]), (.tuple [(.str "type"), (.str "open")]), (.tuple [(.str "row"), (.str "closed")])]), (.tuple [(.tuple [(.str "z"), (.tuple []), (.str "count")]), (.tuple [(.str "s"), (.tuple [(.str "count")]), (.str "count")]), (.tuple [(.str "yes"), (.tuple []), (.str "truth")]), (.tuple [(.str "no"), (.tuple []), (.str "truth")]), (.tuple [(.str "int"), (.tuple []), (.str "type")]), (.tuple [(.str "ptr"), (.tuple [(.str "type")]), (.str "type")]), (.tuple [(.str "nil"), (.tuple []), (.str "row")]), (.tuple [(.str "cons"), (.tuple [(.str "type"), (.str "row")]), (.str "row")])])]),
  (.tuple [(.tuple [(.tuple [(.str "bit"), (.str "closed")]), (.tuple [(.str "nat"), (.str "closed")]), (.tuple [(.str "pair"), (.str "closed")])]), (.tuple [(.tuple [(.str "o"), (.tuple []), (.str "bit")]), (.tuple [(.str "i"), (.tuple []), (.str "bit")]), (.tuple [(.str "z"), (.tuple []), (.str "nat")]), (.tuple [(.str "s"), (.tuple [(.str "nat")]), (.str "nat")]), (.tuple [(.str "p"), (.tuple [(.str "bit"), (.str "nat")]), (.str "pair")]), (.tuple [(.str "q"), (.tuple [(.str "pair"), (.str "bit")]), (.str "pair")])])]),
  (.tuple [(.tuple [(.tuple [(.str "type"), (.str "open")]), (.tuple [(.str "opt"), (.str "closed")]), (.tuple [(.str "size"), (.str "open")])]), (.tuple [(.tuple [(.str "int"), (.tuple []), (.str "type")]), (.tuple [(.str "fn"), (.tuple [(.str "type"), (.str "type")]), (.str "type")]), (.tuple [(.str "none"), (.tuple []), (.str "opt")]), (.tuple [(.str "some"), (.tuple [(.str "type")]), (.str "opt")]), (.tuple [(.str "arr"), (.tuple [(.str "type"), (.str "size")]), (.str "type")])])]),
  (.tuple [(.tuple [(.tuple [(.str "t"), (.str "closed")]), (.tuple [(.str "u"), (.str "closed")]), (.tuple [(.str "w"), (.str "closed")])]), (.tuple [(.tuple [(.str "a"), (.tuple []), (.str "t")]), (.tuple [(.str "b"), (.tuple []), (.str "t")]), (.tuple [(.str "c"), (.tuple []), (.str "t")]), (.tuple [(.str "m"), (.tuple [(.str "t"), (.str "t")]), (.str "u")]), (.tuple [(.str "e"), (.tuple []), (.str "u")]), (.tuple [(.str "n"), (.tuple [(.str "u")]), (.str "w")])])]),
  (.tuple [(.tuple [(.tuple [(.str "ev"), (.str "closed")]), (.tuple [(.str "od"), (.str "closed")]), (.tuple [(.str "t"), (.str "closed")]), (.tuple [(.str "x"), (.str "open")])]), (.tuple [(.tuple [(.str "z"), (.tuple []), (.str "ev")]), (.tuple [(.str "se"), (.tuple [(.str "od")]), (.str "ev")]), (.tuple [(.str "so"), (.tuple [(.str "ev")]), (.str "od")]), (.tuple [(.str "a"), (.tuple []), (.str "t")]), (.tuple [(.str "b"), (.tuple []), (.str "t")]), (.tuple [(.str "k"), (.tuple [(.str "t"), (.str "x")]), (.str "x")])])]),
  (.tuple [(.tuple [(.tuple [(.str "n"), (.str "closed")])]), (.tuple [(.tuple [(.str "z"), (.tuple []), (.str "n")]), (.tuple [(.str "s"), (.tuple [(.str "n")]), (.str "n")]), (.tuple [(.str "d"), (.tuple [(.str "n"), (.str "n")]), (.str "n")])])])]

def kshape (d : PyData) : Bool := match d with | .tuple [.str _, .str _] => shB 1 d | _ => false
def mshape (d : PyData) : Bool := match d with | .tuple [.str _, .tuple _, .str _] => shB 2 d | _ => false
structure SigF (kd md : List PyData) : Prop where
  k1 : 1 ≤ kd.length
  k4 : kd.length ≤ 4
  m1 : 1 ≤ md.length
  m8 : md.length ≤ 8
  kk : ∀ d ∈ kd, kshape d = true
  mm : ∀ d ∈ md, mshape d = true
def okSig (d : PyData) : Bool := match d with | .tuple [.tuple kd, .tuple md] => decide (1 ≤ kd.length) && decide (kd.length ≤ 4) && decide (1 ≤ md.length) && decide (md.length ≤ 8) && kd.all kshape && md.all mshape | _ => false
theorem okSig_all : ∀ d ∈ sigL, okSig d = true := by
  have h : sigL.all okSig = true := by decide +kernel
  exact List.all_eq_true.mp h
theorem okSig_f {kd md : List PyData} (h : okSig (.tuple [.tuple kd, .tuple md]) = true) : SigF kd md := by
  have h : (decide (1 ≤ kd.length) && decide (kd.length ≤ 4) && decide (1 ≤ md.length) && decide (md.length ≤ 8) && kd.all kshape && md.all mshape) = true := h
  simp only [Bool.and_eq_true, decide_eq_true_iff, List.all_eq_true] at h
  obtain ⟨⟨⟨⟨⟨a, b⟩, c⟩, d⟩, e⟩, f⟩ := h
  exact ⟨a, b, c, d, e, f⟩
theorem okSig_tup {d : PyData} (h : okSig d = true) : ∃ kd md, d = .tuple [.tuple kd, .tuple md] := by
  unfold okSig at h
  split at h
  · exact ⟨_, _, rfl⟩
  · cases h
theorem SigF.perm {kd md kd' md' : List PyData} (h : SigF kd md) (p : kd'.Perm kd) (q : md'.Perm md) : SigF kd' md' :=
  ⟨by rw [p.length_eq]; exact h.k1, by rw [p.length_eq]; exact h.k4, by rw [q.length_eq]; exact h.m1, by rw [q.length_eq]; exact h.m8, fun d hd => h.kk d (p.mem_iff.mp hd), fun d hd => h.mm d (q.mem_iff.mp hd)⟩
theorem kshape_sh {d : PyData} (h : kshape d = true) : shB 1 d = true := by
  unfold kshape at h
  split at h
  · exact h
  · cases h
theorem mshape_sh {d : PyData} (h : mshape d = true) : shB 2 d = true := by
  unfold mshape at h
  split at h
  · exact h
  · cases h
theorem SigF.sh {kd md : List PyData} (h : SigF kd md) : shB 20 (.tuple [.tuple kd, .tuple md]) = true := by
  refine shB_mono (n := 4) (by decide) (shB_of (show 2 ≤ 1000 by decide) fun d hd => ?_)
  rcases List.mem_cons.mp hd with z | z
  · subst z
    exact shB_mono (n := 2) (by decide) (shB_of (by have := h.k4; omega) fun d hd => kshape_sh (h.kk d hd))
  · rw [List.mem_singleton] at z
    subst z
    exact shB_of (by have := h.m8; omega) fun d hd => mshape_sh (h.mm d hd)
/-- _law_some_sig(well): one of them -/
def spSomeSig : Sp := fun vs H Q _ => ∃ p : Addr, vs = [.ref p] ∧ Well H p ∧ ∀ (v : V) (d : PyData) (H' : Hp), Well H' p → But p H H' → Dd (L2.del H' p) v d → d ∈ sigL → Q v H'

section
variable {P : Program} {w : World} {K : PySem.W.Frag} {mg : Str → Option Value} {base : Heap}

theorem sc_some_sig : FnScope ["well", "way"] ["well"] (defScope s_some_sig) := ⟨rfl, rfl, rfl, by decide +kernel, rfl, by decide +kernel, by decide +kernel⟩
theorem ok_some_sig (D : Df K mg "_law_some_sig" s_some_sig) (G1 : Gd P w K mg base CX0 1 "_law_draw" ["well", "few"] spDraw) : Gd P w K mg base CX0 2 "_law_some_sig" ["well"] spSomeSig := by
  refine gd_of D (fun _ _ _ _ _ _ us hl => match us, hl with | [_], _ => rfl) fun f fd F => ?_
  refine fun_q F sc_some_sig (fun vs H Q E h => by obtain ⟨p, rfl, _⟩ := h; rfl) (fun cdv A outer s H vs Q E hr hq h => ?_)
  obtain ⟨p, rfl, W, k⟩ := h
  refine ⟨_, (pss_cons (ps_set (i := 1) sc_some_sig.nd rfl (Or.inl rfl) (pe_g G1 hr hq (pa_cons (pv 0) (pa_cons pe_int pa_nil))))
      (pss_cons (ps_if (pt_cmpR op_eq (pv 1) pe_int (nomark _)) (pss_one (ps_ret (dw_c (p := p) (P := fun d => d ∈ sigL) (fun H0 => (da_tup (da_cons (by walk_at "st") (da_tup (da_cons (by walk_at "st") (da_tup (da_cons (by walk_at "st") da_str (da_cons (by walk_at "st") da_str da_nil))) (da_cons (by walk_at "st") (da_tup (da_cons (by walk_at "st") da_str (da_cons (by walk_at "st") da_str da_nil))) (da_cons (by walk_at "st") (da_tup (da_cons (by walk_at "st") da_str (da_cons (by walk_at "st") da_str da_nil))) (da_cons (by walk_at "st") (da_tup (da_cons (by walk_at "st") da_str (da_cons (by walk_at "st") da_str da_nil))) da_nil))))) (da_cons (by walk_at "st") (da_tup (da_cons (by walk_at "st") (da_tup (da_cons (by walk_at "st") da_str (da_cons (by walk_at "st") (da_tup da_nil) (da_cons (by walk_at "st") da_str da_nil)))) (da_cons (by walk_at "st") (da_tup (da_cons (by walk_at "st") da_str (da_cons (by walk_at "st") (da_tup (da_cons (by walk_at "st") da_str da_nil)) (da_cons (by walk_at "st") da_str da_nil)))) (da_cons (by walk_at "st") (da_tup (da_cons (by walk_at "st") da_str (da_cons (by walk_at "st") (da_tup da_nil) (da_cons (by walk_at "st") da_str da_nil)))) (da_cons (by walk_at "st") (da_tup (da_cons (by walk_at "st") da_str (da_cons (by walk_at "st") (da_tup da_nil) (da_cons (by walk_at "st") da_str da_nil)))) (da_cons (by walk_at "st") (da_tup (da_cons (by walk_at "st") da_str (da_cons (by walk_at "st") (da_tup da_nil) (da_cons (by walk_at "st") da_str da_nil)))) (da_cons (by walk_at "st") (da_tup (da_cons (by walk_at "st") da_str (da_cons (by walk_at "st") (da_tup (da_cons (by walk_at "st") da_str da_nil)) (da_cons (by walk_at "st") da_str da_nil)))) (da_cons (by walk_at "st") (da_tup (da_cons (by walk_at "st") da_str (da_cons (by walk_at "st") (da_tup da_nil) (da_cons (by walk_at "st") da_str da_nil)))) (da_cons (by walk_at "st") (da_tup (da_cons (by walk_at "st") da_str (da_cons (by walk_at "st") (da_tup (da_cons (by walk_at "st") da_str (da_cons (by walk_at "st") da_str da_nil))) (da_cons (by walk_at "st") da_str da_nil)))) da_nil))))))))) da_nil)))) (fun _ _ => by walk_at "pre") (.head _)))) pss_nil)
      (pss_cons (ps_if (pt_cmpR op_eq (pv 1) pe_int (nomark _)) (pss_one (ps_ret (dw_c (p := p) (P := fun d => d ∈ sigL) (fun H0 => (da_tup (da_cons (by walk_at "st") (da_tup (da_cons (by walk_at "st") (da_tup (da_cons (by walk_at "st") da_str (da_cons (by walk_at "st") da_str da_nil))) (da_cons (by walk_at "st") (da_tup (da_cons (by walk_at "st") da_str (da_cons (by walk_at "st") da_str da_nil))) (da_cons (by walk_at "st") (da_tup (da_cons (by walk_at "st") da_str (da_cons (by walk_at "st") da_str da_nil))) da_nil)))) (da_cons (by walk_at "st") (da_tup (da_cons (by walk_at "st") (da_tup (da_cons (by walk_at "st") da_str (da_cons (by walk_at "st") (da_tup da_nil) (da_cons (by walk_at "st") da_str da_nil)))) (da_cons (by walk_at "st") (da_tup (da_cons (by walk_at "st") da_str (da_cons (by walk_at "st") (da_tup da_nil) (da_cons (by walk_at "st") da_str da_nil)))) (da_cons (by walk_at "st") (da_tup (da_cons (by walk_at "st") da_str (da_cons (by walk_at "st") (da_tup da_nil) (da_cons (by walk_at "st") da_str da_nil)))) (da_cons (by walk_at "st") (da_tup (da_cons (by walk_at "st") da_str (da_cons (by walk_at "st") (da_tup (da_cons (by walk_at "st") da_str da_nil)) (da_cons (by walk_at "st") da_str da_nil)))) (da_cons (by walk_at "st") (da_tup (da_cons (by walk_at "st") da_str (da_cons (by walk_at "st") (da_tup (da_cons (by walk_at "st") da_str (da_cons (by walk_at "st") da_str da_nil))) (da_cons (by walk_at "st") da_str da_nil)))) (da_cons (by walk_at "st") (da_tup (da_cons (by walk_at "st") da_str (da_cons (by walk_at "st") (da_tup (da_cons (by walk_at "st") da_str (da_cons (by walk_at "st") da_str da_nil))) (da_cons (by walk_at "st") da_str da_nil)))) da_nil))))))) da_nil)))) (fun _ _ => by walk_at "pre") (.tail _ (.head _))))) pss_nil)
      (pss_cons (ps_if (pt_cmpR op_eq (pv 1) pe_int (nomark _)) (pss_one (ps_ret (dw_c (p := p) (P := fun d => d ∈ sigL) (fun H0 => (da_tup (da_cons (by walk_at "st") (da_tup (da_cons (by walk_at "st") (da_tup (da_cons (by walk_at "st") da_str (da_cons (by walk_at "st") da_str da_nil))) (da_cons (by walk_at "st") (da_tup (da_cons (by walk_at "st") da_str (da_cons (by walk_at "st") da_str da_nil))) (da_cons (by walk_at "st") (da_tup (da_cons (by walk_at "st") da_str (da_cons (by walk_at "st") da_str da_nil))) da_nil)))) (da_cons (by walk_at "st") (da_tup (da_cons (by walk_at "st") (da_tup (da_cons (by walk_at "st") da_str (da_cons (by walk_at "st") (da_tup da_nil) (da_cons (by walk_at "st") da_str da_nil)))) (da_cons (by walk_at "st") (da_tup (da_cons (by walk_at "st") da_str (da_cons (by walk_at "st") (da_tup (da_cons (by walk_at "st") da_str (da_cons (by walk_at "st") da_str da_nil))) (da_cons (by walk_at "st") da_str da_nil)))) (da_cons (by walk_at "st") (da_tup (da_cons (by walk_at "st") da_str (da_cons (by walk_at "st") (da_tup da_nil) (da_cons (by walk_at "st") da_str da_nil)))) (da_cons (by walk_at "st") (da_tup (da_cons (by walk_at "st") da_str (da_cons (by walk_at "st") (da_tup (da_cons (by walk_at "st") da_str da_nil)) (da_cons (by walk_at "st") da_str da_nil)))) (da_cons (by walk_at "st") (da_tup (da_cons (by walk_at "st") da_str (da_cons (by walk_at "st") (da_tup (da_cons (by walk_at "st") da_str (da_cons (by walk_at "st") da_str da_nil))) (da_cons (by walk_at "st") da_str da_nil)))) da_nil)))))) da_nil)))) (fun _ _ => by walk_at "pre") (.tail _ (.tail _ (.head _)))))) pss_nil)
      (pss_cons (ps_if (pt_cmpR op_eq (pv 1) pe_int (nomark _)) (pss_one (ps_ret (dw_c (p := p) (P := fun d => d ∈ sigL) (fun H0 => (da_tup (da_cons (by walk_at "st") (da_tup (da_cons (by walk_at "st") (da_tup (da_cons (by walk_at "st") da_str (da_cons (by walk_at "st") da_str da_nil))) (da_cons (by walk_at "st") (da_tup (da_cons (by walk_at "st") da_str (da_cons (by walk_at "st") da_str da_nil))) (da_cons (by walk_at "st") (da_tup (da_cons (by walk_at "st") da_str (da_cons (by walk_at "st") da_str da_nil))) da_nil)))) (da_cons (by walk_at "st") (da_tup (da_cons (by walk_at "st") (da_tup (da_cons (by walk_at "st") da_str (da_cons (by walk_at "st") (da_tup da_nil) (da_cons (by walk_at "st") da_str da_nil)))) (da_cons (by walk_at "st") (da_tup (da_cons (by walk_at "st") da_str (da_cons (by walk_at "st") (da_tup da_nil) (da_cons (by walk_at "st") da_str da_nil)))) (da_cons (by walk_at "st") (da_tup (da_cons (by walk_at "st") da_str (da_cons (by walk_at "st") (da_tup da_nil) (da_cons (by walk_at "st") da_str da_nil)))) (da_cons (by walk_at "st") (da_tup (da_cons (by walk_at "st") da_str (da_cons (by walk_at "st") (da_tup (da_cons (by walk_at "st") da_str (da_cons (by walk_at "st") da_str da_nil))) (da_cons (by walk_at "st") da_str da_nil)))) (da_cons (by walk_at "st") (da_tup (da_cons (by walk_at "st") da_str (da_cons (by walk_at "st") (da_tup da_nil) (da_cons (by walk_at "st") da_str da_nil)))) (da_cons (by walk_at "st") (da_tup (da_cons (by walk_at "st") da_str (da_cons (by walk_at "st") (da_tup (da_cons (by walk_at "st") da_str da_nil)) (da_cons (by walk_at "st") da_str da_nil)))) da_nil))))))) da_nil)))) (fun _ _ => by walk_at "pre") (.tail _ (.tail _ (.tail _ (.head _))))))) pss_nil)
      (pss_cons (ps_if (pt_cmpR op_eq (pv 1) pe_int (nomark _)) (pss_one (ps_ret (dw_c (p := p) (P := fun d => d ∈ sigL) (fun H0 => (da_tup (da_cons (by walk_at "st") (da_tup (da_cons (by walk_at "st") (da_tup (da_cons (by walk_at "st") da_str (da_cons (by walk_at "st") da_str da_nil))) (da_cons (by walk_at "st") (da_tup (da_cons (by walk_at "st") da_str (da_cons (by walk_at "st") da_str da_nil))) (da_cons (by walk_at "st") (da_tup (da_cons (by walk_at "st") da_str (da_cons (by walk_at "st") da_str da_nil))) (da_cons (by walk_at "st") (da_tup (da_cons (by walk_at "st") da_str (da_cons (by walk_at "st") da_str da_nil))) da_nil))))) (da_cons (by walk_at "st") (da_tup (da_cons (by walk_at "st") (da_tup (da_cons (by walk_at "st") da_str (da_cons (by walk_at "st") (da_tup da_nil) (da_cons (by walk_at "st") da_str da_nil)))) (da_cons (by walk_at "st") (da_tup (da_cons (by walk_at "st") da_str (da_cons (by walk_at "st") (da_tup (da_cons (by walk_at "st") da_str da_nil)) (da_cons (by walk_at "st") da_str da_nil)))) (da_cons (by walk_at "st") (da_tup (da_cons (by walk_at "st") da_str (da_cons (by walk_at "st") (da_tup (da_cons (by walk_at "st") da_str da_nil)) (da_cons (by walk_at "st") da_str da_nil)))) (da_cons (by walk_at "st") (da_tup (da_cons (by walk_at "st") da_str (da_cons (by walk_at "st") (da_tup da_nil) (da_cons (by walk_at "st") da_str da_nil)))) (da_cons (by walk_at "st") (da_tup (da_cons (by walk_at "st") da_str (da_cons (by walk_at "st") (da_tup da_nil) (da_cons (by walk_at "st") da_str da_nil)))) (da_cons (by walk_at "st") (da_tup (da_cons (by walk_at "st") da_str (da_cons (by walk_at "st") (da_tup (da_cons (by walk_at "st") da_str (da_cons (by walk_at "st") da_str da_nil))) (da_cons (by walk_at "st") da_str da_nil)))) da_nil))))))) da_nil)))) (fun _ _ => by walk_at "pre") (.tail _ (.tail _ (.tail _ (.tail _ (.head _)))))))) pss_nil)
      (pss_one (ps_ret (dw_c (p := p) (P := fun d => d ∈ sigL) (fun H0 => (da_tup (da_cons (by walk_at "st") (da_tup (da_cons (by walk_at "st") (da_tup (da_cons (by walk_at "st") da_str (da_cons (by walk_at "st") da_str da_nil))) da_nil)) (da_cons (by walk_at "st") (da_tup (da_cons (by walk_at "st") (da_tup (da_cons (by walk_at "st") da_str (da_cons (by walk_at "st") (da_tup da_nil) (da_cons (by walk_at "st") da_str da_nil)))) (da_cons (by walk_at "st") (da_tup (da_cons (by walk_at "st") da_str (da_cons (by walk_at "st") (da_tup (da_cons (by walk_at "st") da_str da_nil)) (da_cons (by walk_at "st") da_str da_nil)))) (da_cons (by walk_at "st") (da_tup (da_cons (by walk_at "st") da_str (da_cons (by walk_at "st") (da_tup (da_cons (by walk_at "st") da_str (da_cons (by walk_at "st") da_str da_nil))) (da_cons (by walk_at "st") da_str da_nil)))) da_nil)))) da_nil)))) (fun _ _ => by walk_at "pre") (.tail _ (.tail _ (.tail _ (.tail _ (.tail _ (.head _))))))))))))))), ?_⟩
  refine ⟨_, rfl, p, _, rfl, W, by decide, by decide, fun n H1 n0 n1 W1 b1 => ?_⟩
  refine ⟨_, rfl, rfl, _, rfl, ?_⟩
  refine ite2 (fun _ => ?_) (fun _ => ?_)
  · refine ⟨W1, True.intro, fun v d H' W' bt hd m => k v d H' W' (b1.trans bt) hd m⟩
  refine ⟨_, rfl, rfl, _, rfl, ?_⟩
  refine ite2 (fun _ => ?_) (fun _ => ?_)
  · refine ⟨W1, True.intro, fun v d H' W' bt hd m => k v d H' W' (b1.trans bt) hd m⟩
  refine ⟨_, rfl, rfl, _, rfl, ?_⟩
  refine ite2 (fun _ => ?_) (fun _ => ?_)
  · refine ⟨W1, True.intro, fun v d H' W' bt hd m => k v d H' W' (b1.trans bt) hd m⟩
  refine ⟨_, rfl, rfl, _, rfl, ?_⟩
  refine ite2 (fun _ => ?_) (fun _ => ?_)
  · refine ⟨W1, True.intro, fun v d H' W' bt hd m => k v d H' W' (b1.trans bt) hd m⟩
  refine ⟨_, rfl, rfl, _, rfl, ?_⟩
  refine ite2 (fun _ => ?_) (fun _ => ?_)
  · refine ⟨W1, True.intro, fun v d H' W' bt hd m => k v d H' W' (b1.trans bt) hd m⟩
  refine ⟨W1, True.intro, fun v d H' W' bt hd m => k v d H' W' (b1.trans bt) hd m⟩

def spTurned : Sp := fun vs H Q _ => ∃ (p : Addr) (v : V) (kd md : List PyData), vs = [.ref p, v] ∧ Well H p ∧ Dd (L2.del H p) v (.tuple [.tuple kd, .tuple md]) ∧ SigF kd md ∧
  ∀ (v' : V) (kd' md' : List PyData) (H' : Hp), Well H' p → But p H H' → Dd (L2.del H' p) v' (.tuple [.tuple kd', .tuple md']) → kd'.Perm kd → md'.Perm md → Q v' H'
theorem sc_turned : FnScope ["well", "sig"] ["well", "sig"] (defScope s_turned) := ⟨rfl, rfl, rfl, by decide +kernel, rfl, by decide +kernel, by decide +kernel⟩
theorem ok_turned (D : Df K mg "_law_turned" s_turned) (B : Bi mg) (G1 : Gd P w K mg base CX0 2 "_law_mixed" ["well", "some"] spMixed) : Gd P w K mg base CX0 3 "_law_turned" ["well", "sig"] spTurned := by
  refine gd_of D (fun _ _ _ _ _ _ us hl => match us, hl with | [_, _], _ => rfl) fun f fd F => ?_
  refine fun_q F sc_turned (fun vs H Q E h => by obtain ⟨p, v, kd, md, rfl, _⟩ := h; rfl) (fun cdv A outer s H vs Q E hr hq h => ?_)
  obtain ⟨p, v, kd, md, rfl, W, hd, sf, k⟩ := h
  refine ⟨_, (pss_one (ps_ret (pe_tup (pa_cons (pe_callTy call_tuple_of (by rfl) B.tuple (by decide +kernel) (pa_cons (pe_g G1 hr hq (pa_cons (pv 0) (pa_cons (pe_ix ix_tup (pv 1) pe_int (fun _ _ => rfl)) pa_nil))) pa_nil)) (pa_cons (pe_callTy call_tuple_of (by rfl) B.tuple (by decide +kernel) (pa_cons (pe_g G1 hr hq (pa_cons (pv 0) (pa_cons (pe_ix ix_tup (pv 1) pe_int (fun _ _ => rfl)) pa_nil))) pa_nil)) pa_nil))))), ?_⟩
  obtain ⟨sa, x, y, rfl, hsa, hk, hm⟩ := dd2 hd
  obtain ⟨ka, kx, rfl, hka, KA⟩ := hk.tupD
  obtain ⟨ma, mx, rfl, hma, MA⟩ := hm.tupD
  obtain ⟨nsa, esa⟩ := del_get hsa
  obtain ⟨nka, eka⟩ := del_get hka
  obtain ⟨nma, ema⟩ := del_get hma
  refine ⟨_, rfl, _, rfl, sa, _, 0, _, rfl, rfl, SqT.of esa, rfl, p, ka, kx, kd, rfl, W, eka, nka, KA, fun d hd => shB_mono (by decide) (kshape_sh (sf.kk d hd)), by have := sf.k4; omega, fun l ys es H1 W1 b1 nl hl el E1 pm1 => ?_⟩
  refine ⟨l, ys, rfl, .inl ⟨SqL.of el, fun t ht => ?_⟩⟩
  have b2 := b1.trans (new_but (p := p) (o := .tup ys) ht)
  have W2 := W1.new (o := .tup ys) ht
  have esa2 := b2 _ _ nsa esa
  refine ⟨_, rfl, _, rfl, sa, _, 1, _, rfl, rfl, SqT.of esa2, rfl, p, ma, mx, md, rfl, W2, b2 _ _ nma ema, nma, MA.but b2, fun d hd => shB_mono (by decide) (mshape_sh (sf.mm d hd)), by have := sf.m8; omega, fun l2 ys2 es2 H3 W3 b3 nl2 hl2 el2 E2 pm2 => ?_⟩
  refine ⟨l2, ys2, rfl, .inl ⟨SqL.of el2, fun t2 ht2 => ?_⟩⟩
  have b4 := (b2.trans b3).trans (new_but (p := p) (o := .tup ys2) ht2)
  have b34 := b3.trans (new_but (p := p) (o := .tup ys2) ht2)
  refine ⟨by show 2 ≤ sizeLine; rw [sizeLine_eq]; decide, fun q hq => ?_⟩
  have b5 := new_but (p := p) (o := .tup [.ref t, .ref t2]) hq
  have W4 := W3.new (o := .tup ys2) ht2
  have d1 : Dd (L2.del (upd H1 t (.tup ys)) p) (.ref t) (.tuple es) := .tup (del_new (W1.ne ht).symm) (E1.mono (new_but ht).del)
  have d2 : Dd (L2.del (upd H3 t2 (.tup ys2)) p) (.ref t2) (.tuple es2) := .tup (del_new (W3.ne ht2).symm) (E2.mono (new_but ht2).del)
  exact k _ es es2 _ (W4.new hq) (b4.trans b5) (.tup (del_new (W4.ne hq).symm) (.cons ((d1.but b34).but b5) (.cons (d2.but b5) .nil))) pm1 pm2

def spLSigM : Sp := fun vs H Q _ => ∃ (p : Addr), vs = [.ref p] ∧ Well H p ∧
  ∀ (v' : V) (kd' md' : List PyData) (H' : Hp), Well H' p → But p H H' → Dd (L2.del H' p) v' (.tuple [.tuple kd', .tuple md']) → SigF kd' md' → Q v' H'
theorem sc_lsig : FnScope ["well"] ["well"] (defScope s_sig) := ⟨rfl, rfl, rfl, by decide +kernel, rfl, by decide +kernel, by decide +kernel⟩
theorem ok_lsig (D : Df K mg "_law_sig" s_sig) (G1 : Gd P w K mg base CX0 3 "_law_turned" ["well", "sig"] spTurned) (G2 : Gd P w K mg base CX0 2 "_law_some_sig" ["well"] spSomeSig) : Gd P w K mg base CX0 4 "_law_sig" ["well"] spLSigM := by
  refine gd_of D (fun _ _ _ _ _ _ us hl => match us, hl with | [_], _ => rfl) fun f fd F => ?_
  refine fun_q F sc_lsig (fun vs H Q E h => by obtain ⟨p, rfl, _⟩ := h; rfl) (fun cdv A outer s H vs Q E hr hq h => ?_)
  obtain ⟨p, rfl, W, k⟩ := h
  refine ⟨_, (pss_one (ps_ret (pe_g G1 hr hq (pa_cons (pv 0) (pa_cons (pe_g (G2.mono (by decide)) hr hq (pa_cons (pv 0) pa_nil)) pa_nil))))), ?_⟩
  refine ⟨_, rfl, _, rfl, p, rfl, W, fun v d H1 W1 b1 hd m => ?_⟩
  obtain ⟨kd, md, rfl⟩ := okSig_tup (okSig_all d m)
  have sf := okSig_f (okSig_all _ m)
  exact ⟨p, v, kd, md, rfl, W1, hd, sf, fun v' kd' md' H2 W2 b2 hd2 p1 p2 => k v' kd' md' H2 W2 (b1.trans b2) hd2 (sf.perm p1 p2)⟩

end

local macro_rules | `(tactic| walk_at "stb") => `(tactic| repeat (first | exact stb_T | exact stb_V | exact stb_I | exact stb_P | exact stb_Z | exact stb_S | exact stb_K | refine stb_and ?_ ?_))
theorem small_log {n : Int} (h0 : 0 ≤ n) (h1 : n < 9) : n.natAbs.log2 < 1920 := by
  have : n = 0 ∨ n = 1 ∨ n = 2 ∨ n = 3 ∨ n = 4 ∨ n = 5 ∨ n = 6 ∨ n = 7 ∨ n = 8 := by omega
  rcases this with rfl | rfl | rfl | rfl | rfl | rfl | rfl | rfl | rfl <;> decide +kernel
theorem small_str {n : Int} (h0 : 0 ≤ n) (h1 : n < 9) : okT (.str (toString n)) = true := by
  have : n = 0 ∨ n = 1 ∨ n = 2 ∨ n = 3 ∨ n = 4 ∨ n = 5 ∨ n = 6 ∨ n = 7 ∨ n = 8 := by omega
  rcases this with rfl | rfl | rfl | rfl | rfl | rfl | rfl | rfl | rfl <;> decide +kernel
theorem lenS {x y : Str} (l : x.length ≤ 100) (m : y.length ≤ 100) : x.length + y.length ≤ sizeLine := by rw [sizeLine_eq]; omega
theorem lenS2 {x y : Str} (l : x.length ≤ 100) (m : y.length ≤ 100) : y.length + x.length ≤ sizeLine := by rw [sizeLine_eq]; omega
theorem lenA {x y : Str} (l : x.length ≤ 100) (m : y.length ≤ 100) : okT (.str (x ++ y)) = true := decide_eq_true (by rw [Str.length_append]; omega)
theorem lenA2 {x y : Str} (l : x.length ≤ 100) (m : y.length ≤ 100) : okT (.str (y ++ x)) = true := decide_eq_true (by rw [Str.length_append]; omega)
theorem odd_ok : ∀ d ∈ oddL, okT d = true := by
  have h : oddL.all okT = true := by decide +kernel
  exact List.all_eq_true.mp h
/-- a step down: the whole, and which part was gone into -/
def PItem (G0 G : Hp) (q : V) : Prop := ∃ (t wt : Addr) (k : Int) (ds : List PyData), q = .ref t ∧ G t = some (.tup [.ref wt, .int k]) ∧ 0 ≤ k ∧ k < ds.length ∧ ds.length ≤ 1000 ∧ (∀ d ∈ ds, okT d = true) ∧ Dd G0 (.ref wt) (.tuple ds)
theorem PItem.mono {G0 G G' : Hp} {q : V} (s : ∀ b xs, G b = some (.tup xs) → G' b = some (.tup xs)) (h : PItem G0 G q) : PItem G0 G' q :=
  let ⟨t, wt, k, ds, a, b, c⟩ := h
  ⟨t, wt, k, ds, a, s _ _ b, c⟩
theorem eqv_nil {ds : List PyData} : PyData.eqv (.tuple ds) (.tuple []) = ds.isEmpty := by cases ds <;> rfl
theorem isInt_of {d : PyData} (h : wholeB d = true) : ∃ i, d = .int i := by
  cases d with
  | int i => exact ⟨i, rfl⟩
  | _ => exact absurd h (by intro z; cases z)
theorem tAnd_val {A B : TT} {σ : L2.St} {H : Hp} {K : Bool → Hp → Prop} (a b : Bool) (hA : ∀ K' : Bool → Hp → Prop, (∀ H', Same H H' → K' a H') → A σ H K')
    (hB : a = true → ∀ H1, Same H H1 → ∀ K' : Bool → Hp → Prop, (∀ H', Same H1 H' → K' b H') → B σ H1 K') (h : ∀ H', Same H H' → K (a && b) H') : tAnd A B σ H K := by
  refine hA _ fun H1 s1 => ?_
  cases a with
  | false => exact iteF (h H1 s1)
  | true => exact iteT (hB rfl H1 s1 _ fun H2 s2 => h H2 (s1.trans s2))
/-- _law_bent(well, thing): data, plain data given -/
def spBent : Sp := fun vs H Q _ => ∃ (p : Addr) (v : V) (d : PyData), vs = [.ref p, v] ∧ Well H p ∧ Dd (L2.del H p) v d ∧ shB 20 d = true ∧
  ∀ (v' : V) (d' : PyData) (H' : Hp), Well H' p → But p H H' → Dd (L2.del H' p) v' d' → okT d' = true → Q v' H'

section
variable {P : Program} {w : World} {K : PySem.W.Frag} {mg : Str → Option Value} {base : Heap}

theorem sc_bent : FnScope ["well", "thing", "path", "here", "turn", "at", "way", "whole"] ["well", "thing"] (defScope s_bent) := ⟨rfl, rfl, rfl, by decide +kernel, rfl, by decide +kernel, by decide +kernel⟩
theorem ok_bent (D : Df K mg "_law_bent" s_bent) (B : Bi mg) (G1 : Gd P w K mg base CX0 1 "_law_draw" ["well", "few"] spDraw) (G2 : Gd P w K mg base CX0 1 "_law_is_whole" ["thing"] spWhole) (G3 : Gd P w K mg base CX0 3 "_law_odd_thing" ["well"] spOdd) : Gd P w K mg base CX0 4 "_law_bent" ["well", "thing"] spBent := by
  refine gd_of D (fun _ _ _ _ _ _ us hl => match us, hl with | [_, _], _ => rfl) fun f fd F => ?_
  refine fun_q F sc_bent (fun vs H Q E h => by obtain ⟨p, v, d, rfl, _⟩ := h; rfl) (fun cdv A outer s H vs Q E hr hq h => ?_)
  obtain ⟨p, tv, d, rfl, W, hd, sh, k⟩ := h
  refine ⟨_, (pss_cons (ps_par (i := 2) (j := 3) (by rfl) sc_bent.nd rfl rfl (by decide) rfl rfl (pa_cons (pe_lst pa_nil) (pa_cons (pv 1) pa_nil)) (by rfl))
      (pss_cons (ps_for PassesOwn.never rfl (pi_range1 rfl B.range (pa_cons (pe_g (G1.mono (by decide)) hr hq (pa_cons (pv 0) (pa_cons pe_int pa_nil))) pa_nil)) (pg_name (i := 4) sc_bent.nd rfl (Or.inl rfl)) (pss_cons (ps_if (PW.pt (pw_or (pt_not (pt_val (pe_callB call_isi (by rfl) B.isinstance (by decide +kernel) (pa_cons (pv 3) (pa_cons (pe_bltn (v := V.ty "tuple") (by rfl) B.tuple (by decide +kernel) rfl) pa_nil))))) (pw_or1 (pt_cmpR (op_eqD hr.units) (pv 3) (pe_tup pa_nil) (nomark _))))) (pss_one ps_break) pss_nil)
      (pss_cons (ps_set (i := 5) sc_bent.nd rfl (Or.inl rfl) (pe_g (G1.mono (by decide)) hr hq (pa_cons (pv 0) (pa_cons (pe_callB call_len_seq (by rfl) B.len (by decide +kernel) (pa_cons (pv 3) pa_nil)) pa_nil))))
      (pss_cons (ps_expr (pe_bm PySem.F.plainAttrs_list PySem.F.slot_list_append PySem.F.type_list_append mt_append (pv 2) (pa_cons (pe_tup (pa_cons (pv 3) (pa_cons (pv 5) pa_nil))) pa_nil)))
      (pss_one (ps_set (i := 3) sc_bent.nd rfl (Or.inl rfl) (pe_ix ix_tup (pv 3) (pv 5) (fun _ _ => rfl))))))))
      (pss_cons (ps_set (i := 6) sc_bent.nd rfl (Or.inl rfl) (pe_g (G1.mono (by decide)) hr hq (pa_cons (pv 0) (pa_cons pe_int pa_nil))))
      (pss_cons (ps_if (PW.pt (pw_and (pt_val (pe_callB call_isi (by rfl) B.isinstance (by decide +kernel) (pa_cons (pv 3) (pa_cons (pe_bltn (v := V.ty "tuple") (by rfl) B.tuple (by decide +kernel) rfl) pa_nil)))) (pw_and1 (pt_cmpR op_lt (pv 6) pe_int (nomark _))))) (pss_one (ps_set (i := 3) sc_bent.nd rfl (Or.inl rfl) (dw_pick (p := p) (dws_cons (by walk_at "stb") (dw_okL (dw_list B.list (dw_var (P := isTo 1000) (pv 3)))) (dws_cons (by walk_at "stb") (dw_ok (dw_cut (p2 := pT) (dw_var (P := isTo 1000) (pv 3)) po_none (po_some (pe_un un_neg pe_int)) (fun _ _ _ _ q => q none) (fun _ _ _ _ q => ⟨1, rfl, -1, rfl, q _⟩) stb_T)) (dws_cons (by walk_at "stb") (dw_ok (dw_cat (by walk_at "stb") (dw_var (P := isTo 1000) (pv 3)) (dw_cut (p2 := pT) (dw_var (P := isTo 1000) (pv 3)) (po_some (pe_un un_neg pe_int)) po_none (fun _ _ _ _ q => ⟨1, rfl, -1, rfl, q _⟩) (fun _ _ _ _ q => q none) stb_T))) (dws_cons (by walk_at "stb") (dw_ok (dw_cut (p2 := pT) (dw_var (P := isTo 1000) (pv 3)) (po_some pe_int) po_none (fun _ _ _ _ q => ⟨1, rfl, q _⟩) (fun _ _ _ _ q => q none) stb_T)) (dws_cons (by walk_at "stb") (dw_ok (dw_rev (dw_var (P := isTo 1000) (pv 3)))) (dws_cons (by walk_at "stb") (dw_ok (dw_cat (by walk_at "stb") (dw_var (P := isTo 1000) (pv 3)) (dw_tup (dws_cons (by walk_at "stb") (dw_ok (dw_tup (dws_cons (by walk_at "stb") dw_str dws_nil))) dws_nil)))) (dws_cons (by walk_at "stb") (dw_ok (dw_tup (dws_cons (by walk_at "stb") (dw_ok (dw_var (P := isTo 1000) (pv 3))) dws_nil))) dws_nil))))))) (pv 6) (fun _ _ => rfl)))) (pss_one (ps_if (PW.pt (pw_and (pt_val (pe_g (G2.mono (by decide)) hr hq (pa_cons (pv 3) pa_nil))) (pw_and1 (pt_cmpR op_lt (pv 6) pe_int (nomark _))))) (pss_one (ps_set (i := 3) sc_bent.nd rfl (Or.inl rfl) (dw_pick (p := p) (dws_cons (by walk_at "stb") (dw_of (p1 := wZ 3) (pe_op op_add (pv 3) pe_int) (fun σ H Q w ⟨i, h⟩ k => ⟨_, h, i, 1, rfl, rfl, k _ (.int _) H w But.refl (.int _) rfl⟩)) (dws_cons (by walk_at "stb") (dw_of (p1 := wZ 3) (pe_op op_sub (pv 3) pe_int) (fun σ H Q w ⟨i, h⟩ k => ⟨_, h, i, 1, rfl, rfl, k _ (.int _) H w But.refl (.int _) rfl⟩)) (dws_cons (by walk_at "stb") (dw_of (p1 := wZ 3) (pe_op op_sub pe_int (pv 3)) (fun σ H Q w ⟨i, h⟩ k => ⟨_, h, 0, i, rfl, rfl, k _ (.int _) H w But.refl (.int _) rfl⟩)) (dws_cons (by walk_at "stb") (dw_of (p1 := wZ 3) (pe_cmpR op_gt (pv 3) pe_int (nomark _)) (fun σ H Q w ⟨i, h⟩ k => ⟨_, h, i, 0, rfl, rfl, k _ (.bool _) H w But.refl (.bl _) rfl⟩)) (dws_cons (by walk_at "stb") (dw_of (p1 := wZ 3) (pe_op op_mul (pv 3) pe_int) (fun σ H Q w ⟨i, h⟩ k => ⟨_, h, i, 2, rfl, rfl, .inr ⟨by decide, by decide⟩, k _ (.int _) H w But.refl (.int _) rfl⟩)) (dws_cons (by walk_at "stb") (dw_of (p1 := wP p 0) (pe_callTy call_str_int (by rfl) B.str (by decide +kernel) (pa_cons (pe_g (G1.mono (by decide)) hr hq (pa_cons (pv 0) (pa_cons pe_int pa_nil))) pa_nil)) (fun σ H Q w h k => ⟨_, h, p, 9, rfl, w, by decide, by decide, fun n H1 n0 n1 W1 b1 => ⟨n, rfl, small_log n0 n1, k _ (.str _) H1 W1 b1 (.str _) (small_str n0 n1)⟩⟩)) (dws_cons (by walk_at "stb") dw_int dws_nil))))))) (pv 6) (fun _ _ => rfl)))) (pss_one (ps_if (PW.pt (pw_and (pt_val (pe_callB call_isi (by rfl) B.isinstance (by decide +kernel) (pa_cons (pv 3) (pa_cons (pe_bltn (v := V.ty "str") (by rfl) B.str (by decide +kernel) rfl) pa_nil)))) (pw_and1 (pt_cmpR op_lt (pv 6) pe_int (nomark _))))) (pss_one (ps_set (i := 3) sc_bent.nd rfl (Or.inl rfl) (dw_pick (p := p) (dws_cons (by walk_at "stb") (dw_of (p1 := wS 3) (pe_op op_add_str (pv 3) pe_str) (fun σ H Q w ⟨x, h, l⟩ k => ⟨_, h, x, _, rfl, rfl, lenS l (by decide), k _ (.str _) H w But.refl (.str _) (lenA l (by decide))⟩)) (dws_cons (by walk_at "stb") (dw_of (p1 := wS 3) (pe_slice sl_str (pv 3) (po_some pe_int) po_none) (fun σ H Q w ⟨x, h, l⟩ k => ⟨_, h, 1, rfl, x, rfl, by rw [sizeLine_eq]; omega, k _ (.str _) H w But.refl (.str _) (decide_eq_true (Nat.le_trans (cutS_length x (some 1) none) (by omega)))⟩)) (dws_cons (by walk_at "stb") (dw_of (p1 := wS 3) (pe_bm0 PySem.F.plainAttrs_str PySem.F.slot_str_upper PySem.F.type_str_upper mt_upper (pv 3)) (fun σ H Q w ⟨x, h, l⟩ k => ⟨_, h, rfl, x, rfl, rfl, by omega, k _ (.str _) H w But.refl (.str _) (decide_eq_true (Nat.le_trans (len_upper x) (by omega)))⟩)) (dws_cons (by walk_at "stb") dw_str (dws_cons (by walk_at "stb") dw_str (dws_cons (by walk_at "stb") (dw_of (p1 := wS 3) (pe_op op_add_str (pv 3) pe_str) (fun σ H Q w ⟨x, h, l⟩ k => ⟨_, h, x, _, rfl, rfl, lenS l (by decide), k _ (.str _) H w But.refl (.str _) (lenA l (by decide))⟩)) (dws_cons (by walk_at "stb") (dw_of (p1 := wS 3) (pe_op op_add_str pe_str (pv 3)) (fun σ H Q w ⟨x, h, l⟩ k => ⟨_, h, _, x, rfl, rfl, lenS2 l (by decide), k _ (.str _) H w But.refl (.str _) (lenA2 l (by decide))⟩)) dws_nil))))))) (pv 6) (fun _ _ => rfl)))) (pss_one (ps_set (i := 3) sc_bent.nd rfl (Or.inl rfl) (pe_g G3 hr hq (pa_cons (pv 0) pa_nil)))))))))
      (pss_cons (ps_for PassesOwn.never rfl (pi_list (pe_revL (pv 2))) (pg_tup rfl (pgs_cons (pg_name (i := 7) sc_bent.nd rfl (Or.inl rfl)) (pgs_cons (pg_name (i := 5) sc_bent.nd rfl (Or.inl rfl)) pgs_nil))) (pss_one (ps_set (i := 3) sc_bent.nd rfl (Or.inl rfl) (dw_cat (by walk_at "stb") (dw_cat (by walk_at "stb") (dw_cut (p := p) (p2 := wZ 5) (dw_var (P := isTo 1000) (pv 7)) po_none (po_some (pv 5)) (fun _ _ _ _ q => q none) (fun σ H Q ⟨k, h⟩ q => ⟨_, h, k, rfl, q _⟩) stb_Z) (dw_tup (dws_cons (by walk_at "stb") (dw_var (P := isOk) (pv 3)) dws_nil))) (dw_cut (p2 := wZ 5) (dw_var (P := isTo 1000) (pv 7)) (po_some (pe_op op_add (pv 5) pe_int)) po_none (fun σ H Q ⟨k, h⟩ q => ⟨_, h, k, 1, rfl, rfl, _, rfl, q _⟩) (fun _ _ _ _ q => q none) stb_Z)))))
      (pss_one (ps_ret (pv 3)))))))), ?_⟩
  refine ⟨by show 0 ≤ sizeLine; exact Nat.zero_le _, fun pa hpa => ?_⟩
  refine ⟨_, rfl, ?_⟩
  refine ⟨_, _, rfl, ?_⟩
  have npa : pa ≠ p := fun z => W.some (z ▸ hpa)
  dsimp only
  refine seq_nx (a := tFor _ _ _) (I := fun σ H1 => ∃ hv hd0 n4 n5 qs, σ = [some (.ref p), some tv, some (.ref pa), some hv, n4, n5, none, none] ∧ Well H1 p ∧ But p H H1 ∧ H1 pa = some (.lst qs) ∧ qs.length ≤ 1000 ∧ (∀ q ∈ qs, PItem (L2.del H p) H1 q) ∧ Dd (L2.del H p) hv hd0 ∧ shB 20 hd0 = true) ?rest (fun N hN => ?loop)
  case loop =>
    refine ⟨_, rfl, p, 6, rfl, W.new hpa, by decide, by decide, fun n H1 n0 n1 W1 b1 => ?_⟩
    refine ⟨n, rfl, by omega, by omega, ?_⟩
    have eb1 : But p H H1 := (But.refl.at hpa).trans b1
    refine for_it walk_range (fun i σ H2 => i ≤ 6 ∧ ∃ hv hd0 n4 n5 qs, σ = [some (.ref p), some tv, some (.ref pa), some hv, n4, n5, none, none] ∧ Well H2 p ∧ But p H H2 ∧ H2 pa = some (.lst qs) ∧ qs.length ≤ i ∧ (∀ q ∈ qs, PItem (L2.del H p) H2 q) ∧ Dd (L2.del H p) hv hd0 ∧ shB 20 hd0 = true)
      ⟨by omega, tv, d, _, _, [], rfl, W1, eb1, b1 _ _ npa upd_same, by decide, (fun q hq => by cases hq), hd, sh⟩ (fun _ _ _ _ _ => True.intro) (fun i y σ H2p H2 hi pv hy => ?_) (fun σ H2 pv => ?_)
    · obtain ⟨rfl, rfl⟩ := hy
      obtain ⟨i6, hv, hd0, n4, n5, qs, rfl, W2, b2, ep, lq, qi, dd0, sh0⟩ := pv
      have toN : ∀ {H3 : Hp} {n4 n5 : Option V}, Well H3 p → But p H2 H3 → N [some (.ref p), some tv, some (.ref pa), some hv, n4, n5, none, none] H3 := fun {H3 n4 n5} W3 b3 => hN _ _ ⟨hv, hd0, _, _, qs, rfl, W3, b2.trans b3, b3 _ _ npa ep, by omega, (fun q hq => (qi q hq).mono fun b xs e => by
        obtain ⟨t, wt, k, ds, rfl, e1, _⟩ := qi q hq
        refine b3 _ _ (fun z => ?_) e
        subst z
        obtain ⟨_, _, _, _, e2⟩ := W2
        rw [e2] at e
        cases e), dd0, sh0⟩
      refine ⟨_, rfl, ?_⟩
      refine ⟨_, V.ty _, _, _, _, rfl, ClsV.ty _, Dd.ty ((dd0.but b2).all), kit_ty (kit_tup hd0), ?_⟩
      refine ⟨_, rfl, ?_⟩
      cases et : isTup hd0 with
      | false => exact iteT (toN W2 But.refl)
      | true =>
      obtain ⟨ds, rfl⟩ := isTup_of et
      refine iteF ?_
      refine ⟨_, rfl, by show 0 ≤ sizeLine; exact Nat.zero_le _, fun c hc => ?_⟩
      have bc := new_but (p := p) (o := .tup []) hc
      have ddc := ((dd0.but b2).but bc).all
      refine ⟨.tuple ds, .tuple [], ddc.dp sh0, .tup (SqT.of upd_same) .nil, shB_shaped sh0 (by decide), rfl, ?_⟩
      refine ⟨_, rfl, ?_⟩
      rw [eqv_nil]
      have W3 := W2.new (o := .tup []) hc
      have b3 := b2.trans bc
      cases ds with
      | nil => exact iteT (toN W3 bc)
      | cons d0 ds =>
      refine iteF ?_
      obtain ⟨ha, xs, rfl, eha, A⟩ := dd0.tupD
      have la := A.length
      have l1000 := (shB_tup sh0).1
      have eha3 := b3 _ _ (del_get eha).1 (del_get eha).2
      have lpos : 0 < (d0 :: ds).length := Nat.succ_pos _
      refine ⟨_, rfl, _, rfl, ha, xs, rfl, .inr (SqT.of eha3), p, _, rfl, W3, by omega, by omega, fun j H4 j0 j1 W4 b4 => ?_⟩
      have b04 := b3.trans b4
      have ep4 := b4 _ _ npa (bc _ _ npa ep)
      refine ⟨_, rfl, .inl ⟨rfl, _, SqL.of ep4⟩, ?_⟩
      refine ⟨_, rfl, _, rfl, by show 2 ≤ sizeLine; rw [sizeLine_eq]; decide, fun t ht => ?_⟩
      have bt := new_but (p := p) (o := .tup [.ref ha, .int j]) ht
      have ept := bt _ _ npa ep4
      refine ⟨pa, qs, _, rfl, rfl, ept, by rw [sizeLine_eq]; omega, ?_⟩
      have ntp : t ≠ p := (W4.ne ht).symm
      have npt : t ≠ pa := fun z => by rw [z, ep4] at ht; cases ht
      have b06 : But p H (upd (upd H4 t (.tup [.ref ha, .int j])) pa (.lst (qs ++ [.ref t]))) := (b04.trans bt).at hpa
      have hj : j.toNat < xs.length := by omega
      obtain ⟨d1, ed1, hd1⟩ := A.get (List.getElem?_eq_getElem hj)
      have e : j = ((j.toNat : Nat) : Int) := by omega
      have ea : atI xs ((j.toNat : Nat) : Int) = some xs[j.toNat] := atI_nat (List.getElem?_eq_getElem hj)
      rw [← e] at ea
      refine ⟨_, rfl, _, rfl, ha, xs, j, _, rfl, rfl, SqT.of (b06 _ _ (del_get eha).1 (del_get eha).2), ea, ?_⟩
      refine ⟨by omega, xs[j.toNat], d1, _, _, qs ++ [.ref t], rfl, ?_, b06, upd_same, by rw [List.length_append]; show qs.length + 1 ≤ _; omega, fun q hq => ?_, hd1, shB_mono (by decide) ((shB_tup sh0).2 d1 (List.mem_of_getElem? ed1))⟩
      · obtain ⟨x, y, z, N1, e1⟩ := W4.new (o := .tup [.ref ha, .int j]) ht
        exact ⟨x, y, z, N1, by rw [upd_ne npa.symm]; exact e1⟩
      · rcases List.mem_append.mp hq with z | z
        · refine ((qi q z).mono (G' := upd H4 t (.tup [.ref ha, .int j])) fun b xs e => ?_).mono fun b xs e => tup_put ept e
          refine bt _ _ ?_ (b4 _ _ ?_ (bc _ _ ?_ e)) <;>
          · intro z
            subst z
            obtain ⟨_, _, _, _, e2⟩ := W2
            rw [e2] at e
            cases e
        · rw [List.mem_singleton] at z
          subst z
          refine ⟨t, ha, j, d0 :: ds, rfl, tup_put ept upd_same, j0, by omega, l1000, fun d hd => shB_ok ((shB_tup sh0).2 d hd), dd0⟩
    · obtain ⟨i6, hv, hd0, n4, n5, qs, rfl, W2, b2, ep, lq, qi, dd0, sh0⟩ := pv
      exact hN _ _ ⟨hv, hd0, _, _, qs, rfl, W2, b2, ep, by omega, qi, dd0, sh0⟩
  case rest =>
    rintro σ H1 ⟨hv, hd0, n4, n5, qs, rfl, W1, b1, ep, lq, qi, dd0, sh0⟩
    refine ⟨_, rfl, p, 9, rfl, W1, by decide, by decide, fun n H2 n0 n1 W2 b2 => ?_⟩
    have b02 := b1.trans b2
    dsimp only
    refine seq_nx (a := tIfS _ _ _) (I := fun σ H3 => ∃ hv hd1 n4 n5 n6, σ = [some (.ref p), some tv, some (.ref pa), some hv, n4, n5, n6, none] ∧ Well H3 p ∧ But p H2 H3 ∧ Dd (L2.del H3 p) hv hd1 ∧ okT hd1 = true) ?rest2 (fun N hN => ?ifs)
    case ifs =>
      have toN : ∀ {hv : V} {hd1 : PyData} {H3 : Hp}, Well H3 p → But p H2 H3 → Dd (L2.del H3 p) hv hd1 → okT hd1 = true → N [some (.ref p), some tv, some (.ref pa), some hv, n4, n5, some (.int n), none] H3 := fun {hv hd1 H3} W3 b3 d3 o3 => hN _ _ ⟨hv, hd1, _, _, _, rfl, W3, b3, d3, o3⟩
      show tAnd _ _ _ _ _
      refine tAnd_val (isTup hd0) (decide (n < 7)) (fun K' hK => ?_) (fun _ H' s' K' hK => ?_) (fun H3 s3 => ?_)
      · refine ⟨_, rfl, ?_⟩
        refine ⟨_, V.ty _, _, _, _, rfl, ClsV.ty _, Dd.ty ((dd0.but b02).all), kit_ty (kit_tup hd0), ?_⟩
        exact ⟨_, rfl, hK _ (Same.refl _)⟩
      · exact ⟨_, rfl, n, 7, rfl, rfl, _, rfl, hK _ (Same.refl _)⟩
      have b23 : But p H2 H3 := Same.but s3
      have W3 := W2.same s3
      have d3 := dd0.but (b02.trans b23)
      cases c1 : isTup hd0 && decide (n < 7) with
      | true =>
        rw [Bool.and_eq_true, decide_eq_true_iff] at c1
        obtain ⟨ds, rfl⟩ := isTup_of c1.1
        refine iteT ?_
        have pv3 : wV p 3 (isTo 1000) [some (.ref p), some tv, some (.ref pa), some hv, n4, n5, some (.int n), none] H3 := ⟨hv, _, rfl, d3, shB_isTo sh0⟩
        refine ⟨W3, ?_, fun v' d' H4 W4 b4 hd4 ok4 => toN W4 (b23.trans b4) hd4 ok4⟩
        refine And.intro ?_ ⟨n, rfl, n0, by omega⟩
        repeat (first | exact pv3 | exact True.intro | refine And.intro ?_ ?_)
      | false =>
      refine iteF ?_
      show tAnd _ _ _ _ _
      refine tAnd_val (wholeB hd0) (decide (n < 7)) (fun K' hK => ?_) (fun _ H' s' K' hK => ?_) (fun H4 s4 => ?_)
      · exact ⟨_, rfl, hv, hd0, rfl, d3.all, fun H' s' => ⟨_, rfl, hK _ s'⟩⟩
      · exact ⟨_, rfl, n, 7, rfl, rfl, _, rfl, hK _ (Same.refl _)⟩
      have b24 : But p H2 H4 := b23.trans (Same.but s4)
      have W4 := W3.same s4
      have d4 := d3.but (Same.but s4)
      cases c2 : wholeB hd0 && decide (n < 7) with
      | true =>
        rw [Bool.and_eq_true, decide_eq_true_iff] at c2
        obtain ⟨i, rfl⟩ := isInt_of c2.1
        obtain rfl : hv = .int i := by cases d4; rfl
        refine iteT ?_
        have pv3 : wZ 3 [some (.ref p), some tv, some (.ref pa), some (.int i), n4, n5, some (.int n), none] H4 := ⟨i, rfl⟩
        have pv0 : wP p 0 [some (.ref p), some tv, some (.ref pa), some (.int i), n4, n5, some (.int n), none] H4 := rfl
        refine ⟨W4, ?_, fun v' d' H5 W5 b5 hd5 ok5 => toN W5 (b24.trans b5) hd5 ok5⟩
        refine And.intro ?_ ⟨n, rfl, n0, by omega⟩
        repeat (first | exact pv3 | exact pv0 | exact True.intro | refine And.intro ?_ ?_)
      | false =>
      refine iteF ?_
      show tAnd _ _ _ _ _
      refine tAnd_val (isStr hd0) (decide (n < 7)) (fun K' hK => ?_) (fun _ H' s' K' hK => ?_) (fun H5 s5 => ?_)
      · refine ⟨_, rfl, ?_⟩
        refine ⟨_, V.ty _, _, _, _, rfl, ClsV.ty _, Dd.ty (d4.all), kit_ty (kit_str hd0), ?_⟩
        exact ⟨_, rfl, hK _ (Same.refl _)⟩
      · exact ⟨_, rfl, n, 7, rfl, rfl, _, rfl, hK _ (Same.refl _)⟩
      have b25 : But p H2 H5 := b24.trans (Same.but s5)
      have W5 := W4.same s5
      have d5 := d4.but (Same.but s5)
      cases c3 : isStr hd0 && decide (n < 7) with
      | true =>
        rw [Bool.and_eq_true, decide_eq_true_iff] at c3
        obtain ⟨x, rfl⟩ := isStr_of c3.1
        obtain rfl := d5.strD
        refine iteT ?_
        have lx : x.length ≤ 100 := by
          have h : (decide (x.length ≤ 100) && PyData.strOk x) = true := sh0
          rw [Bool.and_eq_true, decide_eq_true_iff] at h
          exact h.1
        have pv3 : wS 3 [some (.ref p), some tv, some (.ref pa), some (.str x), n4, n5, some (.int n), none] H5 := ⟨x, rfl, lx⟩
        refine ⟨W5, ?_, fun v' d' H6 W6 b6 hd6 ok6 => toN W6 (b25.trans b6) hd6 ok6⟩
        refine And.intro ?_ ⟨n, rfl, n0, by omega⟩
        repeat (first | exact pv3 | exact True.intro | refine And.intro ?_ ?_)
      | false =>
      refine iteF ?_
      exact ⟨_, rfl, p, rfl, W5, fun v' d' H6 m W6 b6 hd6 => toN W6 (b25.trans b6) (hd6.apart W5.some) (odd_ok d' m)⟩
    case rest2 =>
      have ep2 := b2 _ _ npa ep
      rintro σ H3 ⟨hv, hd1, n4, n5, n6, rfl, W3, b3, d3, o3⟩
      have ep3 := b3 _ _ npa ep2
      refine ⟨_, rfl, pa, qs, rfl, SqL.of ep3, fun r hr => ?_⟩
      have b23 := b3.trans (new_but (p := p) (o := .lst qs.reverse) hr)
      have ner : r ≠ p := (W3.ne hr).symm
      refine ⟨r, rfl, ⟨_, SqL.of upd_same⟩, ?_⟩
      refine for_it walk_list (fun i σ H4 => ∃ hv hd1 n5 n7, σ = [some (.ref p), some tv, some (.ref pa), some hv, n4, n5, n6, n7] ∧ Well H4 p ∧ But p H2 H4 ∧ H4 r = some (.lst qs.reverse) ∧ Dd (L2.del H4 p) hv hd1 ∧ okT hd1 = true)
        ⟨hv, hd1, _, _, rfl, W3.new hr, b23, upd_same, d3.but (new_but hr), o3⟩ (fun i σ H4 _ p => by obtain ⟨_, _, _, _, _, _, _, e, _⟩ := p; exact SqL.of e) (fun i y σ H4p H4 hi pv hy => ?_) (fun σ H4 pv => ?_)
      · obtain ⟨rfl, ey⟩ := hy
        obtain ⟨hv, hd1, n5, n7, rfl, W4, b4, er, d4, o4⟩ := pv
        obtain ⟨t, wt, j, ds, rfl, et, j0, j1, l1000, oks, ddw⟩ := qi y (List.mem_reverse.mp (List.mem_of_getElem? ey))
        have ntp : t ≠ p := fun z => by
          subst z
          obtain ⟨_, _, _, _, e2⟩ := W1
          rw [e2] at et
          cases et
        have b14 := b2.trans b4
        refine ⟨t, _, rfl, SqT.of (b14 _ _ ntp et), rfl, _, _, rfl, _, _, rfl, rfl, ?_⟩
        have pv7 : wV p 7 (isTo 1000) [some (.ref p), some tv, some (.ref pa), some hv, n4, some (.int j), n6, some (.ref wt)] H4 := ⟨_, _, rfl, ddw.but (b1.trans b14), ds, rfl, l1000, oks⟩
        have pv3 : wV p 3 isOk [some (.ref p), some tv, some (.ref pa), some hv, n4, some (.int j), n6, some (.ref wt)] H4 := ⟨hv, hd1, rfl, d4, o4⟩
        have pv5 : wZ 5 [some (.ref p), some tv, some (.ref pa), some hv, n4, some (.int j), n6, some (.ref wt)] H4 := ⟨j, rfl⟩
        refine ⟨W4, ?_, fun v' d' H5 W5 b5 hd5 pd5 => ⟨v', d', _, _, rfl, W5, b4.trans b5, b5 _ _ ner er, hd5, pd5.ok⟩⟩
        repeat (first | exact pv7 | exact pv3 | exact pv5 | exact True.intro | refine And.intro ?_ ?_)
      · obtain ⟨hv, hd1, n5, n7, rfl, W4, b4, er, d4, o4⟩ := pv
        exact ⟨_, rfl, k hv hd1 H4 W4 (b02.trans b4) d4 o4⟩

end

/-- a def of the module, called by its parameters' names alone: g puts the values in the parameters' order -/
structure GdK (P : Program) (w : World) (K : PySem.W.Frag) (mg : Str → Option Value) (base : Heap)
    (CX : CXT) (k : Nat) (x : Str) (ps ks : List Str) (g : List Value → List Value) (gV : List V → List V) (sp : Sp) : Prop where
  ex : ∃ (f : Addr) (fd : FuncData), mg x = some (.ref f) ∧ PySem.W.keepIn K (.ref f) = true ∧ (∀ (s : Shared) (us : List Value), (g us).length = ps.length → BindsTo s fd ⟨[], ks.zip us⟩ (ps.zip (g us))) ∧
    (∀ {vs : List V} {us : List Value}, Vals vs us → Vals (gV vs) (g us)) ∧ Fn P w K mg base CX k f fd ps sp
def tCallKw (sp : Sp) (gV : List V → List V) (E : XK) (tk : TA) : TE := fun σ H Q => tk σ H fun zs H1 => sp (gV zs) H1 Q E
section
variable {X : Cx} {CX : CXT} {k : Nat} {ps ks : List Str} {sp : Sp} {E : XK} {x : Str} {p pos : Pos} {kws : List Keyword} {tk : TA} {g : List Value → List Value} {gV : List V → List V}
/-- f(k = v, ..) -/
theorem pe_gKX (G : GdK X.prog X.w X.K X.mg X.base CX k x ps ks g gV sp) (hr : Room k X.A) (hq : Qt X.A) (hx : Passes CX X E) (hkw : PK X kws tk) (hg : Gl X x := by rfl) (hdb : (x == ("__debug__" : Str)) = false := by decide)
    (hall : (backToKw pos (keywordEach kws X.env)).all (·.1.isSome) = true := by rfl) (hks : (backToKw pos (keywordEach kws X.env)).filterMap (·.1) = ks := by rfl)
    (hpl : ((backTo pos (starEach [] X.env)).any (·.1) || (backToKw pos (keywordEach kws X.env)).any (·.1.isNone)) = false := by rfl) :
    PE X (.Call (.Name x p) [] kws pos) (tCallKw sp gV E tk) := by
  obtain ⟨f, fd, hm, hk, hb, hv, F⟩ := G.ex
  constructor
  intro pins s σ H Q I h
  refine wpAny_Call_Name_kw (ld_glob I hg hm ?_ hdb)
  refine PySem.W.callWith_KW0 (h₀ := X.base) I.ok.mod.kin hk hall ?_ hpl
  refine thn (hkw.run pos pins s σ H _ I h) fun ws s2 ⟨zs, H2, I2, rz, q⟩ => ⟨I2.kIn, ?_⟩
  rw [hks]
  have rv := hv rz
  have hl : (g ws).length = ps.length := by
    rw [← rv.length]
    exact F.len _ _ _ _ q
  refine wpAny_call (codeAny_mono (F.run X.A X.stack s2 H2 ⟨[], ks.zip ws⟩ (g ws) (gV zs) Q E hr hq I2.env0 (hb s2 ws hl) rv q) fun r s' hs => ?_)
  match r, hs with
  | .error e, hs => exact hx pins σ H2 s2 e s' I2 hs
  | .ok (.ret u), hs => exact I2.after hs
theorem pe_gK (G : GdK X.prog X.w X.K X.mg X.base CX0 k x ps ks g gV sp) (hr : Room k X.A) (hq : Qt X.A) (hkw : PK X kws tk) (hg : Gl X x := by rfl) (hdb : (x == ("__debug__" : Str)) = false := by decide)
    (hall : (backToKw pos (keywordEach kws X.env)).all (·.1.isSome) = true := by rfl) (hks : (backToKw pos (keywordEach kws X.env)).filterMap (·.1) = ks := by rfl)
    (hpl : ((backTo pos (starEach [] X.env)).any (·.1) || (backToKw pos (keywordEach kws X.env)).any (·.1.isNone)) = false := by rfl) :
    PE X (.Call (.Name x p) [] kws pos) (tCallKw sp gV E0 tk) := pe_gKX G hr hq pass0 hkw hg hdb hall hks hpl
end
/-- the two values exchanged -/
def swp {α : Type} : List α → List α
  | [a, b] => [b, a]
  | _ => []
theorem swp_vals {vs : List V} {us : List Value} (h : Vals vs us) : Vals (swp vs) (swp us) := by
  cases h with
  | nil => exact .nil
  | cons a t =>
    cases t with
    | nil => exact .nil
    | cons b t =>
      cases t with
      | nil => exact .cons b (.cons a .nil)
      | cons _ _ => exact .nil
theorem boot_all2 : bootBuiltins "all" = some (.builtin "all") := by decide +kernel
theorem tYes_of {σ : L2.St} {H : Hp} {A B : Hp → Prop} (h : A H) : tYes σ H (fun b H3 => if b = true then A H3 else B H3) := by
  show (if true = true then A H else B H)
  exact iteT h
/-- _law_right(well): True -/
def spRight : Sp := fun vs H Q _ => ∃ p : Addr, vs = [.ref p] ∧ Well H p ∧ ∀ H', But p H H' → Q (.bl true) H'
theorem gdk_of {P : Program} {w : World} {K : PySem.W.Frag} {mg : Str → Option Value} {base : Heap} {CX : CXT} {k : Nat} {x : Str} {st : Stmt} {ps ks : List Str} {g : List Value → List Value} {gV : List V → List V} {sp : Sp}
    (D : Df K mg x st)
    (hb : ∀ (kV doc pm : Value) (an : Option Addr) (cdv ct : Value) (us : List Value), (g us).length = ps.length →
      bindArgs (PySem.W.fnOf x x (defArgs st) (defBody st) (defScope st) .none kV doc pm an cdv ct) ⟨[], ks.zip us⟩ = pure (ps.zip (g us)))
    (hv : ∀ {vs : List V} {us : List Value}, Vals vs us → Vals (gV vs) (g us))
    (h : ∀ f fd, Fun K x x st f fd → Fn P w K mg base CX k f fd ps sp) : GdK P w K mg base CX k x ps ks g gV sp := by
  obtain ⟨f, fd, m, F⟩ := D
  refine ⟨f, fd, m, F.kp, fun s us hl => ?_, hv, h f fd F⟩
  obtain ⟨oc, od, kV, doc, pm, an, cdv, ct, osl, rfl, lk, hcd⟩ := F.ex
  exact .of_eq (hb _ _ _ _ _ _ us hl)

local macro_rules | `(tactic| walk_at "stb") => `(tactic| repeat (first | exact stb_T | exact stb_V | exact stb_I | exact stb_P | exact stb_Z | exact stb_S | exact stb_K | refine stb_and ?_ ?_))
local macro_rules | `(tactic| walk_at "pw") => `(tactic| repeat (first | refine And.intro ?_ ?_ | exact True.intro | assumption))
def shS (d : PyData) : Prop := shB 20 d = true
def sh3 (d : PyData) : Prop := shB 3 d = true
def sh4 (d : PyData) : Prop := shB 4 d = true
mutual
theorem Dd.plain {H H' : Hp} (s : ∀ b xs, H b = some (.tup xs) → H' b = some (.tup xs)) : ∀ {n : Nat} {v : V} {d : PyData}, shB n d = true → Dd H v d → Dd H' v d
  | _, _, _, _, .non => .non
  | _, _, _, _, .bl b => .bl b
  | _, _, _, _, .int i => .int i
  | _, _, _, _, .str x => .str x
  | n + 1, _, _, h, .tup e A => .tup (s _ _ e) (DdA.plain s (shB_tup h).2 A)
  | 0, _, _, h, .tup e A => (shB_zero h).elim
  | n, _, _, h, .lst _ _ _ => by cases n <;> cases h
  | n, _, _, h, .dic _ => by cases n <;> cases h
theorem DdA.plain {H H' : Hp} (s : ∀ b xs, H b = some (.tup xs) → H' b = some (.tup xs)) : ∀ {n : Nat} {vs : List V} {ds : List PyData}, (∀ d ∈ ds, shB n d = true) → DdA H vs ds → DdA H' vs ds
  | _, _, _, _, .nil => .nil
  | _, _, _, h, .cons a t => .cons (Dd.plain s (h _ (List.mem_cons_self ..)) a) (DdA.plain s (fun x hx => h x (List.mem_cons_of_mem _ hx)) t)
end
def tWq (p : Addr) (pre : L2.St → Hp → Prop) (n : Nat) : TA := fun σ H Q => Well H p ∧ pre σ H ∧ ∀ vs ds H', Well H' p → But p H H' → DdA (L2.del H' p) vs ds → ds.length = n → (∀ d ∈ ds, shB 3 d = true) → Q vs H'
section
variable {X : Cx} {e e2 : Expr} {es : List Expr} {p : Addr} {p1 p2 p3 : L2.St → Hp → Prop} {pos pos2 : Pos} {n m : Nat} {d : PyData} {t : TE}
theorem dq_of (h : PE X e t) (i : ∀ σ H (Q : VK), Well H p → p1 σ H → (∀ v d H', Well H' p → But p H H' → Dd (L2.del H' p) v d → sh3 d → Q v H') → t σ H Q) : PE X e (tW p p1 sh3) := dw_of h i
theorem dq_str {x : Str} {j : Nat} (h : shB 3 (.str x) = true := by decide +kernel) : PE X (.Constant (.str x) j pos) (tW p pT sh3) := dw_of pe_str fun σ H Q w _ k => k _ (.str x) H w But.refl (.str x) h
theorem dq_nil : PA X [] (tWq p pT 0) := ⟨fun pos pins s σ H Q I ⟨w, _, k⟩ => pa_nil.run pos pins s σ H Q I (k [] [] H w But.refl .nil rfl fun _ z => (nomatch z))⟩
theorem dq_cons (st : Stb p p2) (h : PE X e (tW p p1 sh3)) (hs : PA X es (tWq p p2 n)) (he : starEach (e :: es) X.env = (false, eval e X.env) :: starEach es X.env := by rfl) : PA X (e :: es) (tWq p (pAnd p1 p2) (n + 1)) :=
  ⟨fun pos pins s σ H Q I ⟨w, ⟨q1, q2⟩, k⟩ => (pa_cons h hs he).run pos pins s σ H Q I
    (show tW p p1 sh3 σ H _ from ⟨w, q1, fun v d H1 w1 b1 h1 o1 => show tWq p p2 n σ H1 _ from ⟨w1, st σ H H1 b1 q2, fun vs ds H2 w2 b2 h2 l2 o2 => k _ _ H2 w2 (b1.trans b2) (.cons (h1.but b2) h2) (congrArg Nat.succ l2) fun x hx => (List.mem_cons.mp hx).elim (fun z => z ▸ o1) (o2 x)⟩⟩)⟩
theorem dq_tup {k} (h : PA X es (tWq p p1 n)) (hl : n ≤ 1000 := by decide) : PE X (.Tuple es k pos) (tW p p1 sh4) :=
  pe_imp (pe_tup h) fun σ H Q ⟨w, q, k⟩ => show tWq p p1 n σ H _ from ⟨w, q, fun vs ds H1 w1 b1 h1 l1 o1 => ⟨by rw [h1.length, l1, sizeLine_eq]; omega, fun q hq => k _ _ _ (w1.new hq) (b1.trans (new_but hq))
    (.tup (del_new (w1.ne hq).symm) (h1.mono (new_but hq).del)) (shB_of (by omega) o1)⟩⟩
theorem dq_tup0 {k} : PE X (.Tuple [] k pos) (tW p pT sh3) :=
  pe_imp (pe_tup pa_nil) fun σ H Q ⟨w, q, k⟩ => ⟨Nat.zero_le _, fun q hq => k _ _ _ (w.new hq) (new_but hq) (.tup (del_new (w.ne hq).symm) .nil) rfl⟩
end
theorem num_shs : ∀ n : Fin 30, shB 3 (.str (("k" : Str) ++ ((toString ((n : Nat) : Int) : String) : Str))) = true ∧ shB 3 (.str (("m" : Str) ++ ((toString ((n : Nat) : Int) : String) : Str))) = true := by decide +kernel
theorem num_shk {j : Int} (h0 : 0 ≤ j) (h1 : j < (30 : Nat)) : shB 3 (.str (("k" : Str) ++ ((toString j : String) : Str))) = true := by
  have h := (num_shs ⟨j.toNat, by omega⟩).1
  have e : ((j.toNat : Nat) : Int) = j := by omega
  simp only [e] at h
  exact h
theorem num_shm {j : Int} (h0 : 0 ≤ j) (h1 : j < (30 : Nat)) : shB 3 (.str (("m" : Str) ++ ((toString j : String) : Str))) = true := by
  have h := (num_shs ⟨j.toNat, by omega⟩).2
  have e : ((j.toNat : Nat) : Int) = j := by omega
  simp only [e] at h
  exact h
theorem num_all : ∀ n : Fin 30, ((toString ((n : Nat) : Int) : String) : Str).length ≤ 10 ∧ ((n : Nat) : Int).natAbs.log2 < 1920 := by decide +kernel
theorem num_log {j : Int} (h0 : 0 ≤ j) (h1 : j < (30 : Nat)) : j.natAbs.log2 < 1920 := by
  have h := (num_all ⟨j.toNat, by omega⟩).2
  have e : ((j.toNat : Nat) : Int) = j := by omega
  simp only [e] at h
  exact h
theorem num_len {j : Int} (h0 : 0 ≤ j) (h1 : j < (30 : Nat)) : ((toString j : String) : Str).length ≤ 10 := by
  have h := (num_all ⟨j.toNat, by omega⟩).1
  have e : ((j.toNat : Nat) : Int) = j := by omega
  simp only [e] at h
  exact h
theorem num_lenS {j : Int} {y : Str} (h0 : 0 ≤ j) (h1 : j < (30 : Nat)) (l : y.length ≤ 100) : y.length + ((toString j : String) : Str).length ≤ sizeLine := by
  have := num_len h0 h1
  rw [sizeLine_eq]; omega
theorem num_ok {j : Int} {y : Str} (h0 : 0 ≤ j) (h1 : j < (30 : Nat)) (l : y.length ≤ 100) : okT (.str (y ++ ((toString j : String) : Str))) = true := decide_eq_true (by
  have := num_len h0 h1
  rw [Str.length_append]; omega)
theorem wV_set {p : Addr} {i j : Nat} {P : PyData → Prop} {σ : L2.St} {H : Hp} {x : Option V} (h : j ≠ i) (w : wV p i P σ H) : wV p i P (σ.set j x) H :=
  let ⟨v, d, a, b⟩ := w
  ⟨v, d, by rw [List.getElem?_set_ne h]; exact a, b⟩
theorem wZ_set {i j : Nat} {σ : L2.St} {H : Hp} {x : Option V} (h : j ≠ i) (w : wZ i σ H) : wZ i (σ.set j x) H :=
  let ⟨k, a⟩ := w
  ⟨k, by rw [List.getElem?_set_ne h]; exact a⟩
theorem wP_set {p : Addr} {i j : Nat} {σ : L2.St} {H : Hp} {x : Option V} (h : j ≠ i) (w : wP p i σ H) : wP p i (σ.set j x) H := by
  unfold wP at w ⊢
  rw [List.getElem?_set_ne h]
  exact w
theorem wV_new {p : Addr} {i : Nat} {P : PyData → Prop} {σ : L2.St} {H : Hp} {v : V} {d : PyData} (l : i < σ.length) (h : Dd (L2.del H p) v d) (q : P d) : wV p i P (σ.set i (some v)) H :=
  ⟨v, d, by rw [List.getElem?_set_self l], h, q⟩
theorem gen_st {t : TS} {D : Ends} {σ : L2.St} {H : Hp} {I : L2.St → Hp → Prop} (h : ∀ σ H, I σ H → t D σ H) (i : I σ H) : t D σ H := h σ H i
/-- what the slots hold meanwhile -/
structure Th (p : Addr) (H0 : Hp) (n : Nat) (a b c : Bool) (σ : L2.St) (H : Hp) : Prop where
  l : σ.length = 15
  w : Well H p
  bt : But p H0 H
  c0 : wP p 0 σ H
  s : wV p 1 (isTo 2) σ H
  ss : wV p 1 shS σ H
  k : wV p 2 (isTo 4) σ H
  m : wV p 3 (isTo 8) σ H
  nm : wV p 4 isOk σ H
  nn : wV p 4 sh3 σ H
  at_ : wZ 6 σ H
  ow : wV p 7 isOk σ H
  ar : wV p 8 isOk σ H
  so : n ≠ 0 → wV p 10 (isLo n) σ H
  ma : a = true → wV p 11 (isTo 9) σ H
  mo : b = true → wV p 13 (isTo 25) σ H
  ri : c = true → wV p 14 (isTo 2) σ H
section
variable {p : Addr} {H0 H H' : Hp} {n m : Nat} {a b c : Bool} {σ : L2.St} {v : V} {d : PyData}
theorem Th.so_ (T : Th p H0 n a b c σ H) (W : Well H' p) (bt : But p H H') (h : Dd (L2.del H' p) v d) (q : isLo m d) : Th p H0 m a b c (σ.set 10 (some v)) H' where
  l := by rw [List.length_set]; exact T.l
  w := W
  bt := T.bt.trans bt
  c0 := wP_set (by decide) T.c0
  s := wV_set (by decide) (stb_V _ _ _ bt T.s)
  ss := wV_set (by decide) (stb_V _ _ _ bt T.ss)
  k := wV_set (by decide) (stb_V _ _ _ bt T.k)
  m := wV_set (by decide) (stb_V _ _ _ bt T.m)
  nm := wV_set (by decide) (stb_V _ _ _ bt T.nm)
  nn := wV_set (by decide) (stb_V _ _ _ bt T.nn)
  at_ := wZ_set (by decide) T.at_
  ow := wV_set (by decide) (stb_V _ _ _ bt T.ow)
  ar := wV_set (by decide) (stb_V _ _ _ bt T.ar)
  so := fun _ => wV_new (by rw [T.l]; decide) h q
  ma := fun z => wV_set (by decide) (stb_V _ _ _ bt (T.ma z))
  mo := fun z => wV_set (by decide) (stb_V _ _ _ bt (T.mo z))
  ri := fun z => wV_set (by decide) (stb_V _ _ _ bt (T.ri z))
theorem Th.ma_ (T : Th p H0 n a b c σ H) (W : Well H' p) (bt : But p H H') (h : Dd (L2.del H' p) v d) (q : isTo 9 d) : Th p H0 n true b c (σ.set 11 (some v)) H' where
  l := by rw [List.length_set]; exact T.l
  w := W
  bt := T.bt.trans bt
  c0 := wP_set (by decide) T.c0
  s := wV_set (by decide) (stb_V _ _ _ bt T.s)
  ss := wV_set (by decide) (stb_V _ _ _ bt T.ss)
  k := wV_set (by decide) (stb_V _ _ _ bt T.k)
  m := wV_set (by decide) (stb_V _ _ _ bt T.m)
  nm := wV_set (by decide) (stb_V _ _ _ bt T.nm)
  nn := wV_set (by decide) (stb_V _ _ _ bt T.nn)
  at_ := wZ_set (by decide) T.at_
  ow := wV_set (by decide) (stb_V _ _ _ bt T.ow)
  ar := wV_set (by decide) (stb_V _ _ _ bt T.ar)
  so := fun z => wV_set (by decide) (stb_V _ _ _ bt (T.so z))
  ma := fun _ => wV_new (by rw [T.l]; decide) h q
  mo := fun z => wV_set (by decide) (stb_V _ _ _ bt (T.mo z))
  ri := fun z => wV_set (by decide) (stb_V _ _ _ bt (T.ri z))
theorem Th.mo_ (T : Th p H0 n a b c σ H) (W : Well H' p) (bt : But p H H') (h : Dd (L2.del H' p) v d) (q : isTo 25 d) : Th p H0 n a true c (σ.set 13 (some v)) H' where
  l := by rw [List.length_set]; exact T.l
  w := W
  bt := T.bt.trans bt
  c0 := wP_set (by decide) T.c0
  s := wV_set (by decide) (stb_V _ _ _ bt T.s)
  ss := wV_set (by decide) (stb_V _ _ _ bt T.ss)
  k := wV_set (by decide) (stb_V _ _ _ bt T.k)
  m := wV_set (by decide) (stb_V _ _ _ bt T.m)
  nm := wV_set (by decide) (stb_V _ _ _ bt T.nm)
  nn := wV_set (by decide) (stb_V _ _ _ bt T.nn)
  at_ := wZ_set (by decide) T.at_
  ow := wV_set (by decide) (stb_V _ _ _ bt T.ow)
  ar := wV_set (by decide) (stb_V _ _ _ bt T.ar)
  so := fun z => wV_set (by decide) (stb_V _ _ _ bt (T.so z))
  ma := fun z => wV_set (by decide) (stb_V _ _ _ bt (T.ma z))
  mo := fun _ => wV_new (by rw [T.l]; decide) h q
  ri := fun z => wV_set (by decide) (stb_V _ _ _ bt (T.ri z))
theorem Th.ri_ (T : Th p H0 n a b c σ H) (W : Well H' p) (bt : But p H H') (h : Dd (L2.del H' p) v d) (q : isTo 2 d) : Th p H0 n a b true (σ.set 14 (some v)) H' where
  l := by rw [List.length_set]; exact T.l
  w := W
  bt := T.bt.trans bt
  c0 := wP_set (by decide) T.c0
  s := wV_set (by decide) (stb_V _ _ _ bt T.s)
  ss := wV_set (by decide) (stb_V _ _ _ bt T.ss)
  k := wV_set (by decide) (stb_V _ _ _ bt T.k)
  m := wV_set (by decide) (stb_V _ _ _ bt T.m)
  nm := wV_set (by decide) (stb_V _ _ _ bt T.nm)
  nn := wV_set (by decide) (stb_V _ _ _ bt T.nn)
  at_ := wZ_set (by decide) T.at_
  ow := wV_set (by decide) (stb_V _ _ _ bt T.ow)
  ar := wV_set (by decide) (stb_V _ _ _ bt T.ar)
  so := fun z => wV_set (by decide) (stb_V _ _ _ bt (T.so z))
  ma := fun z => wV_set (by decide) (stb_V _ _ _ bt (T.ma z))
  mo := fun z => wV_set (by decide) (stb_V _ _ _ bt (T.mo z))
  ri := fun _ => wV_new (by rw [T.l]; decide) h q
end
/-- _law_things(well, sig): a list of things -/
def spThings : Sp := fun vs H Q _ => ∃ (p : Addr) (v : V) (kd md : List PyData), vs = [.ref p, v] ∧ Well H p ∧ Dd (L2.del H p) v (.tuple [.tuple kd, .tuple md]) ∧ SigF kd md ∧
  ∀ (l : Addr) (ys : List V) (ds : List PyData) (H' : Hp), Well H' p → But p H H' → H' l = some (.lst ys) → DdA (L2.del H' p) ys ds → (∀ d ∈ ds, okT d = true) → ds.length ≤ 100 → Q (.ref l) H'

section
variable {P : Program} {w : World} {K : PySem.W.Frag} {mg : Str → Option Value} {base : Heap}

theorem sc_things : FnScope ["well", "sig", "kinds", "makers", "name", "word", "at", "own", "args", "made", "some", "many", "k", "more", "ring"] ["well", "sig"] (defScope s_things) := ⟨rfl, rfl, rfl, by decide +kernel, rfl, by decide +kernel, by decide +kernel⟩
theorem ok_things (D : Df K mg "_law_things" s_things) (B : Bi mg) (G1 : Gd P w K mg base CX0 1 "_law_draw" ["well", "few"] spDraw) (G2 : Gd P w K mg base CX0 2 "_law_one" ["well", "some"] (spOne K)) (G3 : Gd P w K mg base CX0 4 "_law_bent" ["well", "thing"] spBent) (G4 : Gd P w K mg base CX0 3 "_law_odd_thing" ["well"] spOdd) : Gd P w K mg base CX0 5 "_law_things" ["well", "sig"] spThings := by
  refine gd_of D (fun _ _ _ _ _ _ us hl => match us, hl with | [_, _], _ => rfl) fun f fd F => ?_
  refine fun_q F sc_things (fun vs H Q E h => by obtain ⟨p, v, kd, md, rfl, _⟩ := h; rfl) (fun cdv A outer s H vs Q E hr hq h => ?_)
  obtain ⟨p, v, kd, md, rfl, W, hd, sf, k⟩ := h
  refine ⟨_, (pss_cons (ps_asg (pv 1) (pg_tup rfl (pgs_cons (pg_name (i := 2) sc_things.nd rfl (Or.inl rfl)) (pgs_cons (pg_name (i := 3) sc_things.nd rfl (Or.inl rfl)) pgs_nil))))
      (pss_cons (ps_asg (pe_g (G2.mono (by decide)) hr hq (pa_cons (pv 0) (pa_cons (pv 2) pa_nil))) (pg_tup rfl (pgs_cons (pg_name (i := 4) sc_things.nd rfl (Or.inr rfl)) (pgs_cons (pg_name (i := 5) sc_things.nd rfl (Or.inl rfl)) pgs_nil))))
      (pss_cons (ps_set (i := 6) sc_things.nd rfl (Or.inl rfl) (pe_g (G1.mono (by decide)) hr hq (pa_cons (pv 0) (pa_cons (pe_callB call_len_seq (by rfl) B.len (by decide +kernel) (pa_cons (pv 3) pa_nil)) pa_nil))))
      (pss_cons (ps_asg (pe_ix ix_tup (pv 3) (pv 6) (fun _ _ => rfl)) (pg_tup rfl (pgs_cons (pg_name (i := 7) sc_things.nd rfl (Or.inl rfl)) (pgs_cons (pg_name (i := 8) sc_things.nd rfl (Or.inl rfl)) (pgs_cons (pg_name (i := 9) sc_things.nd rfl (Or.inl rfl)) pgs_nil)))))
      (pss_cons (ps_set (i := 10) sc_things.nd rfl (Or.inl rfl) (dw_lst (p := p) (dws_cons (by walk_at "stb") (dw_ok (dw_var (P := isTo 2) (pv 1))) (dws_cons (by walk_at "stb") (dw_okL (dw_list B.list (dw_var (P := isTo 2) (pv 1)))) (dws_cons (by walk_at "stb") (dw_ok (dw_tup (p := p) (dws_cons (by walk_at "stb") (dw_ok (dw_var (P := isTo 4) (pv 2))) dws_nil))) (dws_cons (by walk_at "stb") (dw_ok (dw_tup (p := p) (dws_cons (by walk_at "stb") (dw_okL (dw_list B.list (dw_var (P := isTo 4) (pv 2)))) (dws_cons (by walk_at "stb") (dw_ok (dw_var (P := isTo 8) (pv 3))) dws_nil)))) (dws_cons (by walk_at "stb") (dw_ok (dw_tup (p := p) (dws_cons (by walk_at "stb") (dw_ok (dw_var (P := isTo 4) (pv 2))) (dws_cons (by walk_at "stb") (dw_okL (dw_list B.list (dw_var (P := isTo 8) (pv 3)))) dws_nil)))) (dws_cons (by walk_at "stb") (dw_ok (dw_tup (p := p) (dws_cons (by walk_at "stb") (dw_ok (dw_var (P := isTo 4) (pv 2))) (dws_cons (by walk_at "stb") (dw_ok (dw_tup (p := p) dws_nil)) dws_nil)))) (dws_cons (by walk_at "stb") (dw_ok (dw_tup (p := p) (dws_cons (by walk_at "stb") (dw_ok (dw_tup (p := p) dws_nil)) (dws_cons (by walk_at "stb") (dw_ok (dw_var (P := isTo 8) (pv 3))) dws_nil)))) (dws_cons (by walk_at "stb") (dw_ok (dw_cat (p := p) (by walk_at "stb") (dw_var (P := isTo 2) (pv 1)) (dw_tup (p := p) (dws_cons (by walk_at "stb") (dw_ok (dw_tup (p := p) dws_nil)) dws_nil)))) dws_nil))))))))))
      (pss_cons (ps_set (i := 10) sc_things.nd rfl (Or.inl rfl) (dw_catL (p := p) (by walk_at "stb") (dw_var (P := isLo 8) (pv 10)) (dw_lst (p := p) (dws_cons (by walk_at "stb") (dw_ok (dw_tup (p := p) (dws_cons (by walk_at "stb") (dw_ok (dw_cat (p := p) (by walk_at "stb") (dw_var (P := isTo 4) (pv 2)) (dw_tup (p := p) (dws_cons (by walk_at "stb") (dw_ok (dw_tup (p := p) (dws_cons (by walk_at "stb") dw_str (dws_cons (by walk_at "stb") dw_str dws_nil)))) dws_nil)))) (dws_cons (by walk_at "stb") (dw_ok (dw_var (P := isTo 8) (pv 3))) dws_nil)))) (dws_cons (by walk_at "stb") (dw_ok (dw_tup (p := p) (dws_cons (by walk_at "stb") (dw_ok (dw_cat (p := p) (by walk_at "stb") (dw_var (P := isTo 4) (pv 2)) (dw_tup (p := p) (dws_cons (by walk_at "stb") (dw_ok (dw_tup (p := p) (dws_cons (by walk_at "stb") dw_str (dws_cons (by walk_at "stb") dw_str dws_nil)))) dws_nil)))) (dws_cons (by walk_at "stb") (dw_ok (dw_var (P := isTo 8) (pv 3))) dws_nil)))) (dws_cons (by walk_at "stb") (dw_ok (dw_tup (p := p) (dws_cons (by walk_at "stb") (dw_ok (dw_cat (p := p) (by walk_at "stb") (dw_var (P := isTo 4) (pv 2)) (dw_cut (p2 := pT) (dw_var (P := isTo 4) (pv 2)) po_none (po_some pe_int) (fun _ _ _ _ q => q none) (fun _ _ _ _ q => ⟨_, rfl, q _⟩) stb_T))) (dws_cons (by walk_at "stb") (dw_ok (dw_var (P := isTo 8) (pv 3))) dws_nil)))) dws_nil))))))
      (pss_cons (ps_set (i := 10) sc_things.nd rfl (Or.inl rfl) (dw_catL (p := p) (by walk_at "stb") (dw_var (P := isLo 11) (pv 10)) (dw_lst (p := p) (dws_cons (by walk_at "stb") (dw_ok (dw_tup (p := p) (dws_cons (by walk_at "stb") (dw_ok (dw_cat (p := p) (by walk_at "stb") (dw_var (P := isTo 4) (pv 2)) (dw_tup (p := p) (dws_cons (by walk_at "stb") (dw_ok (dw_tup (p := p) (dws_cons (by walk_at "stb") dw_str (dws_cons (by walk_at "stb") dw_str dws_nil)))) dws_nil)))) (dws_cons (by walk_at "stb") (dw_ok (dw_cat (p := p) (by walk_at "stb") (dw_var (P := isTo 8) (pv 3)) (dw_tup (p := p) (dws_cons (by walk_at "stb") (dw_ok (dw_tup (p := p) (dws_cons (by walk_at "stb") dw_str (dws_cons (by walk_at "stb") (dw_ok (dw_tup (p := p) (dws_cons (by walk_at "stb") dw_str dws_nil))) (dws_cons (by walk_at "stb") dw_str dws_nil))))) dws_nil)))) dws_nil)))) (dws_cons (by walk_at "stb") (dw_ok (dw_tup (p := p) (dws_cons (by walk_at "stb") (dw_ok (dw_cat (p := p) (by walk_at "stb") (dw_var (P := isTo 4) (pv 2)) (dw_tup (p := p) (dws_cons (by walk_at "stb") (dw_ok (dw_tup (p := p) (dws_cons (by walk_at "stb") dw_str (dws_cons (by walk_at "stb") dw_str dws_nil)))) dws_nil)))) (dws_cons (by walk_at "stb") (dw_ok (dw_var (P := isTo 8) (pv 3))) dws_nil)))) dws_nil)))))
      (pss_cons (ps_set (i := 10) sc_things.nd rfl (Or.inl rfl) (dw_catL (p := p) (by walk_at "stb") (dw_var (P := isLo 13) (pv 10)) (dw_lst (p := p) (dws_cons (by walk_at "stb") (dw_ok (dw_tup (p := p) (dws_cons (by walk_at "stb") (dw_ok (dw_var (P := isTo 4) (pv 2))) (dws_cons (by walk_at "stb") (dw_ok (dw_cat (p := p) (by walk_at "stb") (dw_var (P := isTo 8) (pv 3)) (dw_cut (p2 := pT) (dw_var (P := isTo 8) (pv 3)) po_none (po_some pe_int) (fun _ _ _ _ q => q none) (fun _ _ _ _ q => ⟨_, rfl, q _⟩) stb_T))) dws_nil)))) (dws_cons (by walk_at "stb") (dw_ok (dw_tup (p := p) (dws_cons (by walk_at "stb") (dw_ok (dw_var (P := isTo 4) (pv 2))) (dws_cons (by walk_at "stb") (dw_ok (dw_cat (p := p) (by walk_at "stb") (dw_var (P := isTo 8) (pv 3)) (dw_tup (p := p) (dws_cons (by walk_at "stb") (dw_ok (dw_tup (p := p) (dws_cons (by walk_at "stb") dw_str (dws_cons (by walk_at "stb") (dw_ok (dw_tup (p := p) (dws_cons (by walk_at "stb") (dw_var (P := isOk) (pv 4)) (dws_cons (by walk_at "stb") (dw_var (P := isOk) (pv 4)) (dws_cons (by walk_at "stb") (dw_var (P := isOk) (pv 4)) dws_nil))))) (dws_cons (by walk_at "stb") (dw_var (P := isOk) (pv 4)) dws_nil))))) dws_nil)))) dws_nil)))) (dws_cons (by walk_at "stb") (dw_ok (dw_tup (p := p) (dws_cons (by walk_at "stb") (dw_ok (dw_cut (p2 := pT) (dw_var (P := isTo 4) (pv 2)) (po_some pe_int) po_none (fun _ _ _ _ q => ⟨_, rfl, q _⟩) (fun _ _ _ _ q => q none) stb_T)) (dws_cons (by walk_at "stb") (dw_ok (dw_var (P := isTo 8) (pv 3))) dws_nil)))) dws_nil))))))
      (pss_cons (ps_set (i := 10) sc_things.nd rfl (Or.inl rfl) (dw_catL (p := p) (by walk_at "stb") (dw_var (P := isLo 16) (pv 10)) (dw_lst (p := p) (dws_cons (by walk_at "stb") (dw_ok (dw_tup (p := p) (dws_cons (by walk_at "stb") (dw_ok (dw_var (P := isTo 4) (pv 2))) (dws_cons (by walk_at "stb") (dw_ok (dw_cat (p := p) (by walk_at "stb") (dw_var (P := isTo 8) (pv 3)) (dw_tup (p := p) (dws_cons (by walk_at "stb") (dw_ok (dw_tup (p := p) (dws_cons (by walk_at "stb") dw_str (dws_cons (by walk_at "stb") (dw_ok (dw_rep (dw_var (P := isOk) (pv 4)))) (dws_cons (by walk_at "stb") (dw_var (P := isOk) (pv 4)) dws_nil))))) dws_nil)))) dws_nil)))) (dws_cons (by walk_at "stb") (dw_ok (dw_tup (p := p) (dws_cons (by walk_at "stb") (dw_ok (dw_var (P := isTo 4) (pv 2))) (dws_cons (by walk_at "stb") (dw_ok (dw_cat (p := p) (by walk_at "stb") (dw_var (P := isTo 8) (pv 3)) (dw_tup (p := p) (dws_cons (by walk_at "stb") (dw_ok (dw_tup (p := p) (dws_cons (by walk_at "stb") dw_str (dws_cons (by walk_at "stb") (dw_ok (dw_tup (p := p) (dws_cons (by walk_at "stb") dw_str dws_nil))) (dws_cons (by walk_at "stb") (dw_var (P := isOk) (pv 4)) dws_nil))))) dws_nil)))) dws_nil)))) dws_nil)))))
      (pss_cons (ps_set (i := 10) sc_things.nd rfl (Or.inl rfl) (dw_catL (p := p) (by walk_at "stb") (dw_var (P := isLo 18) (pv 10)) (dw_lst (p := p) (dws_cons (by walk_at "stb") (dw_ok (dw_tup (p := p) (dws_cons (by walk_at "stb") (dw_ok (dw_var (P := isTo 4) (pv 2))) (dws_cons (by walk_at "stb") (dw_ok (dw_cat (p := p) (by walk_at "stb") (dw_var (P := isTo 8) (pv 3)) (dw_tup (p := p) (dws_cons (by walk_at "stb") (dw_ok (dw_tup (p := p) (dws_cons (by walk_at "stb") dw_str (dws_cons (by walk_at "stb") (dw_okL (dw_lst (p := p) (dws_cons (by walk_at "stb") (dw_var (P := isOk) (pv 4)) dws_nil))) (dws_cons (by walk_at "stb") (dw_var (P := isOk) (pv 4)) dws_nil))))) dws_nil)))) dws_nil)))) (dws_cons (by walk_at "stb") (dw_ok (dw_tup (p := p) (dws_cons (by walk_at "stb") (dw_ok (dw_var (P := isTo 4) (pv 2))) (dws_cons (by walk_at "stb") (dw_ok (dw_cat (p := p) (by walk_at "stb") (dw_var (P := isTo 8) (pv 3)) (dw_tup (p := p) (dws_cons (by walk_at "stb") (dw_ok (dw_tup (p := p) (dws_cons (by walk_at "stb") dw_str (dws_cons (by walk_at "stb") (dw_ok (dw_tup (p := p) dws_nil)) (dws_cons (by walk_at "stb") dw_str dws_nil))))) dws_nil)))) dws_nil)))) dws_nil)))))
      (pss_cons (ps_set (i := 10) sc_things.nd rfl (Or.inl rfl) (dw_catL (p := p) (by walk_at "stb") (dw_var (P := isLo 20) (pv 10)) (dw_lst (p := p) (dws_cons (by walk_at "stb") (dw_ok (dw_tup (p := p) (dws_cons (by walk_at "stb") (dw_ok (dw_var (P := isTo 4) (pv 2))) (dws_cons (by walk_at "stb") (dw_ok (dw_cat (p := p) (by walk_at "stb") (dw_var (P := isTo 8) (pv 3)) (dw_tup (p := p) (dws_cons (by walk_at "stb") (dw_ok (dw_tup (p := p) (dws_cons (by walk_at "stb") dw_str (dws_cons (by walk_at "stb") (dw_ok (dw_tup (p := p) dws_nil)) (dws_cons (by walk_at "stb") (dw_var (P := isOk) (pv 4)) dws_nil))))) dws_nil)))) dws_nil)))) (dws_cons (by walk_at "stb") (dw_ok (dw_tup (p := p) (dws_cons (by walk_at "stb") (dw_ok (dw_var (P := isTo 4) (pv 2))) (dws_cons (by walk_at "stb") (dw_ok (dw_cat (p := p) (by walk_at "stb") (dw_var (P := isTo 8) (pv 3)) (dw_tup (p := p) (dws_cons (by walk_at "stb") (dw_ok (dw_tup (p := p) (dws_cons (by walk_at "stb") dw_times (dws_cons (by walk_at "stb") (dw_ok (dw_tup (p := p) dws_nil)) (dws_cons (by walk_at "stb") (dw_var (P := isOk) (pv 4)) dws_nil))))) dws_nil)))) dws_nil)))) (dws_cons (by walk_at "stb") (dw_ok (dw_tup (p := p) (dws_cons (by walk_at "stb") (dw_ok (dw_var (P := isTo 4) (pv 2))) (dws_cons (by walk_at "stb") (dw_ok (dw_cat (p := p) (by walk_at "stb") (dw_cut (p2 := wZ 6) (dw_var (P := isTo 8) (pv 3)) po_none (po_some (pv 6)) (fun _ _ _ _ q => q none) (fun σ H Q ⟨k, h⟩ q => ⟨_, h, k, rfl, q _⟩) stb_Z) (dw_cut (p2 := wZ 6) (dw_var (P := isTo 8) (pv 3)) (po_some (pe_op op_add (pv 6) pe_int)) po_none (fun σ H Q ⟨k, h⟩ q => ⟨_, h, k, _, rfl, rfl, _, rfl, q _⟩) (fun _ _ _ _ q => q none) stb_Z))) dws_nil)))) dws_nil))))))
      (pss_cons (ps_set (i := 10) sc_things.nd rfl (Or.inl rfl) (dw_catL (p := p) (by walk_at "stb") (dw_var (P := isLo 23) (pv 10)) (dw_lst (p := p) (dws_cons (by walk_at "stb") (dw_ok (dw_tup (p := p) (dws_cons (by walk_at "stb") (dw_ok (dw_var (P := isTo 4) (pv 2))) (dws_cons (by walk_at "stb") (dw_ok (dw_cat (p := p) (by walk_at "stb") (dw_var (P := isTo 8) (pv 3)) (dw_tup (p := p) (dws_cons (by walk_at "stb") (dw_ok (dw_tup (p := p) (dws_cons (by walk_at "stb") dw_times (dws_cons (by walk_at "stb") (dw_ok (dw_tup (p := p) dws_nil)) (dws_cons (by walk_at "stb") (dw_var (P := isOk) (pv 4)) dws_nil))))) dws_nil)))) dws_nil)))) (dws_cons (by walk_at "stb") (dw_ok (dw_tup (p := p) (dws_cons (by walk_at "stb") (dw_ok (dw_var (P := isTo 4) (pv 2))) (dws_cons (by walk_at "stb") (dw_ok (dw_cat (p := p) (by walk_at "stb") (dw_var (P := isTo 8) (pv 3)) (dw_tup (p := p) (dws_cons (by walk_at "stb") (dw_ok (dw_tup (p := p) (dws_cons (by walk_at "stb") dw_str (dws_cons (by walk_at "stb") (dw_ok (dw_tup (p := p) dws_nil)) (dws_cons (by walk_at "stb") (dw_var (P := isOk) (pv 4)) dws_nil))))) dws_nil)))) dws_nil)))) (dws_cons (by walk_at "stb") (dw_ok (dw_tup (p := p) (dws_cons (by walk_at "stb") (dw_ok (dw_var (P := isTo 4) (pv 2))) (dws_cons (by walk_at "stb") (dw_ok (dw_cat (p := p) (by walk_at "stb") (dw_var (P := isTo 8) (pv 3)) (dw_tup (p := p) (dws_cons (by walk_at "stb") (dw_ok (dw_tup (p := p) (dws_cons (by walk_at "stb") dw_str (dws_cons (by walk_at "stb") (dw_ok (dw_tup (p := p) dws_nil)) (dws_cons (by walk_at "stb") (dw_var (P := isOk) (pv 4)) dws_nil))))) dws_nil)))) dws_nil)))) (dws_cons (by walk_at "stb") (dw_ok (dw_tup (p := p) (dws_cons (by walk_at "stb") (dw_ok (dw_var (P := isTo 4) (pv 2))) (dws_cons (by walk_at "stb") (dw_ok (dw_cat (p := p) (by walk_at "stb") (dw_var (P := isTo 8) (pv 3)) (dw_tup (p := p) (dws_cons (by walk_at "stb") (dw_ok (dw_tup (p := p) (dws_cons (by walk_at "stb") dw_str (dws_cons (by walk_at "stb") (dw_ok (dw_tup (p := p) dws_nil)) (dws_cons (by walk_at "stb") (dw_var (P := isOk) (pv 4)) dws_nil))))) dws_nil)))) dws_nil)))) (dws_cons (by walk_at "stb") (dw_ok (dw_tup (p := p) (dws_cons (by walk_at "stb") (dw_ok (dw_var (P := isTo 4) (pv 2))) (dws_cons (by walk_at "stb") (dw_ok (dw_cat (p := p) (by walk_at "stb") (dw_var (P := isTo 8) (pv 3)) (dw_tup (p := p) (dws_cons (by walk_at "stb") (dw_ok (dw_tup (p := p) (dws_cons (by walk_at "stb") (dw_var (P := isOk) (pv 4)) (dws_cons (by walk_at "stb") (dw_ok (dw_tup (p := p) dws_nil)) (dws_cons (by walk_at "stb") (dw_var (P := isOk) (pv 4)) dws_nil))))) dws_nil)))) dws_nil)))) dws_nil))))))))
      (pss_cons (ps_set (i := 11) sc_things.nd rfl (Or.inl rfl) (pe_callTy call_tuple_of (by rfl) B.tuple (by decide +kernel) (pa_cons (pe_lc (own := [("k", 12)]) (g := (gName 12)) (tt := tYes) rfl sc_things.nd (pi_range1 rfl B.range (pa_cons (pe_op op_sub pe_int (pe_callB call_len_seq (by rfl) B.len (by decide +kernel) (pa_cons (pv 2) pa_nil))) pa_nil)) (blkOk_by (own := [("k", 12)]) (N := ["well", "sig", "kinds", "makers", "name", "word", "at", "own", "args", "made", "some", "many", "k", "more", "ring"]) (sc := defScope s_things) (by decide +kernel)) (fun _ _ _ _ _ => (pg_name (i := 12) sc_things.nd rfl (Or.inl rfl))) (fun _ _ _ _ _ => pts_nil) (fun _ _ _ _ _ => (dq_tup (p := p) (dq_cons (by walk_at "stb") (dq_of (p1 := wK 12 30) (pe_op op_add_str pe_str (pe_callTy call_str_int (by rfl) B.str (by decide +kernel) (pa_cons (pv 12) pa_nil))) (fun σ H Q w ⟨j, h, j0, j1⟩ k => ⟨_, h, j, rfl, num_log j0 j1, _, _, rfl, rfl, num_lenS j0 j1 (by decide), k _ (.str _) H w But.refl (.str _) (num_shk j0 j1)⟩)) (dq_cons (by walk_at "stb") dq_str dq_nil))))) pa_nil)))
      (pss_cons (ps_set (i := 10) sc_things.nd rfl (Or.inl rfl) (dw_catL (p := p) (by walk_at "stb") (dw_var (P := isLo 28) (pv 10)) (dw_lst (p := p) (dws_cons (by walk_at "stb") (dw_ok (dw_tup (p := p) (dws_cons (by walk_at "stb") (dw_ok (dw_cat (p := p) (by walk_at "stb") (dw_var (P := isTo 4) (pv 2)) (dw_var (P := isTo 9) (pv 11)))) (dws_cons (by walk_at "stb") (dw_ok (dw_var (P := isTo 8) (pv 3))) dws_nil)))) (dws_cons (by walk_at "stb") (dw_ok (dw_tup (p := p) (dws_cons (by walk_at "stb") (dw_ok (dw_cat (p := p) (by walk_at "stb") (dw_var (P := isTo 4) (pv 2)) (dw_cut (p2 := pT) (dw_var (P := isTo 9) (pv 11)) (po_some pe_int) po_none (fun _ _ _ _ q => ⟨_, rfl, q _⟩) (fun _ _ _ _ q => q none) stb_T))) (dws_cons (by walk_at "stb") (dw_ok (dw_var (P := isTo 8) (pv 3))) dws_nil)))) (dws_cons (by walk_at "stb") (dw_ok (dw_tup (p := p) (dws_cons (by walk_at "stb") (dw_ok (dw_var (P := isTo 4) (pv 2))) (dws_cons (by walk_at "stb") (dw_ok (dw_cat (p := p) (by walk_at "stb") (dw_var (P := isTo 8) (pv 3)) (dw_tup (p := p) (dws_cons (by walk_at "stb") (dw_ok (dw_tup (p := p) (dws_cons (by walk_at "stb") dw_str (dws_cons (by walk_at "stb") (dw_ok (dw_tup (p := p) dws_nil)) (dws_cons (by walk_at "stb") dw_non dws_nil))))) dws_nil)))) dws_nil)))) dws_nil))))))
      (pss_cons (ps_set (i := 13) sc_things.nd rfl (Or.inl rfl) (pe_callTy call_tuple_of (by rfl) B.tuple (by decide +kernel) (pa_cons (pe_lc (own := [("k", 12)]) (g := (gName 12)) (tt := tYes) rfl sc_things.nd (pi_range1 rfl B.range (pa_cons (pe_op op_sub pe_int (pe_callB call_len_seq (by rfl) B.len (by decide +kernel) (pa_cons (pv 3) pa_nil))) pa_nil)) (blkOk_by (own := [("k", 12)]) (N := ["well", "sig", "kinds", "makers", "name", "word", "at", "own", "args", "made", "some", "many", "k", "more", "ring"]) (sc := defScope s_things) (by decide +kernel)) (fun _ _ _ _ _ => (pg_name (i := 12) sc_things.nd rfl (Or.inl rfl))) (fun _ _ _ _ _ => pts_nil) (fun _ _ _ _ _ => (dq_tup (p := p) (dq_cons (by walk_at "stb") (dq_of (p1 := wK 12 30) (pe_op op_add_str pe_str (pe_callTy call_str_int (by rfl) B.str (by decide +kernel) (pa_cons (pv 12) pa_nil))) (fun σ H Q w ⟨j, h, j0, j1⟩ k => ⟨_, h, j, rfl, num_log j0 j1, _, _, rfl, rfl, num_lenS j0 j1 (by decide), k _ (.str _) H w But.refl (.str _) (num_shm j0 j1)⟩)) (dq_cons (by walk_at "stb") dq_tup0 (dq_cons (by walk_at "stb") (dw_var (P := sh3) (pv 4)) dq_nil)))))) pa_nil)))
      (pss_cons (ps_set (i := 10) sc_things.nd rfl (Or.inl rfl) (dw_catL (p := p) (by walk_at "stb") (dw_var (P := isLo 31) (pv 10)) (dw_lst (p := p) (dws_cons (by walk_at "stb") (dw_ok (dw_tup (p := p) (dws_cons (by walk_at "stb") (dw_ok (dw_var (P := isTo 4) (pv 2))) (dws_cons (by walk_at "stb") (dw_ok (dw_cat (p := p) (by walk_at "stb") (dw_var (P := isTo 8) (pv 3)) (dw_var (P := isTo 25) (pv 13)))) dws_nil)))) (dws_cons (by walk_at "stb") (dw_ok (dw_tup (p := p) (dws_cons (by walk_at "stb") (dw_ok (dw_var (P := isTo 4) (pv 2))) (dws_cons (by walk_at "stb") (dw_ok (dw_cat (p := p) (by walk_at "stb") (dw_var (P := isTo 8) (pv 3)) (dw_cut (p2 := pT) (dw_var (P := isTo 25) (pv 13)) (po_some pe_int) po_none (fun _ _ _ _ q => ⟨_, rfl, q _⟩) (fun _ _ _ _ q => q none) stb_T))) dws_nil)))) (dws_cons (by walk_at "stb") (dw_ok (dw_tup (p := p) (dws_cons (by walk_at "stb") (dw_ok (dw_var (P := isTo 4) (pv 2))) (dws_cons (by walk_at "stb") (dw_ok (dw_cat (p := p) (by walk_at "stb") (dw_cat (p := p) (by walk_at "stb") (dw_cut (p2 := wZ 6) (dw_var (P := isTo 8) (pv 3)) po_none (po_some (pv 6)) (fun _ _ _ _ q => q none) (fun σ H Q ⟨k, h⟩ q => ⟨_, h, k, rfl, q _⟩) stb_Z) (dw_tup (p := p) (dws_cons (by walk_at "stb") (dw_ok (dw_tup (p := p) (dws_cons (by walk_at "stb") (dw_var (P := isOk) (pv 7)) (dws_cons (by walk_at "stb") (dw_var (P := isOk) (pv 8)) dws_nil)))) dws_nil))) (dw_cut (p2 := wZ 6) (dw_var (P := isTo 8) (pv 3)) (po_some (pe_op op_add (pv 6) pe_int)) po_none (fun σ H Q ⟨k, h⟩ q => ⟨_, h, k, _, rfl, rfl, _, rfl, q _⟩) (fun _ _ _ _ q => q none) stb_Z))) dws_nil)))) dws_nil))))))
      (pss_cons (ps_set (i := 14) sc_things.nd rfl (Or.inl rfl) (dw_tup (p := p) (dws_cons (by walk_at "stb") (dw_ok (dw_tup (p := p) (dws_cons (by walk_at "stb") dw_str (dws_cons (by walk_at "stb") dw_str dws_nil)))) (dws_cons (by walk_at "stb") (dw_ok (dw_tup (p := p) (dws_cons (by walk_at "stb") dw_str (dws_cons (by walk_at "stb") dw_str dws_nil)))) dws_nil))))
      (pss_cons (ps_set (i := 10) sc_things.nd rfl (Or.inl rfl) (dw_catL (p := p) (by walk_at "stb") (dw_var (P := isLo 34) (pv 10)) (dw_lst (p := p) (dws_cons (by walk_at "stb") (dw_ok (dw_tup (p := p) (dws_cons (by walk_at "stb") (dw_ok (dw_var (P := isTo 2) (pv 14))) (dws_cons (by walk_at "stb") (dw_ok (dw_tup (p := p) (dws_cons (by walk_at "stb") (dw_ok (dw_tup (p := p) (dws_cons (by walk_at "stb") dw_str (dws_cons (by walk_at "stb") (dw_ok (dw_tup (p := p) (dws_cons (by walk_at "stb") dw_str dws_nil))) (dws_cons (by walk_at "stb") dw_str dws_nil))))) (dws_cons (by walk_at "stb") (dw_ok (dw_tup (p := p) (dws_cons (by walk_at "stb") dw_str (dws_cons (by walk_at "stb") (dw_ok (dw_tup (p := p) (dws_cons (by walk_at "stb") dw_str dws_nil))) (dws_cons (by walk_at "stb") dw_str dws_nil))))) dws_nil)))) dws_nil)))) (dws_cons (by walk_at "stb") (dw_ok (dw_tup (p := p) (dws_cons (by walk_at "stb") (dw_ok (dw_var (P := isTo 2) (pv 14))) (dws_cons (by walk_at "stb") (dw_ok (dw_tup (p := p) (dws_cons (by walk_at "stb") (dw_ok (dw_tup (p := p) (dws_cons (by walk_at "stb") dw_str (dws_cons (by walk_at "stb") (dw_ok (dw_tup (p := p) (dws_cons (by walk_at "stb") dw_str dws_nil))) (dws_cons (by walk_at "stb") dw_str dws_nil))))) (dws_cons (by walk_at "stb") (dw_ok (dw_tup (p := p) (dws_cons (by walk_at "stb") dw_str (dws_cons (by walk_at "stb") (dw_ok (dw_tup (p := p) dws_nil)) (dws_cons (by walk_at "stb") dw_str dws_nil))))) dws_nil)))) dws_nil)))) dws_nil)))))
      (pss_one (ps_ret (dw_catL (p := p) (by walk_at "stb") (dw_var (P := isLo 36) (pv 10)) (dw_lst (p := p) (dws_cons (by walk_at "stb") (dw_of (p1 := pAnd (wP p 0) (wV p 1 shS)) (pe_g (G3.mono (by decide)) hr hq (pa_cons (pv 0) (pa_cons (pv 1) pa_nil))) (fun σ H Q w ⟨h, v, d, h1, h2, h3⟩ k => ⟨_, h, _, h1, p, v, d, rfl, w, h2, h3, fun v1 d1 H1 w1 b1 e1 o1 => k v1 d1 H1 w1 b1 e1 o1⟩)) (dws_cons (by walk_at "stb") (dw_of (p1 := pAnd (wP p 0) (wV p 1 shS)) (pe_g (G3.mono (by decide)) hr hq (pa_cons (pv 0) (pa_cons (pv 1) pa_nil))) (fun σ H Q w ⟨h, v, d, h1, h2, h3⟩ k => ⟨_, h, _, h1, p, v, d, rfl, w, h2, h3, fun v1 d1 H1 w1 b1 e1 o1 => k v1 d1 H1 w1 b1 e1 o1⟩)) (dws_cons (by walk_at "stb") (dw_of (p1 := pAnd (wP p 0) (wV p 1 shS)) (pe_g (G3.mono (by decide)) hr hq (pa_cons (pv 0) (pa_cons (pv 1) pa_nil))) (fun σ H Q w ⟨h, v, d, h1, h2, h3⟩ k => ⟨_, h, _, h1, p, v, d, rfl, w, h2, h3, fun v1 d1 H1 w1 b1 e1 o1 => k v1 d1 H1 w1 b1 e1 o1⟩)) (dws_cons (by walk_at "stb") (dw_of (p1 := wP p 0) (pe_g (G4.mono (by decide)) hr hq (pa_cons (pv 0) pa_nil)) (fun σ H Q w h k => ⟨_, h, p, rfl, w, fun v1 d1 H1 m w1 b1 e1 => k v1 d1 H1 w1 b1 (e1.apart w.some) (odd_ok d1 m)⟩)) dws_nil)))))))))))))))))))))))))), ?_⟩
  obtain ⟨sa, x, y, rfl, hsa, hk, hm⟩ := dd2 hd
  obtain ⟨ka, kx, rfl, hka, KA⟩ := hk.tupD
  obtain ⟨ma, mx, rfl, hma, MA⟩ := hm.tupD
  obtain ⟨nsa, esa⟩ := del_get hsa
  obtain ⟨nka, eka⟩ := del_get hka
  obtain ⟨nma, ema⟩ := del_get hma
  have lk := KA.length
  have lm := MA.length
  have k1 := sf.k1
  have k4 := sf.k4
  have m1 := sf.m1
  have m8 := sf.m8
  have shs : shS (.tuple [.tuple kd, .tuple md]) := sf.sh
  have tS : isTo 2 (.tuple [.tuple kd, .tuple md]) := ⟨_, rfl, Nat.le_refl _, fun d hd => by
    rcases List.mem_cons.mp hd with z | z
    · subst z; exact shB_ok ((shB_tup sf.sh).2 _ (by simp))
    · rw [List.mem_singleton] at z; subst z; exact shB_ok ((shB_tup sf.sh).2 _ (by simp))⟩
  have tK : isTo 4 (.tuple kd) := ⟨kd, rfl, k4, fun d hd => shB_ok (kshape_sh (sf.kk d hd))⟩
  have tM : isTo 8 (.tuple md) := ⟨md, rfl, m8, fun d hd => shB_ok (mshape_sh (sf.mm d hd))⟩
  refine ⟨_, rfl, sa, _, rfl, SqT.of esa, rfl, _, _, rfl, _, _, rfl, rfl, ?_⟩
  refine ⟨_, rfl, _, rfl, p, ka, kx, rfl, W, SqT.of eka, nka.symm, by omega, by omega, fun i v H1 ev W1 b1 => ?_⟩
  obtain ⟨d1, ed1, hd1⟩ := KA.get ev
  have ks1 := sf.kk d1 (List.mem_of_getElem? ed1)
  obtain ⟨xn, xw, rfl⟩ : ∃ a b, d1 = .tuple [.str a, .str b] := by
    unfold kshape at ks1
    split at ks1
    · exact ⟨_, _, rfl⟩
    · cases ks1
  obtain ⟨q, vn, vw, rfl, hq2, hn, hw⟩ := dd2 (hd1.but b1)
  have on : isOk (.str xn) := shB_ok ((shB_tup (kshape_sh ks1)).2 _ (by simp))
  have on3 : sh3 (.str xn) := shB_mono (by decide) ((shB_tup (kshape_sh ks1)).2 _ (by simp))
  refine ⟨q, _, rfl, SqT.of (del_get hq2).2, rfl, _, _, rfl, _, _, rfl, rfl, ?_⟩
  refine ⟨_, rfl, _, rfl, ma, mx, rfl, .inr (SqT.of (b1 _ _ nma ema)), p, _, rfl, W1, by omega, by omega, fun n H2 n0 n1 W2 b2 => ?_⟩
  have b02 := b1.trans b2
  have hn2 := hn.but b2
  have hj : n.toNat < mx.length := by omega
  obtain ⟨d2, ed2, hd2⟩ := MA.get (List.getElem?_eq_getElem hj)
  have ms2 := sf.mm d2 (List.mem_of_getElem? ed2)
  obtain ⟨xo, xa, xm, rfl⟩ : ∃ a b c, d2 = .tuple [.str a, .tuple b, .str c] := by
    unfold mshape at ms2
    split at ms2
    · exact ⟨_, _, _, rfl⟩
    · cases ms2
  obtain ⟨q2, vo, va, vm, e2, hq3, ho2, ha2, hm2⟩ := dd3 (hd2.but b02)
  have oo : isOk (.str xo) := shB_ok ((shB_tup (mshape_sh ms2)).2 _ (by simp))
  have oa : isOk (.tuple xa) := shB_ok ((shB_tup (mshape_sh ms2)).2 _ (by simp))
  have en : n = ((n.toNat : Nat) : Int) := by omega
  have ea : atI mx ((n.toNat : Nat) : Int) = some mx[n.toNat] := atI_nat (List.getElem?_eq_getElem hj)
  rw [← en, e2] at ea
  refine ⟨_, rfl, _, rfl, ma, mx, n, _, rfl, rfl, SqT.of (b02 _ _ nma ema), ea, ?_⟩
  refine ⟨q2, _, rfl, SqT.of (del_get hq3).2, rfl, _, _, rfl, _, _, rfl, _, _, rfl, rfl, ?_⟩
  have dS := hd.but b02
  have dK := hk.but b02
  have dM := hm.but b02
  have dN := hn2
  have dO := ho2
  have dA := ha2
  refine gen_st (I := Th p H 0 false false false) ?_ ?_
  case refine_2 => exact ⟨rfl, W2, b02, rfl, ⟨_, _, rfl, dS, tS⟩, ⟨_, _, rfl, dS, shs⟩, ⟨_, _, rfl, dK, tK⟩, ⟨_, _, rfl, dM, tM⟩, ⟨_, _, rfl, dN, on⟩, ⟨_, _, rfl, dN, on3⟩, ⟨n, rfl⟩, ⟨_, _, rfl, dO, oo⟩, ⟨_, _, rfl, dA, oa⟩, (fun z => absurd rfl z), (fun z => nomatch z), (fun z => nomatch z), (fun z => nomatch z)⟩
  intro σ H2 T
  dsimp only
  obtain ⟨t_l, t_w, t_bt, t_c0, t_s, t_ss, t_k, t_m, t_nm, t_nn, t_at, t_ow, t_ar, t_so, t_ma, t_mo, t_ri⟩ := id T
  refine seq_nx (a := tAsg _ _) (I := Th p H 8 false false false) ?_ (fun N hN => ?_)
  rotate_left
  · exact ⟨t_w, by walk_at "pw", fun v d H3 W3 b3 hd3 pd3 => hN _ _ (T.so_ W3 b3 hd3 pd3)⟩
  clear t_l t_w t_bt t_c0 t_s t_ss t_k t_m t_nm t_nn t_at t_ow t_ar t_so t_ma t_mo t_ri T
  intro σ H2 T
  obtain ⟨t_l, t_w, t_bt, t_c0, t_s, t_ss, t_k, t_m, t_nm, t_nn, t_at, t_ow, t_ar, t_so, t_ma, t_mo, t_ri⟩ := id T
  have t_so := t_so (by decide)
  refine seq_nx (a := tAsg _ _) (I := Th p H 11 false false false) ?_ (fun N hN => ?_)
  rotate_left
  · exact ⟨t_w, by walk_at "pw", fun v d H3 W3 b3 hd3 pd3 => hN _ _ (T.so_ W3 b3 hd3 pd3)⟩
  clear t_l t_w t_bt t_c0 t_s t_ss t_k t_m t_nm t_nn t_at t_ow t_ar t_so t_ma t_mo t_ri T
  intro σ H2 T
  obtain ⟨t_l, t_w, t_bt, t_c0, t_s, t_ss, t_k, t_m, t_nm, t_nn, t_at, t_ow, t_ar, t_so, t_ma, t_mo, t_ri⟩ := id T
  have t_so := t_so (by decide)
  refine seq_nx (a := tAsg _ _) (I := Th p H 13 false false false) ?_ (fun N hN => ?_)
  rotate_left
  · exact ⟨t_w, by walk_at "pw", fun v d H3 W3 b3 hd3 pd3 => hN _ _ (T.so_ W3 b3 hd3 pd3)⟩
  clear t_l t_w t_bt t_c0 t_s t_ss t_k t_m t_nm t_nn t_at t_ow t_ar t_so t_ma t_mo t_ri T
  intro σ H2 T
  obtain ⟨t_l, t_w, t_bt, t_c0, t_s, t_ss, t_k, t_m, t_nm, t_nn, t_at, t_ow, t_ar, t_so, t_ma, t_mo, t_ri⟩ := id T
  have t_so := t_so (by decide)
  refine seq_nx (a := tAsg _ _) (I := Th p H 16 false false false) ?_ (fun N hN => ?_)
  rotate_left
  · exact ⟨t_w, by walk_at "pw", fun v d H3 W3 b3 hd3 pd3 => hN _ _ (T.so_ W3 b3 hd3 pd3)⟩
  clear t_l t_w t_bt t_c0 t_s t_ss t_k t_m t_nm t_nn t_at t_ow t_ar t_so t_ma t_mo t_ri T
  intro σ H2 T
  obtain ⟨t_l, t_w, t_bt, t_c0, t_s, t_ss, t_k, t_m, t_nm, t_nn, t_at, t_ow, t_ar, t_so, t_ma, t_mo, t_ri⟩ := id T
  have t_so := t_so (by decide)
  refine seq_nx (a := tAsg _ _) (I := Th p H 18 false false false) ?_ (fun N hN => ?_)
  rotate_left
  · exact ⟨t_w, by walk_at "pw", fun v d H3 W3 b3 hd3 pd3 => hN _ _ (T.so_ W3 b3 hd3 pd3)⟩
  clear t_l t_w t_bt t_c0 t_s t_ss t_k t_m t_nm t_nn t_at t_ow t_ar t_so t_ma t_mo t_ri T
  intro σ H2 T
  obtain ⟨t_l, t_w, t_bt, t_c0, t_s, t_ss, t_k, t_m, t_nm, t_nn, t_at, t_ow, t_ar, t_so, t_ma, t_mo, t_ri⟩ := id T
  have t_so := t_so (by decide)
  refine seq_nx (a := tAsg _ _) (I := Th p H 20 false false false) ?_ (fun N hN => ?_)
  rotate_left
  · exact ⟨t_w, by walk_at "pw", fun v d H3 W3 b3 hd3 pd3 => hN _ _ (T.so_ W3 b3 hd3 pd3)⟩
  clear t_l t_w t_bt t_c0 t_s t_ss t_k t_m t_nm t_nn t_at t_ow t_ar t_so t_ma t_mo t_ri T
  intro σ H2 T
  obtain ⟨t_l, t_w, t_bt, t_c0, t_s, t_ss, t_k, t_m, t_nm, t_nn, t_at, t_ow, t_ar, t_so, t_ma, t_mo, t_ri⟩ := id T
  have t_so := t_so (by decide)
  refine seq_nx (a := tAsg _ _) (I := Th p H 23 false false false) ?_ (fun N hN => ?_)
  rotate_left
  · exact ⟨t_w, by walk_at "pw", fun v d H3 W3 b3 hd3 pd3 => hN _ _ (T.so_ W3 b3 hd3 pd3)⟩
  clear t_l t_w t_bt t_c0 t_s t_ss t_k t_m t_nm t_nn t_at t_ow t_ar t_so t_ma t_mo t_ri T
  intro σ H2 T
  obtain ⟨t_l, t_w, t_bt, t_c0, t_s, t_ss, t_k, t_m, t_nm, t_nn, t_at, t_ow, t_ar, t_so, t_ma, t_mo, t_ri⟩ := id T
  have t_so := t_so (by decide)
  refine seq_nx (a := tAsg _ _) (I := Th p H 28 false false false) ?_ (fun N hN => ?_)
  rotate_left
  · exact ⟨t_w, by walk_at "pw", fun v d H3 W3 b3 hd3 pd3 => hN _ _ (T.so_ W3 b3 hd3 pd3)⟩
  clear t_l t_w t_bt t_c0 t_s t_ss t_k t_m t_nm t_nn t_at t_ow t_ar t_so t_ma t_mo t_ri T
  intro σ H2 T
  obtain ⟨t_l, t_w, t_bt, t_c0, t_s, t_ss, t_k, t_m, t_nm, t_nn, t_at, t_ow, t_ar, t_so, t_ma, t_mo, t_ri⟩ := id T
  have t_so := t_so (by decide)
  obtain ⟨vk, dk0, hs2, hdk, qk⟩ := t_k
  obtain ⟨kd2, rfl, lkd, _⟩ := qk
  obtain ⟨ka2, kx2, rfl, hka2, KA2⟩ := hdk.tupD
  have lkx := KA2.length
  refine seq_nx (a := tAsg _ _) (I := Th p H 28 true false false) ?_ (fun N hN => ?_)
  rotate_left
  · refine ⟨_, hs2, ka2, kx2, rfl, .inr (SqT.of (del_get hka2).2), 9, _, rfl, rfl, _, rfl, by omega, by omega, fun D hD => ?_⟩
    have nDp : D ≠ p := (t_w.ne hD).symm
    refine lc_it walk_range (fun i H3 => Well H3 p ∧ But p H2 H3 ∧ ∃ ys ds, H3 D = some (.lst ys) ∧ DdA (L2.del H3 p) ys ds ∧ (∀ d ∈ ds, shB 4 d = true) ∧ ys.length = i)
      ⟨t_w.new hD, new_but hD, [], [], upd_same, .nil, fun d hd => (by cases hd), rfl⟩ (fun _ _ _ _ => True.intro) (fun i y H3p H3 hi pv hy => ?_) (fun H3 pv => ?_)
    · obtain ⟨rfl, rfl⟩ := hy
      obtain ⟨W3, b3, ys, ds, e3, A3, sh, ly⟩ := pv
      refine ⟨by simp [wipe], ?_⟩
      have s4 : wV p 4 sh3 ((wipe σ [12]).set 12 (some (.int (0 + (i : Nat))))) H3 := wV_set (by decide) (wV_set (by decide) (stb_V _ _ _ b3 t_nn))
      have s12 : wK 12 30 ((wipe σ [12]).set 12 (some (.int (0 + (i : Nat))))) H3 := ⟨0 + (i : Nat), by rw [List.getElem?_set_self (by rw [wipe_length, t_l]; decide)], by omega, by omega⟩
      refine ⟨W3, by walk_at "pw", fun v d H4 W4 b4 hd4 pd4 => ?_⟩
      have e4 := b4 _ _ nDp e3
      have A4 := A3.but b4
      have fr : ∀ b xs, L2.del H4 p b = some (.tup xs) → L2.del (upd H4 D (.lst (ys ++ [v]))) p b = some (.tup xs) := fun b xs q => by
        obtain ⟨q1, q2⟩ := del_get q
        rw [del_ne q1]
        exact tup_put e4 q2
      refine ⟨ys, e4, by rw [sizeLine_eq]; omega, ?_, (b3.trans b4).at hD, ys ++ [v], ds ++ [d], upd_same, (A4.plain fr sh).append (.cons (Dd.plain fr pd4 hd4) .nil), fun x hx => ?_, by rw [List.length_append, ly]; rfl⟩
      · obtain ⟨x, y, z, N1, e1⟩ := W4
        exact ⟨x, y, z, N1, by rw [upd_ne nDp.symm]; exact e1⟩
      · rcases List.mem_append.mp hx with z | z
        · exact sh x z
        · rw [List.mem_singleton] at z
          exact z ▸ pd4
    · obtain ⟨W3, b3, ys, ds, e3, A3, sh, ly⟩ := pv
      refine ⟨D, ys, rfl, .inl ⟨SqL.of e3, fun t ht => ?_⟩⟩
      have la := A3.length
      refine hN _ _ (T.ma_ (W3.new ht) (b3.trans (new_but ht)) (.tup (del_new (W3.ne ht).symm) (A3.mono (new_but ht).del)) ⟨ds, rfl, by omega, fun x hx => shB_ok (sh x hx)⟩)
  clear t_l t_w t_bt t_c0 t_s t_ss t_m t_nm t_nn t_at t_ow t_ar t_so t_ma t_mo t_ri T
  intro σ H2 T
  obtain ⟨t_l, t_w, t_bt, t_c0, t_s, t_ss, t_k, t_m, t_nm, t_nn, t_at, t_ow, t_ar, t_so, t_ma, t_mo, t_ri⟩ := id T
  have t_so := t_so (by decide)
  have t_ma := t_ma rfl
  refine seq_nx (a := tAsg _ _) (I := Th p H 31 true false false) ?_ (fun N hN => ?_)
  rotate_left
  · exact ⟨t_w, by walk_at "pw", fun v d H3 W3 b3 hd3 pd3 => hN _ _ (T.so_ W3 b3 hd3 pd3)⟩
  clear t_l t_w t_bt t_c0 t_s t_ss t_k t_m t_nm t_nn t_at t_ow t_ar t_so t_ma t_mo t_ri T
  intro σ H2 T
  obtain ⟨t_l, t_w, t_bt, t_c0, t_s, t_ss, t_k, t_m, t_nm, t_nn, t_at, t_ow, t_ar, t_so, t_ma, t_mo, t_ri⟩ := id T
  have t_so := t_so (by decide)
  have t_ma := t_ma rfl
  obtain ⟨vk, dk0, hs2, hdk, qk⟩ := t_m
  obtain ⟨kd2, rfl, lkd, _⟩ := qk
  obtain ⟨ka2, kx2, rfl, hka2, KA2⟩ := hdk.tupD
  have lkx := KA2.length
  refine seq_nx (a := tAsg _ _) (I := Th p H 31 true true false) ?_ (fun N hN => ?_)
  rotate_left
  · refine ⟨_, hs2, ka2, kx2, rfl, .inr (SqT.of (del_get hka2).2), 25, _, rfl, rfl, _, rfl, by omega, by omega, fun D hD => ?_⟩
    have nDp : D ≠ p := (t_w.ne hD).symm
    refine lc_it walk_range (fun i H3 => Well H3 p ∧ But p H2 H3 ∧ ∃ ys ds, H3 D = some (.lst ys) ∧ DdA (L2.del H3 p) ys ds ∧ (∀ d ∈ ds, shB 4 d = true) ∧ ys.length = i)
      ⟨t_w.new hD, new_but hD, [], [], upd_same, .nil, fun d hd => (by cases hd), rfl⟩ (fun _ _ _ _ => True.intro) (fun i y H3p H3 hi pv hy => ?_) (fun H3 pv => ?_)
    · obtain ⟨rfl, rfl⟩ := hy
      obtain ⟨W3, b3, ys, ds, e3, A3, sh, ly⟩ := pv
      refine ⟨by simp [wipe], ?_⟩
      have s4 : wV p 4 sh3 ((wipe σ [12]).set 12 (some (.int (0 + (i : Nat))))) H3 := wV_set (by decide) (wV_set (by decide) (stb_V _ _ _ b3 t_nn))
      have s12 : wK 12 30 ((wipe σ [12]).set 12 (some (.int (0 + (i : Nat))))) H3 := ⟨0 + (i : Nat), by rw [List.getElem?_set_self (by rw [wipe_length, t_l]; decide)], by omega, by omega⟩
      refine ⟨W3, by walk_at "pw", fun v d H4 W4 b4 hd4 pd4 => ?_⟩
      have e4 := b4 _ _ nDp e3
      have A4 := A3.but b4
      have fr : ∀ b xs, L2.del H4 p b = some (.tup xs) → L2.del (upd H4 D (.lst (ys ++ [v]))) p b = some (.tup xs) := fun b xs q => by
        obtain ⟨q1, q2⟩ := del_get q
        rw [del_ne q1]
        exact tup_put e4 q2
      refine ⟨ys, e4, by rw [sizeLine_eq]; omega, ?_, (b3.trans b4).at hD, ys ++ [v], ds ++ [d], upd_same, (A4.plain fr sh).append (.cons (Dd.plain fr pd4 hd4) .nil), fun x hx => ?_, by rw [List.length_append, ly]; rfl⟩
      · obtain ⟨x, y, z, N1, e1⟩ := W4
        exact ⟨x, y, z, N1, by rw [upd_ne nDp.symm]; exact e1⟩
      · rcases List.mem_append.mp hx with z | z
        · exact sh x z
        · rw [List.mem_singleton] at z
          exact z ▸ pd4
    · obtain ⟨W3, b3, ys, ds, e3, A3, sh, ly⟩ := pv
      refine ⟨D, ys, rfl, .inl ⟨SqL.of e3, fun t ht => ?_⟩⟩
      have la := A3.length
      refine hN _ _ (T.mo_ (W3.new ht) (b3.trans (new_but ht)) (.tup (del_new (W3.ne ht).symm) (A3.mono (new_but ht).del)) ⟨ds, rfl, by omega, fun x hx => shB_ok (sh x hx)⟩)
  clear t_l t_w t_bt t_c0 t_s t_ss t_k t_nm t_nn t_at t_ow t_ar t_so t_ma t_mo t_ri T
  intro σ H2 T
  obtain ⟨t_l, t_w, t_bt, t_c0, t_s, t_ss, t_k, t_m, t_nm, t_nn, t_at, t_ow, t_ar, t_so, t_ma, t_mo, t_ri⟩ := id T
  have t_so := t_so (by decide)
  have t_ma := t_ma rfl
  have t_mo := t_mo rfl
  refine seq_nx (a := tAsg _ _) (I := Th p H 34 true true false) ?_ (fun N hN => ?_)
  rotate_left
  · exact ⟨t_w, by walk_at "pw", fun v d H3 W3 b3 hd3 pd3 => hN _ _ (T.so_ W3 b3 hd3 pd3)⟩
  clear t_l t_w t_bt t_c0 t_s t_ss t_k t_m t_nm t_nn t_at t_ow t_ar t_so t_ma t_mo t_ri T
  intro σ H2 T
  obtain ⟨t_l, t_w, t_bt, t_c0, t_s, t_ss, t_k, t_m, t_nm, t_nn, t_at, t_ow, t_ar, t_so, t_ma, t_mo, t_ri⟩ := id T
  have t_so := t_so (by decide)
  have t_ma := t_ma rfl
  have t_mo := t_mo rfl
  refine seq_nx (a := tAsg _ _) (I := Th p H 34 true true true) ?_ (fun N hN => ?_)
  rotate_left
  · exact ⟨t_w, by walk_at "pw", fun v d H3 W3 b3 hd3 pd3 => hN _ _ (T.ri_ W3 b3 hd3 pd3)⟩
  clear t_l t_w t_bt t_c0 t_s t_ss t_k t_m t_nm t_nn t_at t_ow t_ar t_so t_ma t_mo t_ri T
  intro σ H2 T
  obtain ⟨t_l, t_w, t_bt, t_c0, t_s, t_ss, t_k, t_m, t_nm, t_nn, t_at, t_ow, t_ar, t_so, t_ma, t_mo, t_ri⟩ := id T
  have t_so := t_so (by decide)
  have t_ma := t_ma rfl
  have t_mo := t_mo rfl
  have t_ri := t_ri rfl
  refine seq_nx (a := tAsg _ _) (I := Th p H 36 true true true) ?_ (fun N hN => ?_)
  rotate_left
  · exact ⟨t_w, by walk_at "pw", fun v d H3 W3 b3 hd3 pd3 => hN _ _ (T.so_ W3 b3 hd3 pd3)⟩
  clear t_l t_w t_bt t_c0 t_s t_ss t_k t_m t_nm t_nn t_at t_ow t_ar t_so t_ma t_mo t_ri T
  intro σ H2 T
  obtain ⟨t_l, t_w, t_bt, t_c0, t_s, t_ss, t_k, t_m, t_nm, t_nn, t_at, t_ow, t_ar, t_so, t_ma, t_mo, t_ri⟩ := id T
  have t_so := t_so (by decide)
  have t_ma := t_ma rfl
  have t_mo := t_mo rfl
  have t_ri := t_ri rfl
  refine ⟨t_w, by walk_at "pw", fun v d H3 W3 b3 hd3 pd3 => ?_⟩
  obtain ⟨ds, rfl, ln, oks⟩ := pd3
  obtain ⟨l, ys, rfl, el, A⟩ := hd3.lstD
  exact k l ys ds _ W3 (t_bt.trans b3) (del_old _ _ el) A oks (by omega)

end

section
variable {P : Program} {w : World} {K : PySem.W.Frag} {mg : Str → Option Value} {base : Heap}

theorem sc_right : FnScope ["well", "turn", "sig", "at", "thing", "due", "told", "kind", "word", "small"] ["well"] (defScope s_right) := ⟨rfl, rfl, rfl, by decide +kernel, rfl, by decide +kernel, by decide +kernel⟩
theorem okl {b : Bool} : (PyData.list [.bool b, .bool b]).showable = true ∧ (PyData.list [.bool b, .bool b]).depth ≤ 60 ∧ (PyData.list [.bool b, .bool b]).shown.length ≤ sizeLine := by
  rw [sizeLine_eq]
  cases b <;> decide +kernel
theorem okb {b : Bool} : (PyData.bool b).showable = true ∧ (PyData.bool b).depth ≤ 60 ∧ (PyData.bool b).shown.length ≤ sizeLine := by
  rw [sizeLine_eq]
  cases b <;> decide +kernel

theorem ok_right (D : Df K mg "_law_right" s_right) (B : Bi mg) (G1 : Gd P w K mg base CX0 4 "_law_sig" ["well"] spLSigM) (G2 : Gd P w K mg base CX0 5 "_law_things" ["well", "sig"] spThings) (G3 : Gd P w K mg base CX0 2 "_law_is_signature" ["thing"] spLSig) (G4 : Gd P w K mg base CX0 4 "is_signature" ["value"] spSig) (G5 : Gd P w K mg base CX0 2 "_law_is_small" ["sig", "kind"] spLSmall) (G6 : Gd P w K mg base CX0 6 "is_small" ["signature", "kind"] spIsSmall) (GK1 : GdK P w K mg base CX0 4 "is_signature" ["value"] ["value"] id id spSig) (GK2 : GdK P w K mg base CX0 6 "is_small" ["signature", "kind"] ["kind", "signature"] swp swp spIsSmall) : Gd P w K mg base CX0 7 "_law_right" ["well"] spRight := by
  refine gd_of D (fun _ _ _ _ _ _ us hl => match us, hl with | [_], _ => rfl) fun f fd F => ?_
  refine fun_q F sc_right (fun vs H Q E h => by obtain ⟨p, rfl, _⟩ := h; rfl) (fun cdv A outer s H vs Q E hr hq h => ?_)
  obtain ⟨p, rfl, W, k⟩ := h
  have hu : Room 6 _ := hr
  refine ⟨_, (pss_cons (ps_for PassesOwn.never rfl (pi_range1 rfl B.range (pa_cons pe_int pa_nil)) (pg_name (i := 1) sc_right.nd rfl (Or.inl rfl)) (pss_cons (ps_set (i := 2) sc_right.nd rfl (Or.inl rfl) (pe_g (G1.mono (by decide)) hr hq (pa_cons (pv 0) pa_nil)))
      (pss_one (ps_for PassesOwn.never rfl (pi_enum (by rfl) B.enumerate (pa_cons (pe_g (G2.mono (by decide)) hr hq (pa_cons (pv 0) (pa_cons (pv 2) pa_nil))) pa_nil)) (pg_tup rfl (pgs_cons (pg_name (i := 3) sc_right.nd rfl (Or.inl rfl)) (pgs_cons (pg_name (i := 4) sc_right.nd rfl (Or.inl rfl)) pgs_nil))) (pss_cons (ps_set (i := 5) sc_right.nd rfl (Or.inl rfl) (pe_g (G3.mono (by decide)) hr hq (pa_cons (pv 4) pa_nil)))
      (pss_cons (ps_set (i := 6) sc_right.nd rfl (Or.inl rfl) (pe_ifExp (pt_cmpR op_eq (pe_op op_mod (pe_callTy call_int1 (by rfl) B.int (by decide +kernel) (pa_cons (pv 3) pa_nil)) pe_int) pe_int (nomark _)) (pe_g (G4.mono (by decide)) hr hq (pa_cons (pv 4) pa_nil)) (pe_gK GK1 (hr.mono (by decide)) hq (pk_cons (pv 4) pk_nil))))
      (pss_cons (ps_if (pt_cmpR op_ne (pe_callB (call_repr hq hr.units) (by rfl) B.repr (by decide +kernel) (pa_cons (pv 6) pa_nil)) (pe_callB (call_repr hq hr.units) (by rfl) B.repr (by decide +kernel) (pa_cons (pv 5) pa_nil)) (nomark _)) (pss_one (ps_ret pe_bl)) pss_nil)
      (pss_one (ps_for PassesOwn.never rfl (pi_tup (pe_ifExp (pt_val (pv 5)) (pe_ix ix_tup (pv 4) pe_int (fun _ _ => rfl)) (pe_tup pa_nil))) (pg_tup rfl (pgs_cons (pg_name (i := 7) sc_right.nd rfl (Or.inl rfl)) (pgs_cons (pg_name (i := 8) sc_right.nd rfl (Or.inl rfl)) pgs_nil))) (pss_cons (ps_set (i := 9) sc_right.nd rfl (Or.inl rfl) (pe_g (G5.mono (by decide)) hr hq (pa_cons (pv 4) (pa_cons (pv 7) pa_nil))))
      (pss_one (ps_if (pt_cmpR op_ne (pe_callB (call_repr hq hr.units) (by rfl) B.repr (by decide +kernel) (pa_cons (pe_lstN (pa_cons (pe_g (G6.mono (by decide)) hr hq (pa_cons (pv 4) (pa_cons (pv 7) pa_nil))) (pa_cons (pe_gK GK2 (hr.mono (by decide)) hq (pk_cons (pv 7) (pk_cons (pv 4) pk_nil))) pa_nil))) pa_nil)) (pe_callB (call_repr hq hr.units) (by rfl) B.repr (by decide +kernel) (pa_cons (pe_lstN (pa_cons (pv 9) (pa_cons (pv 9) pa_nil))) pa_nil)) (nomark _)) (pss_one (ps_ret pe_bl)) pss_nil))))))))))))
      (pss_one (ps_ret pe_bl))), ?_⟩
  refine ⟨2, rfl, by decide, by decide, ?_⟩
  refine for_it walk_range (fun i σ H1 => (∃ x1 x2 x3 x4 x5 x6 x7 x8 x9, σ = [some (.ref p), x1, x2, x3, x4, x5, x6, x7, x8, x9]) ∧ Well H1 p ∧ But p H H1) ⟨⟨_, _, _, _, _, _, _, _, _, rfl⟩, W, But.refl⟩ (fun _ _ _ _ _ => True.intro) (fun i y σ H1p H1 hi pv hy => ?_) (fun σ H1 pv => ?_)
  rotate_left
  · obtain ⟨⟨x1, x2, x3, x4, x5, x6, x7, x8, x9, rfl⟩, W1, b1⟩ := pv
    exact k H1 b1
  obtain ⟨rfl, rfl⟩ := hy
  obtain ⟨⟨x1, x2, x3, x4, x5, x6, x7, x8, x9, rfl⟩, W1, b1⟩ := pv
  refine ⟨_, rfl, p, rfl, W1, fun v kd md H2 W2 b2 hd sf => ?_⟩
  refine ⟨_, rfl, _, rfl, p, v, kd, md, rfl, W2, hd, sf, fun l ys ds H3 W3 b3 el A oks len => ⟨l, ys, rfl, SqL.of el, ?_⟩⟩
  have b03 := (b1.trans b2).trans b3
  have lA := A.length
  refine for_it walk_enum (fun j σ H4 => Same H3 H4 ∧ ∃ x1 x2 x3 x4 x5 x6 x7 x8 x9, σ = [some (.ref p), x1, x2, x3, x4, x5, x6, x7, x8, x9]) ⟨Same.refl _, _, _, _, _, _, _, _, _, _, rfl⟩ (fun j σ H4 _ q => SqL.of (q.1 _ _ el)) (fun j y σ H4p H4 hj pv hy => ?_) (fun σ H4 pv => ?_)
  rotate_left
  · obtain ⟨s4, x1, x2, x3, x4, x5, x6, x7, x8, x9, rfl⟩ := pv
    exact ⟨⟨_, _, _, _, _, _, _, _, _, rfl⟩, W3.same s4, b03.trans (Same.but s4)⟩
  obtain ⟨s4, x1, x2, x3, x4, x5, x6, x7, x8, x9, rfl⟩ := pv
  obtain ⟨T, e1, tv, rfl, nT, rfl, e1', etv⟩ := hy
  cases e1'
  obtain ⟨d, ed, hdd⟩ := A.get etv
  have okd := oks d (List.mem_of_getElem? ed)
  have s5 : Same H3 (upd H4p T (.tup [.int (j : Nat), tv])) := s4.trans (same_new nT _)
  refine ⟨T, _, rfl, SqT.of upd_same, rfl, _, _, rfl, _, _, rfl, rfl, ?_⟩
  generalize upd H4p T (.tup [.int (j : Nat), tv]) = H5 at s5 ⊢
  have d3 : Dd H3 tv d := hdd.all
  refine ⟨_, rfl, tv, d, rfl, d3.mono s5, okd, fun H6 s6 => ?_⟩
  have s36 := s5.trans s6
  -- told
  dsimp only
  refine seq_nx (a := tAsg _ _) (I := fun σ H7 => (∃ x1 x2 x3 x7 x8 x9, σ = [some (.ref p), x1, x2, x3, some tv, some (.bl (sigB d)), some (.bl (sigB d)), x7, x8, x9]) ∧ Same H3 H7) ?_ (fun N hN => ?_)
  rotate_left
  · refine ⟨_, rfl, .inl ⟨_, rfl, _, 2, rfl, rfl, by show (0 : Int) < 2; decide, rfl, _, rfl, ?_⟩⟩
    refine ite2 (fun _ => ?_) (fun _ => ?_)
    · exact ⟨_, rfl, tv, d, rfl, d3.mono s36, okd, fun H7 s7 => hN _ _ ⟨⟨_, _, _, _, _, _, rfl⟩, s36.trans s7⟩⟩
    · exact ⟨_, rfl, tv, d, rfl, d3.mono s36, okd, fun H7 s7 => hN _ _ ⟨⟨_, _, _, _, _, _, rfl⟩, s36.trans s7⟩⟩
  rintro σ H7 ⟨⟨x1, x2, x3, x7, x8, x9, rfl⟩, s7⟩
  refine ⟨_, rfl, _, .bool (sigB d), rfl, .bl _, okb.1, okb.2.1, okb.2.2, _, rfl, _, .bool (sigB d), rfl, .bl _, okb.1, okb.2.1, okb.2.2, rfl, _, rfl, ?_⟩
  refine ite2 (fun c => by simp at c) (fun _ => ?_)
  refine ⟨_, rfl, _, rfl, ?_⟩
  cases eb : sigB d with
  | false =>
    refine iteF ⟨by show 0 ≤ sizeLine; exact Nat.zero_le _, fun t ht => ?_⟩
    refine ⟨t, rfl, ⟨_, SqT.of upd_same⟩, ?_⟩
    have s8 : Same H3 (upd H7 t (.tup [])) := s7.trans (same_new ht _)
    refine for_it (walk_tup (K := K) (a := t) (xs := [])) (fun i σ H' => H' t = some (.tup []) ∧ Same H3 H' ∧ ∃ x1 x2 x3 x4 x5 x6 x7 x8 x9, σ = [some (.ref p), x1, x2, x3, x4, x5, x6, x7, x8, x9]) ⟨upd_same, s8, _, _, _, _, _, _, _, _, _, rfl⟩ (fun _ _ _ _ q => SqT.of q.1) (fun i y σ H4 H4' hi _ _ => absurd hi (Nat.not_lt_zero _)) (fun σ H8 q => q.2)
  | true =>
  obtain ⟨kd2, md2, rfl, ek, em, _⟩ := sigB_of eb
  obtain ⟨sa, x, y, e0, hsa, hk, hm⟩ := dd2 d3
  obtain ⟨ka, kx, e00, hka, KA⟩ := hk.tupD
  subst e00
  have e0' : tv = V.ref sa := e0
  refine iteT ⟨_, rfl, sa, _, 0, _, e0', rfl, SqT.of (s7 _ _ hsa), rfl, ?_⟩
  refine ⟨ka, rfl, ⟨_, SqT.of (s7 _ _ hka)⟩, ?_⟩
  obtain ⟨l1, l8, kb, knd⟩ := kindsB_parts ek
  refine for_it walk_tup (fun i σ H8 => Same H3 H8 ∧ ∃ x1 x2 x3 x5 x6 x7 x8 x9, σ = [some (.ref p), x1, x2, x3, some tv, x5, x6, x7, x8, x9]) ⟨s7, _, _, _, _, _, _, _, _, rfl⟩ (fun i σ H8 _ q => SqT.of (q.1 _ _ hka)) (fun i y σ H8p H8 hi pv hy => ?_) (fun σ H8 q => ?_)
  rotate_left
  · obtain ⟨s8, x1, x2, x3, x5, x6, x7, x8, x9, rfl⟩ := q
    exact ⟨s8, _, _, _, _, _, _, _, _, _, rfl⟩
  obtain ⟨s8, x1, x2, x3, x5, x6, x7, x8, x9, rfl⟩ := pv
  obtain ⟨rfl, ey⟩ := hy
  obtain ⟨q, nm, wd, ed2, rfl, hq2, _⟩ := kind_at (KA.mono s8) kb ey
  have mem : nm ∈ kd2.map nameOf := List.mem_map.mpr ⟨_, List.mem_of_getElem? ed2, rfl⟩
  refine ⟨q, _, rfl, SqT.of hq2, rfl, _, _, rfl, _, _, rfl, rfl, ?_⟩
  refine ⟨_, rfl, _, rfl, tv, kd2, md2, nm, rfl, d3.mono s8, ek, em, mem, fun H9 s9 => ?_⟩
  have s39 := s8.trans s9
  refine ⟨_, rfl, _, rfl, tv, kd2, md2, nm, rfl, d3.mono s39, okd, eb, mem, fun H10 s10 => ?_⟩
  have s310 := s39.trans s10
  refine ⟨_, rfl, _, rfl, tv, kd2, md2, nm, rfl, d3.mono s310, okd, eb, mem, fun H11 s11 => ?_⟩
  have s311 := s310.trans s11
  refine ⟨by show 2 ≤ sizeLine; rw [sizeLine_eq]; decide, fun L hL nL => ?_⟩
  have s12 : Same H3 (upd H11 L (.lst [.bl (smallB kd2 md2 nm), .bl (smallB kd2 md2 nm)])) := s311.trans (same_new hL _)
  refine ⟨_, .list [.bool (smallB kd2 md2 nm), .bool (smallB kd2 md2 nm)], rfl, .lst upd_same nL (.cons (.bl _) (.cons (.bl _) .nil)), okl.1, okl.2.1, okl.2.2, ?_⟩
  refine ⟨_, rfl, _, rfl, by show 2 ≤ sizeLine; rw [sizeLine_eq]; decide, fun L2 hL2 nL2 => ?_⟩
  refine ⟨_, .list [.bool (smallB kd2 md2 nm), .bool (smallB kd2 md2 nm)], rfl, .lst upd_same nL2 (.cons (.bl _) (.cons (.bl _) .nil)), okl.1, okl.2.1, okl.2.2, rfl, _, rfl, ?_⟩
  refine ite2 (fun c => by simp at c) (fun _ => ?_)
  exact ⟨s12.trans (same_new hL2 _), _, _, _, _, _, _, _, _, rfl⟩

end

section
variable {P : Program} {w : World} {K : PySem.W.Frag} {mg : Str → Option Value} {base : Heap}
theorem sc_law : FnScope ["script", "lap"] ["script"] (defScope s_law) := ⟨rfl, rfl, rfl, by decide +kernel, rfl, by decide +kernel, by decide +kernel⟩
theorem ok_law {f : Addr} {fd : FuncData} (F : Fun K "law" "law" s_law f fd) (B : Bi mg) (GW : Gd P w K mg base CX0 1 "_law_well" ["script", "lap"] (spWell K)) (GR : Gd P w K mg base CX0 7 "_law_right" ["well"] spRight) :
    Fn P w K mg base CX0 8 f fd ["script"] (spLaw K) := by
  refine fun_q F sc_law (fun vs H Q E h => ?_) (fun cdv A outer s H vs Q E hr6 hq h => ?_)
  · obtain ⟨a, ns, rfl, _⟩ := h
    rfl
  obtain ⟨a, ns, rfl, hS, h63, k⟩ := h
  have hr1 : Room 1 _ := hr6.mono (by decide)
  refine ⟨_, (pss_one (ps_ret (pe_callB (cr_all rfl) (by rfl) B.all boot_all2 (pa_cons (pe_lc (own := [("lap", 1)]) (g := gName 1) (tt := tYes) rfl sc_law.nd (pi_range1 (by rfl) B.range (pa_cons (pe_callB (call_max2 rfl) (by rfl) B.max PyProof.Rows.boot_max (pa_cons pe_int (pa_cons (pe_callB (call_min2 rfl) (by rfl) B.min PyProof.Rows.boot_min (pa_cons (pe_callB call_len_seq (by rfl) B.len PySem.boot_len (pa_cons (pv 0) pa_nil)) (pa_cons pe_int pa_nil))) pa_nil))) pa_nil)) (blkOk_by (own := [("lap", 1)]) (N := ["script", "lap"]) (sc := defScope s_law) (by decide +kernel)) (fun _ _ _ _ _ => pg_name (i := 1) sc_law.nd rfl (Or.inl rfl)) (fun _ _ _ _ _ => pts_nil) (fun _ _ _ _ _ => (pe_g GR hr6 hq (pa_cons (pe_g GW hr1 hq (pa_cons (pv 0) (pa_cons (pv 1) pa_nil))) pa_nil)))) pa_nil)))), ?_⟩
  refine ⟨_, rfl, a, _, rfl, .inl hS, _, _, rfl, _, _, rfl, ?_⟩
  rw [List.length_map]
  refine ⟨_, rfl, ?_, ?_, fun D hD => ?_⟩
  · split <;> (try split) <;> omega
  · split <;> (try split) <;> omega
  obtain ⟨top, et, t3⟩ : ∃ top : Int, (if (if (3 : Int) < (ns.length : Int) then (3 : Int) else (ns.length : Int)) > 2 then (if (3 : Int) < (ns.length : Int) then (3 : Int) else (ns.length : Int)) else 2) = top ∧ top ≤ 3 := ⟨_, rfl, by split <;> (try split) <;> omega⟩
  rw [et]
  clear et
  refine lc_it walk_range (fun n H' => Same H H' ∧ H' D = some (.lst (List.replicate n (.bl true)))) ⟨same_new hD _, upd_same⟩ (fun _ _ _ _ => trivial) ?_ ?_
  · rintro n x H1 H1' hn ⟨s1, hD1⟩ ⟨e1, e2⟩
    subst e1 e2
    refine ⟨rfl, tYes_of ?_⟩
    refine ⟨_, rfl, _, rfl, a, ns, _, rfl, s1.seq hS, by omega, fun p H2 np s2 W2 => ?_⟩
    refine ⟨p, rfl, W2, fun H3 bt3 => ?_⟩
    have pD : D ≠ p := ne_of_none hD1 np
    have ph : ∀ b o, H b = some o → b ≠ p := fun b o e => ne_of_none (s1 _ _ e) np
    refine ⟨_, bt3 _ _ pD (s2 _ _ hD1), ?_, fun b o q => ?_, ?_⟩
    · rw [List.length_replicate, sizeLine_eq]
      omega
    · rw [upd_ne (ne_of_none q hD)]
      exact bt3 _ _ (ph b o q) (s2 _ _ (s1 b o q))
    · rw [upd_same]
      exact congrArg (fun z => some (HO.lst z)) (List.replicate_succ' ..).symm
  rintro H1 ⟨s1, hD1⟩
  refine ⟨D, List.replicate top.toNat true, rfl, SqL.of ?_, ?_⟩
  · rw [hD1, List.map_replicate]
  · have e : (List.replicate top.toNat true).all id = true := by simp
    rw [e]
    exact k _
end

theorem all_mk {P : Program} {w : World} {K : PySem.W.Frag} {h : Heap} {mg : Str → Option Value} {fa f_is_name f_is_tuple f_is_among f_are_unlike f_is_signature f_are_kinds_told f_is_kind_told f_are_makers_told f_is_maker_told f_have_terms f_check_signature f_check_kind f_kind_names f_makers_by_kind f_is_small f_small_kinds f__law_well f__law_draw f__law_one f__law_mixed f__law_is_whole f__law_odd_thing f__law_bent f__law_is_name f__law_is_pair f__law_living f__law_is_signature f__law_makers f__law_is_open f__law_is_small f__law_some_sig f__law_turned f__law_sig f__law_things f__law_right f_law : Addr} {oc_is_name kV_is_name dc_is_name pm_is_name cd_is_name ct_is_name oc_is_tuple kV_is_tuple dc_is_tuple pm_is_tuple cd_is_tuple ct_is_tuple oc_is_among kV_is_among dc_is_among pm_is_among cd_is_among ct_is_among oc_are_unlike kV_are_unlike dc_are_unlike pm_are_unlike cd_are_unlike ct_are_unlike oc_is_signature kV_is_signature dc_is_signature pm_is_signature cd_is_signature ct_is_signature oc_are_kinds_told kV_are_kinds_told dc_are_kinds_told pm_are_kinds_told cd_are_kinds_told ct_are_kinds_told oc_is_kind_told kV_is_kind_told dc_is_kind_told pm_is_kind_told cd_is_kind_told ct_is_kind_told oc_are_makers_told kV_are_makers_told dc_are_makers_told pm_are_makers_told cd_are_makers_told ct_are_makers_told oc_is_maker_told kV_is_maker_told dc_is_maker_told pm_is_maker_told cd_is_maker_told ct_is_maker_told oc_have_terms kV_have_terms dc_have_terms pm_have_terms cd_have_terms ct_have_terms oc_check_signature kV_check_signature dc_check_signature pm_check_signature cd_check_signature ct_check_signature oc_check_kind kV_check_kind dc_check_kind pm_check_kind cd_check_kind ct_check_kind oc_kind_names kV_kind_names dc_kind_names pm_kind_names cd_kind_names ct_kind_names oc_makers_by_kind kV_makers_by_kind dc_makers_by_kind pm_makers_by_kind cd_makers_by_kind ct_makers_by_kind oc_is_small kV_is_small dc_is_small pm_is_small cd_is_small ct_is_small oc_small_kinds kV_small_kinds dc_small_kinds pm_small_kinds cd_small_kinds ct_small_kinds oc__law_well kV__law_well dc__law_well pm__law_well cd__law_well ct__law_well oc__law_draw kV__law_draw dc__law_draw pm__law_draw cd__law_draw ct__law_draw oc__law_one kV__law_one dc__law_one pm__law_one cd__law_one ct__law_one oc__law_mixed kV__law_mixed dc__law_mixed pm__law_mixed cd__law_mixed ct__law_mixed oc__law_is_whole kV__law_is_whole dc__law_is_whole pm__law_is_whole cd__law_is_whole ct__law_is_whole oc__law_odd_thing kV__law_odd_thing dc__law_odd_thing pm__law_odd_thing cd__law_odd_thing ct__law_odd_thing oc__law_bent kV__law_bent dc__law_bent pm__law_bent cd__law_bent ct__law_bent oc__law_is_name kV__law_is_name dc__law_is_name pm__law_is_name cd__law_is_name ct__law_is_name oc__law_is_pair kV__law_is_pair dc__law_is_pair pm__law_is_pair cd__law_is_pair ct__law_is_pair oc__law_living kV__law_living dc__law_living pm__law_living cd__law_living ct__law_living oc__law_is_signature kV__law_is_signature dc__law_is_signature pm__law_is_signature cd__law_is_signature ct__law_is_signature oc__law_makers kV__law_makers dc__law_makers pm__law_makers cd__law_makers ct__law_makers oc__law_is_open kV__law_is_open dc__law_is_open pm__law_is_open cd__law_is_open ct__law_is_open oc__law_is_small kV__law_is_small dc__law_is_small pm__law_is_small cd__law_is_small ct__law_is_small oc__law_some_sig kV__law_some_sig dc__law_some_sig pm__law_some_sig cd__law_some_sig ct__law_some_sig oc__law_turned kV__law_turned dc__law_turned pm__law_turned cd__law_turned ct__law_turned oc__law_sig kV__law_sig dc__law_sig pm__law_sig cd__law_sig ct__law_sig oc__law_things kV__law_things dc__law_things pm__law_things cd__law_things ct__law_things oc__law_right kV__law_right dc__law_right pm__law_right cd__law_right ct__law_right oc_law kV_law dc_law pm_law cd_law ct_law : Value} {od_is_name an_is_name od_is_tuple an_is_tuple od_is_among an_is_among od_are_unlike an_are_unlike od_is_signature an_is_signature od_are_kinds_told an_are_kinds_told od_is_kind_told an_is_kind_told od_are_makers_told an_are_makers_told od_is_maker_told an_is_maker_told od_have_terms an_have_terms od_check_signature an_check_signature od_check_kind an_check_kind od_kind_names an_kind_names od_makers_by_kind an_makers_by_kind od_is_small an_is_small od_small_kinds an_small_kinds od__law_well an__law_well od__law_draw an__law_draw od__law_one an__law_one od__law_mixed an__law_mixed od__law_is_whole an__law_is_whole od__law_odd_thing an__law_odd_thing od__law_bent an__law_bent od__law_is_name an__law_is_name od__law_is_pair an__law_is_pair od__law_living an__law_living od__law_is_signature an__law_is_signature od__law_makers an__law_makers od__law_is_open an__law_is_open od__law_is_small an__law_is_small od__law_some_sig an__law_some_sig od__law_turned an__law_turned od__law_sig an__law_sig od__law_things an__law_things od__law_right an__law_right od_law an_law : Option Addr} {sl_is_name sl_is_tuple sl_is_among sl_are_unlike sl_is_signature sl_are_kinds_told sl_is_kind_told sl_are_makers_told sl_is_maker_told sl_have_terms sl_check_signature sl_check_kind sl_kind_names sl_makers_by_kind sl_is_small sl_small_kinds sl__law_well sl__law_draw sl__law_one sl__law_mixed sl__law_is_whole sl__law_odd_thing sl__law_bent sl__law_is_name sl__law_is_pair sl__law_living sl__law_is_signature sl__law_makers sl__law_is_open sl__law_is_small sl__law_some_sig sl__law_turned sl__law_sig sl__law_things sl__law_right sl_law : Array (Option Value)} {t_LETTERS t_NAME_SIGNS t_LONGEST_NAME t_MOST_KINDS t_MOST_MAKERS t_MOST_NEEDS : Tok}
    (X : K.In h) (G : h.Ns mainGlobals mg) (hfa : mg "law" = some (.ref fa))
    (a_is_name : PySem.W.nsIn K mainGlobals "is_name" = some (some (.ref f_is_name)))
    (l_is_name : K.lookup f_is_name = some ⟨oc_is_name, od_is_name, .func (PySem.W.fnOf "is_name" "is_name" (defArgs s_is_name) (defBody s_is_name) (defScope s_is_name) .none kV_is_name dc_is_name pm_is_name an_is_name cd_is_name ct_is_name), sl_is_name⟩)
    (c_is_name : PySem.W.codeIn K cd_is_name "is_name" = true)
    (k_is_name : PySem.W.keepIn K (.ref f_is_name) = true)
    (a_is_tuple : PySem.W.nsIn K mainGlobals "is_tuple" = some (some (.ref f_is_tuple)))
    (l_is_tuple : K.lookup f_is_tuple = some ⟨oc_is_tuple, od_is_tuple, .func (PySem.W.fnOf "is_tuple" "is_tuple" (defArgs s_is_tuple) (defBody s_is_tuple) (defScope s_is_tuple) .none kV_is_tuple dc_is_tuple pm_is_tuple an_is_tuple cd_is_tuple ct_is_tuple), sl_is_tuple⟩)
    (c_is_tuple : PySem.W.codeIn K cd_is_tuple "is_tuple" = true)
    (k_is_tuple : PySem.W.keepIn K (.ref f_is_tuple) = true)
    (a_is_among : PySem.W.nsIn K mainGlobals "is_among" = some (some (.ref f_is_among)))
    (l_is_among : K.lookup f_is_among = some ⟨oc_is_among, od_is_among, .func (PySem.W.fnOf "is_among" "is_among" (defArgs s_is_among) (defBody s_is_among) (defScope s_is_among) .none kV_is_among dc_is_among pm_is_among an_is_among cd_is_among ct_is_among), sl_is_among⟩)
    (c_is_among : PySem.W.codeIn K cd_is_among "is_among" = true)
    (k_is_among : PySem.W.keepIn K (.ref f_is_among) = true)
    (a_are_unlike : PySem.W.nsIn K mainGlobals "are_unlike" = some (some (.ref f_are_unlike)))
    (l_are_unlike : K.lookup f_are_unlike = some ⟨oc_are_unlike, od_are_unlike, .func (PySem.W.fnOf "are_unlike" "are_unlike" (defArgs s_are_unlike) (defBody s_are_unlike) (defScope s_are_unlike) .none kV_are_unlike dc_are_unlike pm_are_unlike an_are_unlike cd_are_unlike ct_are_unlike), sl_are_unlike⟩)
    (c_are_unlike : PySem.W.codeIn K cd_are_unlike "are_unlike" = true)
    (k_are_unlike : PySem.W.keepIn K (.ref f_are_unlike) = true)
    (a_is_signature : PySem.W.nsIn K mainGlobals "is_signature" = some (some (.ref f_is_signature)))
    (l_is_signature : K.lookup f_is_signature = some ⟨oc_is_signature, od_is_signature, .func (PySem.W.fnOf "is_signature" "is_signature" (defArgs s_is_signature) (defBody s_is_signature) (defScope s_is_signature) .none kV_is_signature dc_is_signature pm_is_signature an_is_signature cd_is_signature ct_is_signature), sl_is_signature⟩)
    (c_is_signature : PySem.W.codeIn K cd_is_signature "is_signature" = true)
    (k_is_signature : PySem.W.keepIn K (.ref f_is_signature) = true)
    (a_are_kinds_told : PySem.W.nsIn K mainGlobals "are_kinds_told" = some (some (.ref f_are_kinds_told)))
    (l_are_kinds_told : K.lookup f_are_kinds_told = some ⟨oc_are_kinds_told, od_are_kinds_told, .func (PySem.W.fnOf "are_kinds_told" "are_kinds_told" (defArgs s_are_kinds_told) (defBody s_are_kinds_told) (defScope s_are_kinds_told) .none kV_are_kinds_told dc_are_kinds_told pm_are_kinds_told an_are_kinds_told cd_are_kinds_told ct_are_kinds_told), sl_are_kinds_told⟩)
    (c_are_kinds_told : PySem.W.codeIn K cd_are_kinds_told "are_kinds_told" = true)
    (k_are_kinds_told : PySem.W.keepIn K (.ref f_are_kinds_told) = true)
    (a_is_kind_told : PySem.W.nsIn K mainGlobals "is_kind_told" = some (some (.ref f_is_kind_told)))
    (l_is_kind_told : K.lookup f_is_kind_told = some ⟨oc_is_kind_told, od_is_kind_told, .func (PySem.W.fnOf "is_kind_told" "is_kind_told" (defArgs s_is_kind_told) (defBody s_is_kind_told) (defScope s_is_kind_told) .none kV_is_kind_told dc_is_kind_told pm_is_kind_told an_is_kind_told cd_is_kind_told ct_is_kind_told), sl_is_kind_told⟩)
    (c_is_kind_told : PySem.W.codeIn K cd_is_kind_told "is_kind_told" = true)
    (k_is_kind_told : PySem.W.keepIn K (.ref f_is_kind_told) = true)
    (a_are_makers_told : PySem.W.nsIn K mainGlobals "are_makers_told" = some (some (.ref f_are_makers_told)))
    (l_are_makers_told : K.lookup f_are_makers_told = some ⟨oc_are_makers_told, od_are_makers_told, .func (PySem.W.fnOf "are_makers_told" "are_makers_told" (defArgs s_are_makers_told) (defBody s_are_makers_told) (defScope s_are_makers_told) .none kV_are_makers_told dc_are_makers_told pm_are_makers_told an_are_makers_told cd_are_makers_told ct_are_makers_told), sl_are_makers_told⟩)
    (c_are_makers_told : PySem.W.codeIn K cd_are_makers_told "are_makers_told" = true)
    (k_are_makers_told : PySem.W.keepIn K (.ref f_are_makers_told) = true)
    (a_is_maker_told : PySem.W.nsIn K mainGlobals "is_maker_told" = some (some (.ref f_is_maker_told)))
    (l_is_maker_told : K.lookup f_is_maker_told = some ⟨oc_is_maker_told, od_is_maker_told, .func (PySem.W.fnOf "is_maker_told" "is_maker_told" (defArgs s_is_maker_told) (defBody s_is_maker_told) (defScope s_is_maker_told) .none kV_is_maker_told dc_is_maker_told pm_is_maker_told an_is_maker_told cd_is_maker_told ct_is_maker_told), sl_is_maker_told⟩)
    (c_is_maker_told : PySem.W.codeIn K cd_is_maker_told "is_maker_told" = true)
    (k_is_maker_told : PySem.W.keepIn K (.ref f_is_maker_told) = true)
    (a_have_terms : PySem.W.nsIn K mainGlobals "have_terms" = some (some (.ref f_have_terms)))
    (l_have_terms : K.lookup f_have_terms = some ⟨oc_have_terms, od_have_terms, .func (PySem.W.fnOf "have_terms" "have_terms" (defArgs s_have_terms) (defBody s_have_terms) (defScope s_have_terms) .none kV_have_terms dc_have_terms pm_have_terms an_have_terms cd_have_terms ct_have_terms), sl_have_terms⟩)
    (c_have_terms : PySem.W.codeIn K cd_have_terms "have_terms" = true)
    (k_have_terms : PySem.W.keepIn K (.ref f_have_terms) = true)
    (a_check_signature : PySem.W.nsIn K mainGlobals "check_signature" = some (some (.ref f_check_signature)))
    (l_check_signature : K.lookup f_check_signature = some ⟨oc_check_signature, od_check_signature, .func (PySem.W.fnOf "check_signature" "check_signature" (defArgs s_check_signature) (defBody s_check_signature) (defScope s_check_signature) .none kV_check_signature dc_check_signature pm_check_signature an_check_signature cd_check_signature ct_check_signature), sl_check_signature⟩)
    (c_check_signature : PySem.W.codeIn K cd_check_signature "check_signature" = true)
    (k_check_signature : PySem.W.keepIn K (.ref f_check_signature) = true)
    (a_check_kind : PySem.W.nsIn K mainGlobals "check_kind" = some (some (.ref f_check_kind)))
    (l_check_kind : K.lookup f_check_kind = some ⟨oc_check_kind, od_check_kind, .func (PySem.W.fnOf "check_kind" "check_kind" (defArgs s_check_kind) (defBody s_check_kind) (defScope s_check_kind) .none kV_check_kind dc_check_kind pm_check_kind an_check_kind cd_check_kind ct_check_kind), sl_check_kind⟩)
    (c_check_kind : PySem.W.codeIn K cd_check_kind "check_kind" = true)
    (k_check_kind : PySem.W.keepIn K (.ref f_check_kind) = true)
    (a_kind_names : PySem.W.nsIn K mainGlobals "kind_names" = some (some (.ref f_kind_names)))
    (l_kind_names : K.lookup f_kind_names = some ⟨oc_kind_names, od_kind_names, .func (PySem.W.fnOf "kind_names" "kind_names" (defArgs s_kind_names) (defBody s_kind_names) (defScope s_kind_names) .none kV_kind_names dc_kind_names pm_kind_names an_kind_names cd_kind_names ct_kind_names), sl_kind_names⟩)
    (c_kind_names : PySem.W.codeIn K cd_kind_names "kind_names" = true)
    (k_kind_names : PySem.W.keepIn K (.ref f_kind_names) = true)
    (a_makers_by_kind : PySem.W.nsIn K mainGlobals "makers_by_kind" = some (some (.ref f_makers_by_kind)))
    (l_makers_by_kind : K.lookup f_makers_by_kind = some ⟨oc_makers_by_kind, od_makers_by_kind, .func (PySem.W.fnOf "makers_by_kind" "makers_by_kind" (defArgs s_makers_by_kind) (defBody s_makers_by_kind) (defScope s_makers_by_kind) .none kV_makers_by_kind dc_makers_by_kind pm_makers_by_kind an_makers_by_kind cd_makers_by_kind ct_makers_by_kind), sl_makers_by_kind⟩)
    (c_makers_by_kind : PySem.W.codeIn K cd_makers_by_kind "makers_by_kind" = true)
    (k_makers_by_kind : PySem.W.keepIn K (.ref f_makers_by_kind) = true)
    (a_is_small : PySem.W.nsIn K mainGlobals "is_small" = some (some (.ref f_is_small)))
    (l_is_small : K.lookup f_is_small = some ⟨oc_is_small, od_is_small, .func (PySem.W.fnOf "is_small" "is_small" (defArgs s_is_small) (defBody s_is_small) (defScope s_is_small) .none kV_is_small dc_is_small pm_is_small an_is_small cd_is_small ct_is_small), sl_is_small⟩)
    (c_is_small : PySem.W.codeIn K cd_is_small "is_small" = true)
    (k_is_small : PySem.W.keepIn K (.ref f_is_small) = true)
    (a_small_kinds : PySem.W.nsIn K mainGlobals "small_kinds" = some (some (.ref f_small_kinds)))
    (l_small_kinds : K.lookup f_small_kinds = some ⟨oc_small_kinds, od_small_kinds, .func (PySem.W.fnOf "small_kinds" "small_kinds" (defArgs s_small_kinds) (defBody s_small_kinds) (defScope s_small_kinds) .none kV_small_kinds dc_small_kinds pm_small_kinds an_small_kinds cd_small_kinds ct_small_kinds), sl_small_kinds⟩)
    (c_small_kinds : PySem.W.codeIn K cd_small_kinds "small_kinds" = true)
    (k_small_kinds : PySem.W.keepIn K (.ref f_small_kinds) = true)
    (a__law_well : PySem.W.nsIn K mainGlobals "_law_well" = some (some (.ref f__law_well)))
    (l__law_well : K.lookup f__law_well = some ⟨oc__law_well, od__law_well, .func (PySem.W.fnOf "_law_well" "_law_well" (defArgs s_well) (defBody s_well) (defScope s_well) .none kV__law_well dc__law_well pm__law_well an__law_well cd__law_well ct__law_well), sl__law_well⟩)
    (c__law_well : PySem.W.codeIn K cd__law_well "_law_well" = true)
    (k__law_well : PySem.W.keepIn K (.ref f__law_well) = true)
    (a__law_draw : PySem.W.nsIn K mainGlobals "_law_draw" = some (some (.ref f__law_draw)))
    (l__law_draw : K.lookup f__law_draw = some ⟨oc__law_draw, od__law_draw, .func (PySem.W.fnOf "_law_draw" "_law_draw" (defArgs s_draw) (defBody s_draw) (defScope s_draw) .none kV__law_draw dc__law_draw pm__law_draw an__law_draw cd__law_draw ct__law_draw), sl__law_draw⟩)
    (c__law_draw : PySem.W.codeIn K cd__law_draw "_law_draw" = true)
    (k__law_draw : PySem.W.keepIn K (.ref f__law_draw) = true)
    (a__law_one : PySem.W.nsIn K mainGlobals "_law_one" = some (some (.ref f__law_one)))
    (l__law_one : K.lookup f__law_one = some ⟨oc__law_one, od__law_one, .func (PySem.W.fnOf "_law_one" "_law_one" (defArgs s_one) (defBody s_one) (defScope s_one) .none kV__law_one dc__law_one pm__law_one an__law_one cd__law_one ct__law_one), sl__law_one⟩)
    (c__law_one : PySem.W.codeIn K cd__law_one "_law_one" = true)
    (k__law_one : PySem.W.keepIn K (.ref f__law_one) = true)
    (a__law_mixed : PySem.W.nsIn K mainGlobals "_law_mixed" = some (some (.ref f__law_mixed)))
    (l__law_mixed : K.lookup f__law_mixed = some ⟨oc__law_mixed, od__law_mixed, .func (PySem.W.fnOf "_law_mixed" "_law_mixed" (defArgs s_mixed) (defBody s_mixed) (defScope s_mixed) .none kV__law_mixed dc__law_mixed pm__law_mixed an__law_mixed cd__law_mixed ct__law_mixed), sl__law_mixed⟩)
    (c__law_mixed : PySem.W.codeIn K cd__law_mixed "_law_mixed" = true)
    (k__law_mixed : PySem.W.keepIn K (.ref f__law_mixed) = true)
    (a__law_is_whole : PySem.W.nsIn K mainGlobals "_law_is_whole" = some (some (.ref f__law_is_whole)))
    (l__law_is_whole : K.lookup f__law_is_whole = some ⟨oc__law_is_whole, od__law_is_whole, .func (PySem.W.fnOf "_law_is_whole" "_law_is_whole" (defArgs s_is_whole) (defBody s_is_whole) (defScope s_is_whole) .none kV__law_is_whole dc__law_is_whole pm__law_is_whole an__law_is_whole cd__law_is_whole ct__law_is_whole), sl__law_is_whole⟩)
    (c__law_is_whole : PySem.W.codeIn K cd__law_is_whole "_law_is_whole" = true)
    (k__law_is_whole : PySem.W.keepIn K (.ref f__law_is_whole) = true)
    (a__law_odd_thing : PySem.W.nsIn K mainGlobals "_law_odd_thing" = some (some (.ref f__law_odd_thing)))
    (l__law_odd_thing : K.lookup f__law_odd_thing = some ⟨oc__law_odd_thing, od__law_odd_thing, .func (PySem.W.fnOf "_law_odd_thing" "_law_odd_thing" (defArgs s_odd_thing) (defBody s_odd_thing) (defScope s_odd_thing) .none kV__law_odd_thing dc__law_odd_thing pm__law_odd_thing an__law_odd_thing cd__law_odd_thing ct__law_odd_thing), sl__law_odd_thing⟩)
    (c__law_odd_thing : PySem.W.codeIn K cd__law_odd_thing "_law_odd_thing" = true)
    (k__law_odd_thing : PySem.W.keepIn K (.ref f__law_odd_thing) = true)
    (a__law_bent : PySem.W.nsIn K mainGlobals "_law_bent" = some (some (.ref f__law_bent)))
    (l__law_bent : K.lookup f__law_bent = some ⟨oc__law_bent, od__law_bent, .func (PySem.W.fnOf "_law_bent" "_law_bent" (defArgs s_bent) (defBody s_bent) (defScope s_bent) .none kV__law_bent dc__law_bent pm__law_bent an__law_bent cd__law_bent ct__law_bent), sl__law_bent⟩)
    (c__law_bent : PySem.W.codeIn K cd__law_bent "_law_bent" = true)
    (k__law_bent : PySem.W.keepIn K (.ref f__law_bent) = true)
    (a__law_is_name : PySem.W.nsIn K mainGlobals "_law_is_name" = some (some (.ref f__law_is_name)))
    (l__law_is_name : K.lookup f__law_is_name = some ⟨oc__law_is_name, od__law_is_name, .func (PySem.W.fnOf "_law_is_name" "_law_is_name" (defArgs s_lis_name) (defBody s_lis_name) (defScope s_lis_name) .none kV__law_is_name dc__law_is_name pm__law_is_name an__law_is_name cd__law_is_name ct__law_is_name), sl__law_is_name⟩)
    (c__law_is_name : PySem.W.codeIn K cd__law_is_name "_law_is_name" = true)
    (k__law_is_name : PySem.W.keepIn K (.ref f__law_is_name) = true)
    (a__law_is_pair : PySem.W.nsIn K mainGlobals "_law_is_pair" = some (some (.ref f__law_is_pair)))
    (l__law_is_pair : K.lookup f__law_is_pair = some ⟨oc__law_is_pair, od__law_is_pair, .func (PySem.W.fnOf "_law_is_pair" "_law_is_pair" (defArgs s_is_pair) (defBody s_is_pair) (defScope s_is_pair) .none kV__law_is_pair dc__law_is_pair pm__law_is_pair an__law_is_pair cd__law_is_pair ct__law_is_pair), sl__law_is_pair⟩)
    (c__law_is_pair : PySem.W.codeIn K cd__law_is_pair "_law_is_pair" = true)
    (k__law_is_pair : PySem.W.keepIn K (.ref f__law_is_pair) = true)
    (a__law_living : PySem.W.nsIn K mainGlobals "_law_living" = some (some (.ref f__law_living)))
    (l__law_living : K.lookup f__law_living = some ⟨oc__law_living, od__law_living, .func (PySem.W.fnOf "_law_living" "_law_living" (defArgs s_living) (defBody s_living) (defScope s_living) .none kV__law_living dc__law_living pm__law_living an__law_living cd__law_living ct__law_living), sl__law_living⟩)
    (c__law_living : PySem.W.codeIn K cd__law_living "_law_living" = true)
    (k__law_living : PySem.W.keepIn K (.ref f__law_living) = true)
    (a__law_is_signature : PySem.W.nsIn K mainGlobals "_law_is_signature" = some (some (.ref f__law_is_signature)))
    (l__law_is_signature : K.lookup f__law_is_signature = some ⟨oc__law_is_signature, od__law_is_signature, .func (PySem.W.fnOf "_law_is_signature" "_law_is_signature" (defArgs s_lis_signature) (defBody s_lis_signature) (defScope s_lis_signature) .none kV__law_is_signature dc__law_is_signature pm__law_is_signature an__law_is_signature cd__law_is_signature ct__law_is_signature), sl__law_is_signature⟩)
    (c__law_is_signature : PySem.W.codeIn K cd__law_is_signature "_law_is_signature" = true)
    (k__law_is_signature : PySem.W.keepIn K (.ref f__law_is_signature) = true)
    (a__law_makers : PySem.W.nsIn K mainGlobals "_law_makers" = some (some (.ref f__law_makers)))
    (l__law_makers : K.lookup f__law_makers = some ⟨oc__law_makers, od__law_makers, .func (PySem.W.fnOf "_law_makers" "_law_makers" (defArgs s_makers) (defBody s_makers) (defScope s_makers) .none kV__law_makers dc__law_makers pm__law_makers an__law_makers cd__law_makers ct__law_makers), sl__law_makers⟩)
    (c__law_makers : PySem.W.codeIn K cd__law_makers "_law_makers" = true)
    (k__law_makers : PySem.W.keepIn K (.ref f__law_makers) = true)
    (a__law_is_open : PySem.W.nsIn K mainGlobals "_law_is_open" = some (some (.ref f__law_is_open)))
    (l__law_is_open : K.lookup f__law_is_open = some ⟨oc__law_is_open, od__law_is_open, .func (PySem.W.fnOf "_law_is_open" "_law_is_open" (defArgs s_is_open) (defBody s_is_open) (defScope s_is_open) .none kV__law_is_open dc__law_is_open pm__law_is_open an__law_is_open cd__law_is_open ct__law_is_open), sl__law_is_open⟩)
    (c__law_is_open : PySem.W.codeIn K cd__law_is_open "_law_is_open" = true)
    (k__law_is_open : PySem.W.keepIn K (.ref f__law_is_open) = true)
    (a__law_is_small : PySem.W.nsIn K mainGlobals "_law_is_small" = some (some (.ref f__law_is_small)))
    (l__law_is_small : K.lookup f__law_is_small = some ⟨oc__law_is_small, od__law_is_small, .func (PySem.W.fnOf "_law_is_small" "_law_is_small" (defArgs s_lis_small) (defBody s_lis_small) (defScope s_lis_small) .none kV__law_is_small dc__law_is_small pm__law_is_small an__law_is_small cd__law_is_small ct__law_is_small), sl__law_is_small⟩)
    (c__law_is_small : PySem.W.codeIn K cd__law_is_small "_law_is_small" = true)
    (k__law_is_small : PySem.W.keepIn K (.ref f__law_is_small) = true)
    (a__law_some_sig : PySem.W.nsIn K mainGlobals "_law_some_sig" = some (some (.ref f__law_some_sig)))
    (l__law_some_sig : K.lookup f__law_some_sig = some ⟨oc__law_some_sig, od__law_some_sig, .func (PySem.W.fnOf "_law_some_sig" "_law_some_sig" (defArgs s_some_sig) (defBody s_some_sig) (defScope s_some_sig) .none kV__law_some_sig dc__law_some_sig pm__law_some_sig an__law_some_sig cd__law_some_sig ct__law_some_sig), sl__law_some_sig⟩)
    (c__law_some_sig : PySem.W.codeIn K cd__law_some_sig "_law_some_sig" = true)
    (k__law_some_sig : PySem.W.keepIn K (.ref f__law_some_sig) = true)
    (a__law_turned : PySem.W.nsIn K mainGlobals "_law_turned" = some (some (.ref f__law_turned)))
    (l__law_turned : K.lookup f__law_turned = some ⟨oc__law_turned, od__law_turned, .func (PySem.W.fnOf "_law_turned" "_law_turned" (defArgs s_turned) (defBody s_turned) (defScope s_turned) .none kV__law_turned dc__law_turned pm__law_turned an__law_turned cd__law_turned ct__law_turned), sl__law_turned⟩)
    (c__law_turned : PySem.W.codeIn K cd__law_turned "_law_turned" = true)
    (k__law_turned : PySem.W.keepIn K (.ref f__law_turned) = true)
    (a__law_sig : PySem.W.nsIn K mainGlobals "_law_sig" = some (some (.ref f__law_sig)))
    (l__law_sig : K.lookup f__law_sig = some ⟨oc__law_sig, od__law_sig, .func (PySem.W.fnOf "_law_sig" "_law_sig" (defArgs s_sig) (defBody s_sig) (defScope s_sig) .none kV__law_sig dc__law_sig pm__law_sig an__law_sig cd__law_sig ct__law_sig), sl__law_sig⟩)
    (c__law_sig : PySem.W.codeIn K cd__law_sig "_law_sig" = true)
    (k__law_sig : PySem.W.keepIn K (.ref f__law_sig) = true)
    (a__law_things : PySem.W.nsIn K mainGlobals "_law_things" = some (some (.ref f__law_things)))
    (l__law_things : K.lookup f__law_things = some ⟨oc__law_things, od__law_things, .func (PySem.W.fnOf "_law_things" "_law_things" (defArgs s_things) (defBody s_things) (defScope s_things) .none kV__law_things dc__law_things pm__law_things an__law_things cd__law_things ct__law_things), sl__law_things⟩)
    (c__law_things : PySem.W.codeIn K cd__law_things "_law_things" = true)
    (k__law_things : PySem.W.keepIn K (.ref f__law_things) = true)
    (a__law_right : PySem.W.nsIn K mainGlobals "_law_right" = some (some (.ref f__law_right)))
    (l__law_right : K.lookup f__law_right = some ⟨oc__law_right, od__law_right, .func (PySem.W.fnOf "_law_right" "_law_right" (defArgs s_right) (defBody s_right) (defScope s_right) .none kV__law_right dc__law_right pm__law_right an__law_right cd__law_right ct__law_right), sl__law_right⟩)
    (c__law_right : PySem.W.codeIn K cd__law_right "_law_right" = true)
    (k__law_right : PySem.W.keepIn K (.ref f__law_right) = true)
    (a_law : PySem.W.nsIn K mainGlobals "law" = some (some (.ref f_law)))
    (l_law : K.lookup f_law = some ⟨oc_law, od_law, .func (PySem.W.fnOf "law" "law" (defArgs s_law) (defBody s_law) (defScope s_law) .none kV_law dc_law pm_law an_law cd_law ct_law), sl_law⟩)
    (c_law : PySem.W.codeIn K cd_law "law" = true)
    (k_law : PySem.W.keepIn K (.ref f_law) = true)
    (q_LETTERS : PySem.W.nsIn K mainGlobals "LETTERS" = some (some (.str "abcdefghijklmnopqrstuvwxyz" t_LETTERS)))
    (q_NAME_SIGNS : PySem.W.nsIn K mainGlobals "NAME_SIGNS" = some (some (.str "abcdefghijklmnopqrstuvwxyz0123456789_" t_NAME_SIGNS)))
    (q_LONGEST_NAME : PySem.W.nsIn K mainGlobals "LONGEST_NAME" = some (some (.int 12 t_LONGEST_NAME)))
    (q_MOST_KINDS : PySem.W.nsIn K mainGlobals "MOST_KINDS" = some (some (.int 8 t_MOST_KINDS)))
    (q_MOST_MAKERS : PySem.W.nsIn K mainGlobals "MOST_MAKERS" = some (some (.int 24 t_MOST_MAKERS)))
    (q_MOST_NEEDS : PySem.W.nsIn K mainGlobals "MOST_NEEDS" = some (some (.int 3 t_MOST_NEEDS)))
    (z_int : PySem.W.nsIn K mainGlobals "int" = some none)
    (z_abs : PySem.W.nsIn K mainGlobals "abs" = some none)
    (z_divmod : PySem.W.nsIn K mainGlobals "divmod" = some none)
    (z_len : PySem.W.nsIn K mainGlobals "len" = some none)
    (z_all : PySem.W.nsIn K mainGlobals "all" = some none)
    (z_range : PySem.W.nsIn K mainGlobals "range" = some none)
    (z_max : PySem.W.nsIn K mainGlobals "max" = some none)
    (z_min : PySem.W.nsIn K mainGlobals "min" = some none)
    (z_repr : PySem.W.nsIn K mainGlobals "repr" = some none)
    (z_isinstance : PySem.W.nsIn K mainGlobals "isinstance" = some none)
    (z_verr : PySem.W.nsIn K mainGlobals "ValueError" = some none)
    (z_lerr : PySem.W.nsIn K mainGlobals "LookupError" = some none)
    (z_aerr : PySem.W.nsIn K mainGlobals "ArithmeticError" = some none)
    (z_terr : PySem.W.nsIn K mainGlobals "TypeError" = some none)
    (z_atterr : PySem.W.nsIn K mainGlobals "AttributeError" = some none)
    (z_rerr : PySem.W.nsIn K mainGlobals "RuntimeError" = some none)
    (z_serr : PySem.W.nsIn K mainGlobals "StopIteration" = some none)
    (z_enumerate : PySem.W.nsIn K mainGlobals "enumerate" = some none)
    (z_tuple : PySem.W.nsIn K mainGlobals "tuple" = some none)
    (z_str : PySem.W.nsIn K mainGlobals "str" = some none)
    (z_list : PySem.W.nsIn K mainGlobals "list" = some none)
    (z_bool : PySem.W.nsIn K mainGlobals "bool" = some none)
    (z_set : PySem.W.nsIn K mainGlobals "set" = some none)
    (z_sorted : PySem.W.nsIn K mainGlobals "sorted" = some none) :
    ∃ fd : FuncData, (∀ (s : Shared) (u : Value), BindsTo s fd ⟨[u], []⟩ [("script", u)]) ∧ ∀ base : Heap, K.In base → base.Ns mainGlobals mg → Fn P w K mg base CX0 8 fa fd ["script"] (spLaw K) := by
  have e := hfa.symm.trans (PySem.W.mg_of X G a_law)
  cases e
  have F_is_name := fun_mk (st := s_is_name) l_is_name c_is_name k_is_name
  have D_is_name : Df K mg "is_name" s_is_name := ⟨_, _, PySem.W.mg_of X G a_is_name, F_is_name⟩
  have F_is_tuple := fun_mk (st := s_is_tuple) l_is_tuple c_is_tuple k_is_tuple
  have D_is_tuple : Df K mg "is_tuple" s_is_tuple := ⟨_, _, PySem.W.mg_of X G a_is_tuple, F_is_tuple⟩
  have F_is_among := fun_mk (st := s_is_among) l_is_among c_is_among k_is_among
  have D_is_among : Df K mg "is_among" s_is_among := ⟨_, _, PySem.W.mg_of X G a_is_among, F_is_among⟩
  have F_are_unlike := fun_mk (st := s_are_unlike) l_are_unlike c_are_unlike k_are_unlike
  have D_are_unlike : Df K mg "are_unlike" s_are_unlike := ⟨_, _, PySem.W.mg_of X G a_are_unlike, F_are_unlike⟩
  have F_is_signature := fun_mk (st := s_is_signature) l_is_signature c_is_signature k_is_signature
  have D_is_signature : Df K mg "is_signature" s_is_signature := ⟨_, _, PySem.W.mg_of X G a_is_signature, F_is_signature⟩
  have F_are_kinds_told := fun_mk (st := s_are_kinds_told) l_are_kinds_told c_are_kinds_told k_are_kinds_told
  have D_are_kinds_told : Df K mg "are_kinds_told" s_are_kinds_told := ⟨_, _, PySem.W.mg_of X G a_are_kinds_told, F_are_kinds_told⟩
  have F_is_kind_told := fun_mk (st := s_is_kind_told) l_is_kind_told c_is_kind_told k_is_kind_told
  have D_is_kind_told : Df K mg "is_kind_told" s_is_kind_told := ⟨_, _, PySem.W.mg_of X G a_is_kind_told, F_is_kind_told⟩
  have F_are_makers_told := fun_mk (st := s_are_makers_told) l_are_makers_told c_are_makers_told k_are_makers_told
  have D_are_makers_told : Df K mg "are_makers_told" s_are_makers_told := ⟨_, _, PySem.W.mg_of X G a_are_makers_told, F_are_makers_told⟩
  have F_is_maker_told := fun_mk (st := s_is_maker_told) l_is_maker_told c_is_maker_told k_is_maker_told
  have D_is_maker_told : Df K mg "is_maker_told" s_is_maker_told := ⟨_, _, PySem.W.mg_of X G a_is_maker_told, F_is_maker_told⟩
  have F_have_terms := fun_mk (st := s_have_terms) l_have_terms c_have_terms k_have_terms
  have D_have_terms : Df K mg "have_terms" s_have_terms := ⟨_, _, PySem.W.mg_of X G a_have_terms, F_have_terms⟩
  have F_check_signature := fun_mk (st := s_check_signature) l_check_signature c_check_signature k_check_signature
  have D_check_signature : Df K mg "check_signature" s_check_signature := ⟨_, _, PySem.W.mg_of X G a_check_signature, F_check_signature⟩
  have F_check_kind := fun_mk (st := s_check_kind) l_check_kind c_check_kind k_check_kind
  have D_check_kind : Df K mg "check_kind" s_check_kind := ⟨_, _, PySem.W.mg_of X G a_check_kind, F_check_kind⟩
  have F_kind_names := fun_mk (st := s_kind_names) l_kind_names c_kind_names k_kind_names
  have D_kind_names : Df K mg "kind_names" s_kind_names := ⟨_, _, PySem.W.mg_of X G a_kind_names, F_kind_names⟩
  have F_makers_by_kind := fun_mk (st := s_makers_by_kind) l_makers_by_kind c_makers_by_kind k_makers_by_kind
  have D_makers_by_kind : Df K mg "makers_by_kind" s_makers_by_kind := ⟨_, _, PySem.W.mg_of X G a_makers_by_kind, F_makers_by_kind⟩
  have F_is_small := fun_mk (st := s_is_small) l_is_small c_is_small k_is_small
  have D_is_small : Df K mg "is_small" s_is_small := ⟨_, _, PySem.W.mg_of X G a_is_small, F_is_small⟩
  have F_small_kinds := fun_mk (st := s_small_kinds) l_small_kinds c_small_kinds k_small_kinds
  have D_small_kinds : Df K mg "small_kinds" s_small_kinds := ⟨_, _, PySem.W.mg_of X G a_small_kinds, F_small_kinds⟩
  have F__law_well := fun_mk (st := s_well) l__law_well c__law_well k__law_well
  have D__law_well : Df K mg "_law_well" s_well := ⟨_, _, PySem.W.mg_of X G a__law_well, F__law_well⟩
  have F__law_draw := fun_mk (st := s_draw) l__law_draw c__law_draw k__law_draw
  have D__law_draw : Df K mg "_law_draw" s_draw := ⟨_, _, PySem.W.mg_of X G a__law_draw, F__law_draw⟩
  have F__law_one := fun_mk (st := s_one) l__law_one c__law_one k__law_one
  have D__law_one : Df K mg "_law_one" s_one := ⟨_, _, PySem.W.mg_of X G a__law_one, F__law_one⟩
  have F__law_mixed := fun_mk (st := s_mixed) l__law_mixed c__law_mixed k__law_mixed
  have D__law_mixed : Df K mg "_law_mixed" s_mixed := ⟨_, _, PySem.W.mg_of X G a__law_mixed, F__law_mixed⟩
  have F__law_is_whole := fun_mk (st := s_is_whole) l__law_is_whole c__law_is_whole k__law_is_whole
  have D__law_is_whole : Df K mg "_law_is_whole" s_is_whole := ⟨_, _, PySem.W.mg_of X G a__law_is_whole, F__law_is_whole⟩
  have F__law_odd_thing := fun_mk (st := s_odd_thing) l__law_odd_thing c__law_odd_thing k__law_odd_thing
  have D__law_odd_thing : Df K mg "_law_odd_thing" s_odd_thing := ⟨_, _, PySem.W.mg_of X G a__law_odd_thing, F__law_odd_thing⟩
  have F__law_bent := fun_mk (st := s_bent) l__law_bent c__law_bent k__law_bent
  have D__law_bent : Df K mg "_law_bent" s_bent := ⟨_, _, PySem.W.mg_of X G a__law_bent, F__law_bent⟩
  have F__law_is_name := fun_mk (st := s_lis_name) l__law_is_name c__law_is_name k__law_is_name
  have D__law_is_name : Df K mg "_law_is_name" s_lis_name := ⟨_, _, PySem.W.mg_of X G a__law_is_name, F__law_is_name⟩
  have F__law_is_pair := fun_mk (st := s_is_pair) l__law_is_pair c__law_is_pair k__law_is_pair
  have D__law_is_pair : Df K mg "_law_is_pair" s_is_pair := ⟨_, _, PySem.W.mg_of X G a__law_is_pair, F__law_is_pair⟩
  have F__law_living := fun_mk (st := s_living) l__law_living c__law_living k__law_living
  have D__law_living : Df K mg "_law_living" s_living := ⟨_, _, PySem.W.mg_of X G a__law_living, F__law_living⟩
  have F__law_is_signature := fun_mk (st := s_lis_signature) l__law_is_signature c__law_is_signature k__law_is_signature
  have D__law_is_signature : Df K mg "_law_is_signature" s_lis_signature := ⟨_, _, PySem.W.mg_of X G a__law_is_signature, F__law_is_signature⟩
  have F__law_makers := fun_mk (st := s_makers) l__law_makers c__law_makers k__law_makers
  have D__law_makers : Df K mg "_law_makers" s_makers := ⟨_, _, PySem.W.mg_of X G a__law_makers, F__law_makers⟩
  have F__law_is_open := fun_mk (st := s_is_open) l__law_is_open c__law_is_open k__law_is_open
  have D__law_is_open : Df K mg "_law_is_open" s_is_open := ⟨_, _, PySem.W.mg_of X G a__law_is_open, F__law_is_open⟩
  have F__law_is_small := fun_mk (st := s_lis_small) l__law_is_small c__law_is_small k__law_is_small
  have D__law_is_small : Df K mg "_law_is_small" s_lis_small := ⟨_, _, PySem.W.mg_of X G a__law_is_small, F__law_is_small⟩
  have F__law_some_sig := fun_mk (st := s_some_sig) l__law_some_sig c__law_some_sig k__law_some_sig
  have D__law_some_sig : Df K mg "_law_some_sig" s_some_sig := ⟨_, _, PySem.W.mg_of X G a__law_some_sig, F__law_some_sig⟩
  have F__law_turned := fun_mk (st := s_turned) l__law_turned c__law_turned k__law_turned
  have D__law_turned : Df K mg "_law_turned" s_turned := ⟨_, _, PySem.W.mg_of X G a__law_turned, F__law_turned⟩
  have F__law_sig := fun_mk (st := s_sig) l__law_sig c__law_sig k__law_sig
  have D__law_sig : Df K mg "_law_sig" s_sig := ⟨_, _, PySem.W.mg_of X G a__law_sig, F__law_sig⟩
  have F__law_things := fun_mk (st := s_things) l__law_things c__law_things k__law_things
  have D__law_things : Df K mg "_law_things" s_things := ⟨_, _, PySem.W.mg_of X G a__law_things, F__law_things⟩
  have F__law_right := fun_mk (st := s_right) l__law_right c__law_right k__law_right
  have D__law_right : Df K mg "_law_right" s_right := ⟨_, _, PySem.W.mg_of X G a__law_right, F__law_right⟩
  have F_law := fun_mk (st := s_law) l_law c_law k_law
  have B : Bi mg := ⟨PySem.W.mg_none_of X G z_int, PySem.W.mg_none_of X G z_abs, PySem.W.mg_none_of X G z_divmod, PySem.W.mg_none_of X G z_len, PySem.W.mg_none_of X G z_all, PySem.W.mg_none_of X G z_range, PySem.W.mg_none_of X G z_max, PySem.W.mg_none_of X G z_min, PySem.W.mg_none_of X G z_repr, PySem.W.mg_none_of X G z_isinstance, PySem.W.mg_none_of X G z_verr, PySem.W.mg_none_of X G z_lerr, PySem.W.mg_none_of X G z_aerr, PySem.W.mg_none_of X G z_terr, PySem.W.mg_none_of X G z_atterr, PySem.W.mg_none_of X G z_rerr, PySem.W.mg_none_of X G z_serr, PySem.W.mg_none_of X G z_enumerate, PySem.W.mg_none_of X G z_tuple, PySem.W.mg_none_of X G z_str, PySem.W.mg_none_of X G z_list, PySem.W.mg_none_of X G z_bool, PySem.W.mg_none_of X G z_set, PySem.W.mg_none_of X G z_sorted⟩
  have C : Cn mg := ⟨⟨_, PySem.W.mg_of X G q_LETTERS, ⟨_, rfl⟩⟩, ⟨_, PySem.W.mg_of X G q_NAME_SIGNS, ⟨_, rfl⟩⟩, ⟨_, PySem.W.mg_of X G q_LONGEST_NAME, ⟨_, rfl⟩⟩, ⟨_, PySem.W.mg_of X G q_MOST_KINDS, ⟨_, rfl⟩⟩, ⟨_, PySem.W.mg_of X G q_MOST_MAKERS, ⟨_, rfl⟩⟩, ⟨_, PySem.W.mg_of X G q_MOST_NEEDS, ⟨_, rfl⟩⟩⟩
  refine ⟨PySem.W.fnOf "law" "law" (defArgs s_law) (defBody s_law) (defScope s_law) .none kV_law dc_law pm_law an_law cd_law ct_law, fun s u => .of_eq rfl, fun base _ _ => ?_⟩
  have G__law_draw := ok_draw (P := P) (w := w) (base := base) D__law_draw B
  have G__law_one := ok_one (P := P) (w := w) (base := base) D__law_one B G__law_draw
  have G__law_well := ok_well (P := P) (w := w) (base := base) D__law_well B
  have G_is_tuple := ok_is_tuple (P := P) (w := w) (base := base) D_is_tuple B
  have G_is_among := ok_is_among (P := P) (w := w) (base := base) D_is_among B
  have G_are_unlike := ok_are_unlike (P := P) (w := w) (base := base) D_are_unlike B
  have G_is_name := ok_is_name (P := P) (w := w) (base := base) D_is_name B C
  have G_is_kind_told := ok_is_kind_told (P := P) (w := w) (base := base) D_is_kind_told B C G_is_tuple G_is_name G_is_among
  have G_are_kinds_told := ok_are_kinds_told (P := P) (w := w) (base := base) D_are_kinds_told B C G_is_tuple G_is_name G_is_among G_are_unlike G_is_kind_told
  have G_is_maker_told := ok_is_maker_told (P := P) (w := w) (base := base) D_is_maker_told B C G_is_tuple G_is_name G_is_among
  have G_are_makers_told := ok_are_makers_told (P := P) (w := w) (base := base) D_are_makers_told B C G_is_tuple G_is_name G_is_among G_are_unlike G_is_maker_told
  have G_have_terms := ok_have_terms (P := P) (w := w) (base := base) D_have_terms B
  have G_is_signature := ok_is_signature (P := P) (w := w) (base := base) D_is_signature B G_is_tuple G_are_kinds_told G_are_makers_told G_have_terms
  have GK_is_signature : GdK P w K mg base CX0 4 "is_signature" ["value"] ["value"] id id spSig := gdk_of D_is_signature (fun _ _ _ _ _ _ us hl => match us, hl with | [_], _ => rfl) (fun h => h) fun _ _ F => okF_is_signature F B G_is_tuple G_are_kinds_told G_are_makers_told G_have_terms
  have G_check_signature := ok_check_signature (P := P) (w := w) (base := base) D_check_signature G_is_signature
  have G_kind_names := ok_kind_names (P := P) (w := w) (base := base) D_kind_names
  have G_check_kind := ok_check_kind (P := P) (w := w) (base := base) D_check_kind G_is_among G_kind_names
  have G_makers_by_kind := ok_makers_by_kind (P := P) (w := w) (base := base) D_makers_by_kind G_kind_names
  have G_small_kinds := ok_small_kinds (P := P) (w := w) (base := base) D_small_kinds B G_kind_names G_makers_by_kind
  have G_is_small := ok_is_small (P := P) (w := w) (base := base) D_is_small G_check_signature G_check_kind G_small_kinds
  have GK_is_small : GdK P w K mg base CX0 6 "is_small" ["signature", "kind"] ["kind", "signature"] swp swp spIsSmall := gdk_of D_is_small (fun _ _ _ _ _ _ us hl => match us, hl with | [_, _], _ => rfl | [], h => nomatch h | [_], h => nomatch h | _ :: _ :: _ :: _, h => nomatch h) swp_vals fun _ _ F => okF_is_small F G_check_signature G_check_kind G_small_kinds
  have G__law_is_name := ok_lis_name (P := P) (w := w) (base := base) D__law_is_name B
  have G__law_is_pair := ok_is_pair (P := P) (w := w) (base := base) D__law_is_pair B
  have G__law_is_whole := ok_is_whole (P := P) (w := w) (base := base) D__law_is_whole B
  have G__law_mixed := ok_mixed (P := P) (w := w) (base := base) D__law_mixed B G__law_draw
  have G__law_odd_thing := ok_odd (P := P) (w := w) (base := base) D__law_odd_thing B G__law_one
  have G__law_living := ok_living (P := P) (w := w) (base := base) D__law_living B
  have G__law_is_signature := ok_lis_signature (P := P) (w := w) (base := base) D__law_is_signature B G__law_is_pair G__law_is_name G__law_living
  have G__law_makers := ok_makers (P := P) (w := w) (base := base) D__law_makers
  have G__law_is_open := ok_is_open (P := P) (w := w) (base := base) D__law_is_open
  have G__law_is_small := ok_lis_small (P := P) (w := w) (base := base) D__law_is_small G__law_is_open G__law_makers
  have G__law_some_sig := ok_some_sig (P := P) (w := w) (base := base) D__law_some_sig G__law_draw
  have G__law_turned := ok_turned (P := P) (w := w) (base := base) D__law_turned B G__law_mixed
  have G__law_sig := ok_lsig (P := P) (w := w) (base := base) D__law_sig G__law_turned G__law_some_sig
  have G__law_bent := ok_bent (P := P) (w := w) (base := base) D__law_bent B G__law_draw G__law_is_whole G__law_odd_thing
  have G__law_things := ok_things (P := P) (w := w) (base := base) D__law_things B G__law_draw G__law_one G__law_bent G__law_odd_thing
  have G__law_right := ok_right (P := P) (w := w) (base := base) D__law_right B G__law_sig G__law_things G__law_is_signature G_is_signature G__law_is_small G_is_small GK_is_signature GK_is_small
  exact ok_law F_law B G__law_well G__law_right

end Q0
open PySem PySem.W PyProof.Rows
set_option maxRecDepth 100000 in
set_option maxHeartbeats 0 in
theorem PySem.Challenge.cw_instances_k02_signatures_of_anything_sma_holds : PySem.Challenge.rw_instances_k02_signatures_of_anything_sma.Holds := by
  w_on; o_law; k_head; (case hw => w_witness2)
  k_fill
  refine Q0.walk_end (l := PySem.Challenge.rw_instances_k02_signatures_of_anything_sma) (k := 8) (x := "script") rfl rfl ⟨rfl, by decide, by decide⟩ (fun w h Y => PySem.W.kIn_of Y) ?F
  case F =>
    intro w mg fa h KX G hmg
    refine' Q0.all_mk KX G hmg ?a_is_name ?l_is_name ?c_is_name ?k_is_name ?a_is_tuple ?l_is_tuple ?c_is_tuple ?k_is_tuple ?a_is_among ?l_is_among ?c_is_among ?k_is_among ?a_are_unlike ?l_are_unlike ?c_are_unlike ?k_are_unlike ?a_is_signature ?l_is_signature ?c_is_signature ?k_is_signature ?a_are_kinds_told ?l_are_kinds_told ?c_are_kinds_told ?k_are_kinds_told ?a_is_kind_told ?l_is_kind_told ?c_is_kind_told ?k_is_kind_told ?a_are_makers_told ?l_are_makers_told ?c_are_makers_told ?k_are_makers_told ?a_is_maker_told ?l_is_maker_told ?c_is_maker_told ?k_is_maker_told ?a_have_terms ?l_have_terms ?c_have_terms ?k_have_terms ?a_check_signature ?l_check_signature ?c_check_signature ?k_check_signature ?a_check_kind ?l_check_kind ?c_check_kind ?k_check_kind ?a_kind_names ?l_kind_names ?c_kind_names ?k_kind_names ?a_makers_by_kind ?l_makers_by_kind ?c_makers_by_kind ?k_makers_by_kind ?a_is_small ?l_is_small ?c_is_small ?k_is_small ?a_small_kinds ?l_small_kinds ?c_small_kinds ?k_small_kinds ?a__law_well ?l__law_well ?c__law_well ?k__law_well ?a__law_draw ?l__law_draw ?c__law_draw ?k__law_draw ?a__law_one ?l__law_one ?c__law_one ?k__law_one ?a__law_mixed ?l__law_mixed ?c__law_mixed ?k__law_mixed ?a__law_is_whole ?l__law_is_whole ?c__law_is_whole ?k__law_is_whole ?a__law_odd_thing ?l__law_odd_thing ?c__law_odd_thing ?k__law_odd_thing ?a__law_bent ?l__law_bent ?c__law_bent ?k__law_bent ?a__law_is_name ?l__law_is_name ?c__law_is_name ?k__law_is_name ?a__law_is_pair ?l__law_is_pair ?c__law_is_pair ?k__law_is_pair ?a__law_living ?l__law_living ?c__law_living ?k__law_living ?a__law_is_signature ?l__law_is_signature ?c__law_is_signature ?k__law_is_signature ?a__law_makers ?l__law_makers ?c__law_makers ?k__law_makers ?a__law_is_open ?l__law_is_open ?c__law_is_open ?k__law_is_open ?a__law_is_small ?l__law_is_small ?c__law_is_small ?k__law_is_small ?a__law_some_sig ?l__law_some_sig ?c__law_some_sig ?k__law_some_sig ?a__law_turned ?l__law_turned ?c__law_turned ?k__law_turned ?a__law_sig ?l__law_sig ?c__law_sig ?k__law_sig ?a__law_things ?l__law_things ?c__law_things ?k__law_things ?a__law_right ?l__law_right ?c__law_right ?k__law_right ?a_law ?l_law ?c_law ?k_law ?q_LETTERS ?q_NAME_SIGNS ?q_LONGEST_NAME ?q_MOST_KINDS ?q_MOST_MAKERS ?q_MOST_NEEDS ?z_int ?z_abs ?z_divmod ?z_len ?z_all ?z_range ?z_max ?z_min ?z_repr ?z_isinstance ?z_verr ?z_lerr ?z_aerr ?z_terr ?z_atterr ?z_rerr ?z_serr ?z_enumerate ?z_tuple ?z_str ?z_list ?z_bool ?z_set ?z_sorted
    (case a_is_name => k_is); (case l_is_name => k_is); (case c_is_name => k_is); (case k_is_name => k_is); (case a_is_tuple => k_is); (case l_is_tuple => k_is); (case c_is_tuple => k_is); (case k_is_tuple => k_is); (case a_is_among => k_is); (case l_is_among => k_is); (case c_is_among => k_is); (case k_is_among => k_is); (case a_are_unlike => k_is); (case l_are_unlike => k_is); (case c_are_unlike => k_is); (case k_are_unlike => k_is); (case a_is_signature => k_is); (case l_is_signature => k_is); (case c_is_signature => k_is); (case k_is_signature => k_is); (case a_are_kinds_told => k_is); (case l_are_kinds_told => k_is); (case c_are_kinds_told => k_is); (case k_are_kinds_told => k_is); (case a_is_kind_told => k_is); (case l_is_kind_told => k_is); (case c_is_kind_told => k_is); (case k_is_kind_told => k_is); (case a_are_makers_told => k_is); (case l_are_makers_told => k_is); (case c_are_makers_told => k_is); (case k_are_makers_told => k_is); (case a_is_maker_told => k_is); (case l_is_maker_told => k_is); (case c_is_maker_told => k_is); (case k_is_maker_told => k_is); (case a_have_terms => k_is); (case l_have_terms => k_is); (case c_have_terms => k_is); (case k_have_terms => k_is); (case a_check_signature => k_is); (case l_check_signature => k_is); (case c_check_signature => k_is); (case k_check_signature => k_is); (case a_check_kind => k_is); (case l_check_kind => k_is); (case c_check_kind => k_is); (case k_check_kind => k_is); (case a_kind_names => k_is); (case l_kind_names => k_is); (case c_kind_names => k_is); (case k_kind_names => k_is); (case a_makers_by_kind => k_is); (case l_makers_by_kind => k_is); (case c_makers_by_kind => k_is); (case k_makers_by_kind => k_is); (case a_is_small => k_is); (case l_is_small => k_is); (case c_is_small => k_is); (case k_is_small => k_is); (case a_small_kinds => k_is); (case l_small_kinds => k_is); (case c_small_kinds => k_is); (case k_small_kinds => k_is); (case a__law_well => k_is); (case l__law_well => k_is); (case c__law_well => k_is); (case k__law_well => k_is); (case a__law_draw => k_is); (case l__law_draw => k_is); (case c__law_draw => k_is); (case k__law_draw => k_is); (case a__law_one => k_is); (case l__law_one => k_is); (case c__law_one => k_is); (case k__law_one => k_is); (case a__law_mixed => k_is); (case l__law_mixed => k_is); (case c__law_mixed => k_is); (case k__law_mixed => k_is); (case a__law_is_whole => k_is); (case l__law_is_whole => k_is); (case c__law_is_whole => k_is); (case k__law_is_whole => k_is); (case a__law_odd_thing => k_is); (case l__law_odd_thing => k_is); (case c__law_odd_thing => k_is); (case k__law_odd_thing => k_is); (case a__law_bent => k_is); (case l__law_bent => k_is); (case c__law_bent => k_is); (case k__law_bent => k_is); (case a__law_is_name => k_is); (case l__law_is_name => k_is); (case c__law_is_name => k_is); (case k__law_is_name => k_is); (case a__law_is_pair => k_is); (case l__law_is_pair => k_is); (case c__law_is_pair => k_is); (case k__law_is_pair => k_is); (case a__law_living => k_is); (case l__law_living => k_is); (case c__law_living => k_is); (case k__law_living => k_is); (case a__law_is_signature => k_is); (case l__law_is_signature => k_is); (case c__law_is_signature => k_is); (case k__law_is_signature => k_is); (case a__law_makers => k_is); (case l__law_makers => k_is); (case c__law_makers => k_is); (case k__law_makers => k_is); (case a__law_is_open => k_is); (case l__law_is_open => k_is); (case c__law_is_open => k_is); (case k__law_is_open => k_is); (case a__law_is_small => k_is); (case l__law_is_small => k_is); (case c__law_is_small => k_is); (case k__law_is_small => k_is); (case a__law_some_sig => k_is); (case l__law_some_sig => k_is); (case c__law_some_sig => k_is); (case k__law_some_sig => k_is); (case a__law_turned => k_is); (case l__law_turned => k_is); (case c__law_turned => k_is); (case k__law_turned => k_is); (case a__law_sig => k_is); (case l__law_sig => k_is); (case c__law_sig => k_is); (case k__law_sig => k_is); (case a__law_things => k_is); (case l__law_things => k_is); (case c__law_things => k_is); (case k__law_things => k_is); (case a__law_right => k_is); (case l__law_right => k_is); (case c__law_right => k_is); (case k__law_right => k_is); (case a_law => k_is); (case l_law => k_is); (case c_law => k_is); (case k_law => k_is); (case q_LETTERS => k_is); (case q_NAME_SIGNS => k_is); (case q_LONGEST_NAME => k_is); (case q_MOST_KINDS => k_is); (case q_MOST_MAKERS => k_is); (case q_MOST_NEEDS => k_is); (case z_int => k_is); (case z_abs => k_is); (case z_divmod => k_is); (case z_len => k_is); (case z_all => k_is); (case z_range => k_is); (case z_max => k_is); (case z_min => k_is); (case z_repr => k_is); (case z_isinstance => k_is); (case z_verr => k_is); (case z_lerr => k_is); (case z_aerr => k_is); (case z_terr => k_is); (case z_atterr => k_is); (case z_rerr => k_is); (case z_serr => k_is); (case z_enumerate => k_is); (case z_tuple => k_is); (case z_str => k_is); (case z_list => k_is); (case z_bool => k_is); (case z_set => k_is); (case z_sorted => k_is)
