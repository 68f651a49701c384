import PyProof.Rows.All
import Wide.All
import OpenK.AllK
import Wide.FinOn
import HandS.ForMost
import HandS.Defaults
import HandS.IsInst
import HandS.Flow
import HandS.Codes
import HandS.SetFor
import HandS.Strs
import HandS.TryOnly
import PyProof.ReprRoads
import PyProof.CallFns
import HandS.ExcInit
import HandS.ExcIs
import HandS.ExcField
import HandS.ExcValue
import KE.KExcIs
import HandS.DictComp
import HandS.Deep
import HandS.Walk
import KE.KDictCopyH
import HandS.Sort
import HandS.TupAny
import HandS.TupMul
import PyProof.StrOps2
import HandS.Style
import KE.GoesMore
import KE.KDictZip
import KE.KDictList
import HandS.ListItems
import HandS.Zip
import KE.GoesEnum
import PyProof.NeData
import KE.KDictSum
import KE.SortData
import HandS.SortOrd
import HandS.SetKeys
import HandS.Star
import HandS.Iter
import HandS.ForExc
import PySem.Challenge.RW_instances_k03_terms_and_patterns_of_anyt
set_option Elab.async false
set_option linter.all false
set_option maxRecDepth 100000
set_option maxHeartbeats 4000000
/-! A layer of our own over HandS: promises of defs that are kept where nothing is being shown (so that repr of data may be asked for in them). -/
namespace Q0
open PySem PySem.Spec PyProof.Rows L2

/-- nothing is being shown around -/
abbrev Qt (A : Around) : Prop := A.guards = some []

/-- a def's promise, kept where nothing is being shown -/
structure Fn (P : Program) (w : World) (K : PySem.W.Frag) (mg : Str → Option Value) (base : Heap)
    (CX : CXT) (k : Nat) (f : Addr) (fd : FuncData) (ps : List Str) (sp : Sp) : Prop where
  len : ∀ vs H Q E, sp vs H Q E → vs.length = ps.length
  run : ∀ (A : Around) (outer : List Env) (s : Shared) (H : Hp) (args : Args) (us : List Value)
    (vs : List V) (Q : VK) (E : XK), Room k A → Qt A → Env0 P w K mg base A outer s H →
    BindsTo s fd args (ps.zip us) → Vals vs us → sp vs H Q E →
    codeAny (model P w) A (.call (.ref f) args) (CR CX outer P w H s Q E) s

section
variable {P : Program} {w : World} {K : PySem.W.Frag} {mg : Str → Option Value} {base : Heap} {CX : CXT}
  {k j : Nat} {f : Addr} {fd : FuncData} {ps : List Str} {sp sp' : Sp}
theorem Fn.mono (F : Fn P w K mg base CX j f fd ps sp) (h : j ≤ k) : Fn P w K mg base CX k f fd ps sp :=
  ⟨F.len, fun A outer s H args us vs Q E hr hq => F.run A outer s H args us vs Q E (hr.mono h) hq⟩
theorem Fn.imp (F : Fn P w K mg base CX k f fd ps sp) (h : ∀ vs H Q E, sp' vs H Q E → sp vs H Q E) :
    Fn P w K mg base CX k f fd ps sp' :=
  ⟨fun vs H Q E q => F.len vs H Q E (h _ _ _ _ q), fun A outer s H args us vs Q E hr hq he hb hv hs =>
    F.run A outer s H args us vs Q E hr hq he hb hv (h _ _ _ _ hs)⟩

/-- a def by its body; an exception that leaves it is told by CX -/
theorem fun_qX {x qual : Str} {st : Stmt} {N : List Str} (F : Fun K x qual st f fd) (S : FnScope N ps (defScope st))
    (len : ∀ vs H Q E, sp vs H Q E → vs.length = ps.length)
    (hbody : ∀ (cdv : Value) (A : Around) (outer : List Env) (s : Shared) (H : Hp) (vs : List V) (Q : VK) (E : XK),
      Room k (A.deeper (envOfC qual (defScope st) s.heap.objs.size f cdv)) → Qt A → sp vs H Q E →
      ∃ t, PSs (cxOf CX P w K mg base N qual (defScope st) f cdv A outer s H E) (defBody st) t ∧
        t { nx := fun _ H' => Q .non H', rt := Q } (start N vs) H) :
    Fn P w K mg base CX (k + 1) f fd ps sp := by
  obtain ⟨oc, od, kV, doc, pm, an, cdv, ct, osl, rfl, lk, hcd⟩ := F.ex
  refine ⟨len, fun A outer s H args us vs Q E hr hq e0 hb r hsp => ?_⟩
  have old : ∀ b o, base.get? b = some o → s.heap.get? b = some o := fun b o e => (e0.bs b o e).1
  have KX : K.In s.heap := e0.mod.kin.keeps old
  have hkind : ∀ y ∈ ps.zip us, (defScope st).names.lookup y.1 = some .local ∨
      ((defScope st).names.lookup y.1 = some .cell ∧
        ((cellsFrom (s.heap.objs.size + 1) (defScope st).names []).lookup y.1).isSome = true) := by
    intro ⟨n, v⟩ hy
    cases S.par n (List.of_mem_zip hy).1 with
    | inl q => exact .inl q
    | inr q => exact .inr ⟨q, PySem.W.cellsFrom_some _ _ _ (.inl q)⟩
  refine codeAny_call_function hr.depth (KX _ _ lk) rfl S.co S.gen rfl (PySem.W.codeRec_of KX hcd) (hb _ _ _ _ ?_)
  refine wpAny_newFunctionEnv_cells S.kind hkind fun env he s1 x => ?_
  subst he
  refine ⟨(e0.mod.nolimit.keeps old).keeps x.toInCall.keep, codeAny_func ?_⟩
  obtain ⟨t, ht, ht2⟩ := hbody cdv A outer s H vs Q E (hr.deeper _) hq hsp
  have I := inv_start (CX := CX) (E := E) (qual := qual) (f := f) (cd := cdv) S hr.hd e0 (len _ _ _ _ hsp) r x
  refine wpAny_mono (ht.run [] s1 (start N vs) H _ I ht2) (fun fl s' hs => ?_) fun e s' hs => hs
  cases fl with
  | ret u =>
    obtain ⟨v, σ', H', J, rv, q⟩ := hs
    exact (⟨v, H', J.os, J.bare, J.base, J.hok, rv, q⟩ : CE outer P w H s Q u s')
  | next =>
    obtain ⟨σ', H', J, q⟩ := hs
    exact (⟨V.non, H', J.os, J.bare, J.base, J.hok, rfl, q⟩ : CE outer P w H s Q Value.none s')
  | brk => exact False.elim hs.choose_spec.choose_spec.2
  | cont => exact False.elim hs.choose_spec.choose_spec.2
/-- a def by its body; nothing is raised -/
theorem fun_q {x qual : Str} {st : Stmt} {N : List Str} (F : Fun K x qual st f fd) (S : FnScope N ps (defScope st))
    (len : ∀ vs H Q E, sp vs H Q E → vs.length = ps.length)
    (hbody : ∀ (cdv : Value) (A : Around) (outer : List Env) (s : Shared) (H : Hp) (vs : List V) (Q : VK) (E : XK),
      Room k (A.deeper (envOfC qual (defScope st) s.heap.objs.size f cdv)) → Qt A → sp vs H Q E →
      ∃ t, PSs (cxOf CX0 P w K mg base N qual (defScope st) f cdv A outer s H E).nox (defBody st) t ∧
        t { nx := fun _ H' => Q .non H', rt := Q } (start N vs) H) :
    Fn P w K mg base CX0 (k + 1) f fd ps sp :=
  fun_qX F S len fun cdv A outer s H vs Q E hr hq hsp =>
    let ⟨t, h, q⟩ := hbody cdv A outer s H vs Q E hr hq hsp
    ⟨t, h.nox, q⟩
end

/-! ### calls -/
section
variable {X : Cx} {CX : CXT} {k : Nat} {f : Addr} {fd : FuncData} {ps : List Str} {sp : Sp} {E : XK}
theorem run_q {pins : List (Addr × Obj)} {σ : L2.St} {H : Hp} {s : Shared} {Q : VK} {us : List Value} {vs : List V}
    (F : Fn X.prog X.w X.K X.mg X.base CX k f fd ps sp) (hr : Room k X.A) (hq : Qt X.A) (hb : Binds X.K fd ps [])
    (hx : Passes CX X E) (I : Inv X pins σ H s) (r : Vals vs us) (h : sp vs H Q E) :
    wpAny (model X.prog X.w) X.A (call (.ref f) us) (EP X pins σ Q) X.xe s := by
  have hl : (us ++ []).length = ps.length := by
    rw [List.append_nil, ← r.length]
    exact F.len _ _ _ _ h
  have bt := hb s us I.kIn hl
  rw [List.append_nil] at bt
  refine wpAny_call (codeAny_mono (F.run X.A X.stack s H ⟨us, []⟩ us vs Q E hr hq I.env0 bt r h) fun r s' hs => ?_)
  match r, hs with
  | .error e, hs => exact hx pins σ H s e s' I hs
  | .ok (.ret u), hs => exact I.after hs
end

/-- a def of the module, told by its name -/
structure Gd (P : Program) (w : World) (K : PySem.W.Frag) (mg : Str → Option Value) (base : Heap)
    (CX : CXT) (k : Nat) (x : Str) (ps : List Str) (sp : Sp) : Prop where
  ex : ∃ (f : Addr) (fd : FuncData), mg x = some (.ref f) ∧ PySem.W.keepIn K (.ref f) = true ∧ Binds K fd ps [] ∧
    Fn P w K mg base CX k f fd ps sp
theorem Gd.mono {P : Program} {w : World} {K : PySem.W.Frag} {mg : Str → Option Value} {base : Heap} {CX : CXT} {j k : Nat}
    {x : Str} {ps : List Str} {sp : Sp} (G : Gd P w K mg base CX j x ps sp) (h : j ≤ k) : Gd P w K mg base CX k x ps sp :=
  let ⟨f, fd, a, b, c, d⟩ := G.ex
  ⟨f, fd, a, b, c, d.mono h⟩

section
variable {X : Cx} {CX : CXT} {k : Nat} {ps : List Str} {sp : Sp} {E : XK} {x : Str} {p pos : Pos} {e : Expr} {es : List Expr} {t : TA}
theorem pe_gX (G : Gd X.prog X.w X.K X.mg X.base CX k x ps sp) (hr : Room k X.A) (hq : Qt X.A) (hx : Passes CX X E)
    (ha : PA X (e :: es) t) (hg : Gl X x := by rfl) (hdb : (x == ("__debug__" : Str)) = false := by decide)
    (he : starEach (e :: es) X.env = (false, eval e X.env) :: starEach es X.env := by rfl)
    (hpl : (backTo pos (starEach es X.env)).any (·.1) = false := by rfl) :
    PE X (.Call (.Name x p) (e :: es) [] pos) (tCall sp [] E t) := by
  obtain ⟨f, fd, hm, hk, hb, F⟩ := G.ex
  constructor
  intro pins s σ H Q I h
  refine wpAny_Call_Name_kw (ld_glob I hg hm ?_ hdb)
  refine PySem.W.callWith_K (h₀ := X.base) I.ok.mod.kin hk ?_ he hpl
  refine thn (ha.run pos pins s σ H _ I h) fun us s1 ⟨vs, H1, I1, r, q⟩ => ⟨I1.kIn, ?_⟩
  have q2 : sp (vs ++ []) H1 Q E := q
  rw [List.append_nil] at q2
  exact run_q F hr hq hb hx I1 r q2
/-- f(e, ..), a def that raises nothing -/
theorem pe_g (G : Gd X.prog X.w X.K X.mg X.base CX0 k x ps sp) (hr : Room k X.A) (hq : Qt X.A)
    (ha : PA X (e :: es) t) (hg : Gl X x := by rfl) (hdb : (x == ("__debug__" : Str)) = false := by decide)
    (he : starEach (e :: es) X.env = (false, eval e X.env) :: starEach es X.env := by rfl)
    (hpl : (backTo pos (starEach es X.env)).any (·.1) = false := by rfl) :
    PE X (.Call (.Name x p) (e :: es) [] pos) (tCall sp [] E0 t) := pe_gX G hr hq pass0 ha hg hdb he hpl
end

/-! ### the end -/
/-- what law(script) promises -/
def spLaw (K : PySem.W.Frag) : Sp := fun vs H Q _ => ∃ (a : Addr) (ns : List Int), vs = [.ref a] ∧ SqL K H a (ns.map V.int) ∧ ns.length ≤ 63 ∧ ∀ H', Q (.bl true) H'

theorem law_end {P : Program} {w : World} {K : PySem.W.Frag} {mg mb : Str → Option Value} {k : Nat} {fa a : Addr} {fd : FuncData} {x : Str} {s₁ : Shared} {vs : List Value} {ns : List Int}
    (KX : K.In s₁.heap) (hns : s₁.heap.Ns mainGlobals mg) (hb : s₁.heap.Ns builtinsNs mb)
    (hbb : ∀ x : Str, x ≠ "__name__" → mb x = bootBuiltins x) (hlim : s₁.heap.NoLimit) (hg : s₁.gens = #[])
    (ha : s₁.heap.get? a = some { cls := .type "list", data := .seq vs.toArray }) (hi : IntsAre vs ns) (hl : ns.length ≤ 63)
    (hr : Room k callerA)
    (F : ∀ base : Heap, K.In base → base.Ns mainGlobals mg → Fn P w K mg base CX0 k fa fd [x] (spLaw K))
    (hbind : ∀ (s : Shared) (u : Value), BindsTo s fd ⟨[u], []⟩ [(x, u)]) :
    codeAny (model P w) callerA (.call (.ref fa) ⟨[.ref a], []⟩)
      (fun r s' => r = .ok (.ret (.bool true)) ∧ OldK s₁.heap s'.heap ∧ s'.os = s₁.os ∧ AllBare s'.gens) s₁ := by
  have rv := vals_ints hi
  have hz : ns.length ≤ sizeLine := Nat.le_trans hl (by decide)
  -- what holds from a heap in which nothing but the script is tracked
  have core : ∀ H : Hp, (∀ b, H b ≠ none → b = a ∧ K.lookup a = none) → (∀ b u, H b = some u → ∃ ob xs, u = .frz ob (.lst xs)) →
      SqL K H a (ns.map V.int) → HOk P w H s₁.heap →
      codeAny (model P w) callerA (.call (.ref fa) ⟨[.ref a], []⟩)
        (fun r s' => r = .ok (.ret (.bool true)) ∧ OldK s₁.heap s'.heap ∧ s'.os = s₁.os ∧ AllBare s'.gens) s₁ := by
    intro H hA hO hS hok
    have none_of : ∀ {b : Addr} {o : Obj} {es : Array DictEntry} {ep : Nat}, s₁.heap.get? b = some o → o.data = .dict es ep → H b = none := by
      intro b o es ep e d
      refine Classical.byContradiction fun q => ?_
      obtain ⟨rfl, _⟩ := hA b q
      cases Option.some.inj (ha.symm.trans e)
      cases d
    have nsK : ∀ {b : Addr} {m : Str → Option Value}, s₁.heap.Ns b m → (hidT s₁.heap H).Ns b m :=
      fun ⟨o, es, ep, e, d, r⟩ => ⟨o, es, ep, hidT_get e (none_of e d), d, r⟩
    have hKb : K.In (hidT s₁.heap H) := fun b o e => hidT_get (KX b o e) (Classical.byContradiction fun q => by
      obtain ⟨rfl, z⟩ := hA b q
      rw [z] at e
      cases e)
    have hM : Mod K mg (hidT s₁.heap H) :=
      ⟨hKb, nsK hns, ⟨mb, nsK hb, hbb⟩, let ⟨mc, h1, h2⟩ := hlim; ⟨mc, nsK h1, h2⟩⟩
    have e0 : Env0 P w K mg (hidT s₁.heap H) callerA [] s₁ H :=
      ⟨rfl, hM, fun b o e => of_hidT e, Nat.le_of_eq (hidT_size _ _), trivial, fun b hb => (nomatch (show b ∈ ([] : List Addr) from hb)), hok, .of_eq hg⟩
    have go := (F _ hKb (nsK hns)).run callerA [] s₁ H ⟨[.ref a], []⟩ [.ref a] [.ref a] (fun v _ => v = .bl true) (fun _ _ _ => False) hr rfl e0
      (hbind s₁ (.ref a)) (.cons rfl .nil) ⟨a, ns, rfl, hS, hl, fun _ => rfl⟩
    refine codeAny_mono go fun r s' h => ?_
    match r, h with
    | .ok (.ret u), h =>
      obtain ⟨v, H', os, bare, un, hok', r', q⟩ := h
      obtain rfl : v = .bl true := q
      obtain rfl : u = Value.bool true := r'
      refine ⟨rfl, OldK.of_keep fun b o e => ?_, os, bare⟩
      cases q : H b with
      | none => exact un.keep b o e q (fun z => nomatch (show b ∈ ([] : List Addr) from z)) (fun z => nomatch z)
      | some u =>
        obtain ⟨ob, xs, rfl⟩ := hO b u q
        obtain ⟨e1, _⟩ := hok b _ q
        obtain ⟨e2, _⟩ := hok' b _ (un.frzs b ob _ q)
        cases Option.some.inj (e.symm.trans e1)
        exact e2
  cases hk : K.lookup a with
  | some o =>
    -- the script is one of the module's own objects
    have e := (KX a o hk).symm.trans ha
    cases Option.some.inj e
    refine core (fun _ => none) (fun b z => absurd rfl z) (fun b u z => nomatch z) (.inr ⟨_, vs.toArray, _, hk, rfl, rfl, rfl, ?_, by simpa using rv⟩) (fun b u z => nomatch z)
    rw [List.size_toArray, hi.length]
    exact hz
  | none =>
    let ob : Obj := { cls := .type "list", data := .seq vs.toArray }
    have at_ : ∀ b u, (if b = a then some (HO.frz ob (.lst (ns.map V.int))) else none) = some u → b = a ∧ u = HO.frz ob (.lst (ns.map V.int)) := by
      intro b u z
      by_cases h : b = a
      · rw [if_pos h] at z
        exact ⟨h, (Option.some.inj z).symm⟩
      · rw [if_neg h] at z
        cases z
    refine core (fun b => if b = a then some (HO.frz ob (.lst (ns.map V.int))) else none) (fun b z => ?_) (fun b u z => ⟨_, _, (at_ b u z).2⟩) (.inl (.inr ⟨ob, if_pos rfl⟩)) (fun b u z => ?_)
    · by_cases h : b = a
      · exact ⟨h, hk⟩
      · exact absurd (if_neg h) z
    · obtain ⟨rfl, rfl⟩ := at_ b u z
      exact ⟨ha, (by rw [List.length_map]; exact hz), vs, _, rv, ha⟩

/-- the goal behind k_head, from the promise of law -/
theorem walk_end {l : PySem.W.OpenLaw} {k : Nat} {q : Program} {loose : List Str} {XP : (Str → Option Value) → Heap → Prop} {YP : World → Heap → Prop} {d : DefRec} {K : Params → PySem.W.Frag} {x : Str}
    (hn : l.most = some 63) (hdf : d.params.defaults = []) (hr : Room k callerA) (hY : ∀ (w : World) (h : Heap), YP w h → (K w.params).In h)
    (F : ∀ (w : World) (mg : Str → Option Value) (fa : Addr) (h : Heap), (K w.params).In h → h.Ns mainGlobals mg → mg d.name = some (.ref fa) →
      ∃ fd : FuncData, (∀ (s : Shared) (u : Value), BindsTo s fd ⟨[u], []⟩ [(x, u)]) ∧
        ∀ base : Heap, (K w.params).In base → base.Ns mainGlobals mg → Fn l.prog w (K w.params) mg base CX0 k fa fd [x] (spLaw (K w.params))) :
    PySem.W.WalkO q loose XP YP l.row.toRowW d [] (fun f vs => PySem.call f vs) := by
  refine Att.attach_call hn hdf ?_
  intro w s₀ s₁ mg mb fa o pm cd doc a vs ns G Y ho hd hcd hmg hobj hints hlen hg
  obtain ⟨fd, hb, hF⟩ := F w mg fa _ (hY w _ Y) G.T.g hmg
  exact law_end (hY w _ Y) G.T.g G.T.b G.T.builtins G.T.nolimit hg hobj hints hlen hr hF hb
end Q0

/-! Sets of texts: set(list), len, sorted. -/
namespace Q0
open PySem PySem.Spec PyProof.Rows L2

/-- one more text, if it is not there -/
def ins (k : Str) (L : List Str) : List Str := if k ∈ L then L else k :: L
theorem ins_nodup {k : Str} {L : List Str} (d : L.Nodup) : (ins k L).Nodup := by
  unfold ins; split
  · exact d
  · exact List.nodup_cons.mpr ⟨by assumption, d⟩
theorem ins_len {k : Str} {L : List Str} : (ins k L).length ≤ L.length + 1 := by unfold ins; split <;> simp
theorem mem_ins' {k x : Str} {L : List Str} : x ∈ ins k L ↔ x = k ∨ x ∈ L := by
  unfold ins; split
  · rename_i c
    exact ⟨.inr, fun z => z.elim (fun e => e ▸ c) id⟩
  · exact List.mem_cons

/-- an entry of a set of texts, and its text -/
def TxE (w : World) (e : Int × Value) : Prop := ∃ x tk, e.2 = Value.str x tk ∧ e.1 = hashStr w x
def txOf (e : Int × Value) : Str := match e.2 with | .str x _ => x | _ => Str.empty
/-- at a stands the set of the texts L; it can be walked -/
structure TxAt (w : World) (a : Addr) (o : Obj) (es : Array (Int × Value)) (ep : Nat) (t : SetTable) (L : List Str) : Prop where
  ex : o.ExactSet
  dt : o.data = .set es ep t
  en : ∀ e ∈ es.toList, TxE w e
  nd : L.Nodup
  pm : (es.toList.map txOf).Perm L
  lt : es.size < scanBound
  ft : t.fits es.size = true
  rs : Ris t.place.toList
  ld : w.params.followText "set-order" = true ∨ t.led = true
def TxSet (w : World) (h : Heap) (a : Addr) (L : List Str) : Prop := ∃ o es ep t, h.get? a = some o ∧ TxAt w a o es ep t L

section
variable {P : Program} {w : World} {h h' : Heap} {a : Addr} {L : List Str}
theorem TxSet.at (R : TxSet w h a L) (k : ∀ o, h.get? a = some o → h'.get? a = some o) : TxSet w h' a L :=
  let ⟨o, es, ep, t, e, r⟩ := R
  ⟨o, es, ep, t, k o e, r⟩
theorem TxSet.nodup (R : TxSet w h a L) : L.Nodup := let ⟨_, _, _, _, _, r⟩ := R; r.nd
theorem tx_is {e : Int × Value} (g : TxE w e) (k : Str) : (PySem.strKind P w).is k e.2 = true ↔ txOf e = k := by
  obtain ⟨x, tk, e1, _⟩ := g
  have e2 : txOf e = x := by unfold txOf; rw [e1]
  rw [e1, e2]
  constructor
  · intro q
    exact (PySem.strKind P w).inj _ _ _ (strKind_is P w x tk) q
  · rintro rfl
    exact strKind_is P w _ tk
theorem tx_elems {l : List (Int × Value)} (g : ∀ e ∈ l, TxE w e) : ElemsOf (PySem.strKind P w) l := fun e he => by
  obtain ⟨x, tk, e1, e2⟩ := g e he
  exact ⟨⟨x, by rw [e1]; exact strKind_is P w x tk, e2⟩, by rw [e1] <;> rfl⟩
theorem tx_mem {l : List (Int × Value)} (g : ∀ e ∈ l, TxE w e) (k : Str) : (∃ e ∈ l, (PySem.strKind P w).is k e.2 = true) ↔ k ∈ l.map txOf := by
  rw [List.mem_map]
  exact ⟨fun ⟨e, m, q⟩ => ⟨e, m, (tx_is (g e m) k).1 q⟩, fun ⟨e, m, q⟩ => ⟨e, m, (tx_is (g e m) k).2 q⟩⟩
end

section
variable {P : Program} {w : World} {A : Around} {E : Value → Shared → Prop} {s : Shared} {a : Addr} {L : List Str}
theorem put_at {h : Heap} {o : Obj} {es es' : Array (Int × Value)} {ep : Nat} {t t' : SetTable} (ho : h.get? a = some o) (hd : o.data = .set es ep t) :
    (h.update a (Obj.putSet es' t')).get? a = some { o with data := .set es' (ep + 1) t' } := by
  rw [Heap.get?_update_self (Obj.putSet es' t') ho (by rw [putSet_of es' t' hd]; rfl), putSet_of es' t' hd]
/-- the entries and their table are stored; where it got full it is laid anew -/
theorem tx_tail {g : Bool → Sem Unit} (hg : ∀ (b : Bool) (z : Shared) (Q' : Unit → Shared → Prop), Q' () z → wpAny (model P w) A (g b) Q' E z)
    {o : Obj} {es : Array (Int × Value)} {ep : Nat} {t : SetTable} (ho : s.heap.get? a = some o) (hx : o.ExactSet) (hd : o.data = .set es ep t)
    {fs : Array (Int × Value)} {u : SetTable} (en : ∀ e ∈ fs.toList, TxE w e) (nd : L.Nodup) (pm : (fs.toList.map txOf).Perm L)
    (lt : fs.size < scanBound) (ft : u.fits fs.size = true) (rs : Ris u.place.toList) (ld : w.params.followText "set-order" = true ∨ u.led = true) {dm : Bool} {R : Option Bool → Shared → Prop}
    (k : ∀ h', Heap.SameBut a s.heap h' → TxSet w h' a L → R (some true) { s with heap := h' }) :
    wpAny (model P w) A (do
        storeSet a fs u
        if (!dm && u.tooFull) = true then do
            g (relayAll u fs (SetTable.grown fs.size)).2.2
            storeSet a (relayAll u fs (SetTable.grown fs.size)).1 (relayAll u fs (SetTable.grown fs.size)).2.1
            pure (some true)
          else pure (some true)) R E s := by
  refine wpAny_bind (wpAny_storeSet_of ho hd ?_ (fits_of_scanBound lt))
  have e1 := put_at (es' := fs) (t' := u) ho hd
  have b1 := Heap.SameBut.update s.heap a (Obj.putSet fs u)
  by_cases c : (!dm && u.tooFull) = true
  · rw [if_pos c]
    have p3 := relayAll_perm u fs (SetTable.grown fs.size)
    have f3 := relayAll_fits u fs (SetTable.grown fs.size)
    have r3 := relayAll_ris u fs (SetTable.grown fs.size)
    have l3 := relayAll_led u fs (SetTable.grown fs.size)
    revert p3 f3 r3 l3
    generalize relayAll u fs (SetTable.grown fs.size) = Z
    obtain ⟨gs, v, gave⟩ := Z
    intro p3 f3 r3 l3
    have z3 : gs.size = fs.size := by have := p3.length_eq; simpa using this
    refine wpAny_bind (hg _ _ _ (wpAny_bind (wpAny_storeSet_of e1 rfl ?_ (fits_of_scanBound (by show gs.size < _; omega)))))
    refine wpAny_pure (k _ (b1.trans (Heap.SameBut.update _ a _)) ⟨_, gs, _, v, put_at e1 rfl, hx, rfl, fun e m => en e (p3.mem_iff.mp m), nd, (p3.map txOf).trans pm, by omega, f3, r3, ?_⟩)
    exact ld.imp id fun q => l3.trans q
  · rw [if_neg c]
    exact wpAny_pure (k _ b1 ⟨_, fs, _, u, e1, hx, rfl, en, nd, pm, lt, ft, rs, ld⟩)
/-- a text is added by its hash -/
theorem tx_add {k : Str} {tk : Tok} {Q : Bool → Shared → Prop} (T : TxSet w s.heap a L) (room : L.length + 1 < scanBound)
    (q : ∀ (b : Bool) h', Heap.SameBut a s.heap h' → TxSet w h' a (ins k L) → Q b { s with heap := h' }) :
    wpAny (model P w) A (setAddHashed a (.str k tk) ((PySem.strKind P w).hash k)) Q E s := by
  obtain ⟨o, es, ep, t, ho, ⟨hx, hd, en, nd, pm, lt, ft, rs, ld⟩⟩ := T
  have kk := strKind_is P w k tk
  have sc : (Value.str k tk).scannable = true := rfl
  have el : ElemsOf (PySem.strKind P w) es.toList := tx_elems en
  have sz : es.size = L.length := by have := pm.length_eq; simpa using this
  unfold setAddHashed setAddHashedIn
  refine wpAny_holding (wpAny_bind (wpAny_setState_of ho hd ft ?_))
  dsimp only
  rw [byScan_of sc lt el]
  simp only [↓reduceIte]
  unfold setAddByScan
  refine wpAny_bind (wpAny_bind (wpAny_rule (wpAny_bind (wpAny_setScan_of kk ho hd ft el ?_))))
  cases f : List.findIdx? (fun e => (PySem.strKind P w).is k e.2) es.toList with
  | some j =>
    obtain ⟨hj, pj, _⟩ := List.findIdx?_eq_some_iff_getElem.mp f
    have m : k ∈ L := pm.mem_iff.mp ((tx_mem (P := P) en k).1 ⟨es.toList[j], List.getElem_mem hj, pj⟩)
    refine wpAny_pure (wpAny_pure (q _ s.heap (Heap.SameBut.refl a s.heap) ⟨o, es, ep, t, ho, hx, hd, en, ?_, ?_, lt, ft, rs, ld⟩))
    · unfold ins; rw [if_pos m]; exact nd
    · unfold ins; rw [if_pos m]; exact pm
  | none =>
    have m : k ∉ L := fun z => by
      obtain ⟨e, me, c⟩ := (tx_mem (P := P) en k).2 (pm.mem_iff.mpr z)
      exact absurd (c.symm.trans (List.findIdx?_eq_none_iff.mp f e me)) (fun y => nomatch y)
    have gw : ∀ (b : Bool) (z : Shared) (Q' : Unit → Shared → Prop), Q' () z → wpAny (model P w) A (match b with | true => rule "set.scan.the-table-gave-way" | false => pure ()) Q' E z := by
      intro b z Q' y
      cases b
      · exact wpAny_pure y
      · exact wpAny_rule y
    have p1 := layNew_perm t es ((PySem.strKind P w).hash k) (.str k tk)
    have f1 := layNew_fits t es ((PySem.strKind P w).hash k) (.str k tk)
    have r1 := layNew_ris t es ((PySem.strKind P w).hash k) (.str k tk) rs
    have l1 := layNew_led t es ((PySem.strKind P w).hash k) (.str k tk)
    revert p1 f1 r1 l1
    dsimp only
    generalize layNew t es ((PySem.strKind P w).hash k) (.str k tk) = Z
    obtain ⟨fs, u, dm, gave⟩ := Z
    intro p1 f1 r1 l1
    dsimp only at p1 f1 r1 l1 ⊢
    have pc : fs.toList.Perm (((PySem.strKind P w).hash k, Value.str k tk) :: es.toList) := (by rw [Array.toList_push] at p1; exact p1.trans (List.perm_append_singleton _ _))
    have en1 : ∀ e ∈ fs.toList, TxE w e := fun e me => by
      rcases List.mem_cons.mp (pc.mem_iff.mp me) with y | y
      · subst y; exact ⟨k, tk, rfl, rfl⟩
      · exact en e y
    have ei : ins k L = k :: L := by unfold ins; rw [if_neg m]
    have pm1 : (fs.toList.map txOf).Perm (ins k L) := by
      rw [ei]
      exact (pc.map txOf).trans (pm.cons k)
    have sz1 : fs.size = es.size + 1 := by have := pc.length_eq; simpa using this
    have ld1 : w.params.followText "set-order" = true ∨ u.led = true := ld.imp id fun y => l1.trans y
    refine wpAny_bind (gw _ _ _ ?_)
    split
    · refine wpAny_bind ?_
      rw [hashByValue_scannable 8 sc]
      refine wpAny_pure (tx_tail (L := ins k L) gw ho hx hd en1 (ins_nodup nd) pm1 (by omega) ?_ ?_ ?_ fun h' sb r => ?_)
      · first | exact f1 | (split <;> first | exact f1 | exact SetTable.fits_plain_off f1)
      · first | exact r1 | (split <;> exact r1)
      · first | exact ld1 | (split <;> exact ld1)
      · dsimp only; exact wpAny_pure (q _ h' sb r)
    · refine wpAny_bind (wpAny_pure ?_)
      simp only [↓reduceIte]
      refine tx_tail (L := ins k L) gw ho hx hd en1 (ins_nodup nd) pm1 (by omega) f1 r1 ld1 fun h' sb r => ?_
      dsimp only; exact wpAny_pure (q _ h' sb r)
end
end Q0

/-! set(list of texts), and what is done with it. -/
namespace Q0
open PySem PySem.Spec PyProof.Rows L2

/-- the texts, each once -/
def once : List Str → List Str → List Str
  | L, [] => L
  | L, x :: xs => once (ins x L) xs
theorem once_snoc : ∀ (xs L : List Str) (y : Str), once L (xs ++ [y]) = ins y (once L xs)
  | [], _, _ => rfl
  | x :: xs, L, y => once_snoc xs (ins x L) y
theorem once_len : ∀ (xs L : List Str), (once L xs).length ≤ L.length + xs.length
  | [], _ => Nat.le_refl _
  | x :: xs, L => by
    have h1 := once_len xs (ins x L)
    have h2 := ins_len (k := x) (L := L)
    simp only [once, List.length_cons]
    omega
theorem once_eq : ∀ (xs L : List Str), (once L xs).length = L.length + xs.length ↔ xs.Nodup ∧ ∀ x ∈ xs, x ∉ L
  | [], L => by simp [once]
  | x :: xs, L => by
    have h1 := once_len xs (ins x L)
    have ih := once_eq xs (ins x L)
    simp only [once, List.length_cons, List.nodup_cons]
    by_cases c : x ∈ L
    · have e : ins x L = L := if_pos c
      rw [e] at h1 ⊢
      constructor
      · intro q; omega
      · rintro ⟨_, q⟩
        exact absurd c (q x (List.mem_cons_self ..))
    · have e : ins x L = x :: L := if_neg c
      rw [e, List.length_cons] at ih
      rw [e]
      rw [show L.length + (xs.length + 1) = L.length + 1 + xs.length by omega, ih]
      constructor
      · rintro ⟨d, q⟩
        refine ⟨⟨fun z => q x z (List.mem_cons_self ..), d⟩, fun y hy => ?_⟩
        rcases List.mem_cons.mp hy with z | z
        · exact z ▸ c
        · exact fun m => q y z (List.mem_cons_of_mem _ m)
      · rintro ⟨⟨m, d⟩, q⟩
        refine ⟨d, fun y hy z => ?_⟩
        rcases List.mem_cons.mp z with z | z
        · exact m (z ▸ hy)
        · exact q y (List.mem_cons_of_mem _ hy) z
/-- as many as there are: no text twice -/
theorem once_nodup (xs : List Str) : (once [] xs).length = xs.length ↔ xs.Nodup := by
  have h := once_eq xs []
  simpa using h

/-- a new set, as it stands in the heap -/
abbrev nset (w : World) : Obj := { cls := .type "set", dict := none, data := .set #[] 0 (.fresh 0 0 (!w.params.followText "set-order")) }
theorem nset_at {w : World} {h : Heap} {a : Addr} (e : h.get? a = some (nset w)) : TxSet w h a [] :=
  ⟨_, #[], 0, _, e, ⟨rfl, rfl, rfl⟩, rfl, fun _ m => (by simp at m), List.nodup_nil, List.Perm.refl _, by decide, rfl, List.Pairwise.nil, by
    cases q : w.params.followText "set-order"
    · exact .inr (by simp [SetTable.fresh])
    · exact .inl rfl⟩
section
variable {P : Program} {w : World} {A : Around} {E : Value → Shared → Prop} {s : Shared}
theorem strs_get : ∀ {us : List Value} {xs : List Str}, StrsAre us xs → ∀ (i : Nat) (v : Value), us[i]? = some v → ∃ x t, xs[i]? = some x ∧ v = .str x t
  | _, _, .nil, i, v, h => by simp at h
  | _, _, .cons x t hr, 0, v, h => by
    simp only [List.getElem?_cons_zero, Option.some.injEq] at h
    exact ⟨x, t, rfl, h.symm⟩
  | _, _, .cons x t hr, i + 1, v, h => strs_get hr i v (by simpa using h)
/-- one by one -/
theorem tx_loop {I : Addr} {fp wr : List Addr} {G : Array GenState → Array GenState → Prop} {n : Nat} {Pv : Nat → Value → Prop} {St : Nat → Shared → Prop} {R : Result → Shared → Prop}
    (W : WalksS P w A.in1 I fp wr G n Pv St) (S : Addr) (nS : S ∉ fp) (xs : List Str) (en : n = xs.length) (room : xs.length + 1 < scanBound) (hv : ∀ i v, Pv i v → ∃ x t, xs[i]? = some x ∧ v = .str x t) :
    ∀ (k i : Nat) (s : Shared), n - i = k → i ≤ n → St i s → TxSet w s.heap S (once [] (xs.take i)) →
      (∀ s', Moved (S :: wr) G s s' → TxSet w s'.heap S (once [] xs) → R (.ok (.ret .none)) s') →
      codeAny (model P w) A (.builtin "set.update.loop" ⟨[.ref S, .ref I], []⟩) R s := by
  have nW : S ∉ wr := fun m => nS (W.sub _ m)
  have sb : ∀ b ∈ wr, b ∈ S :: wr := fun b m => List.mem_cons_of_mem _ m
  intro k
  induction k with
  | zero =>
    intro i s ek hi st T hR
    obtain rfl : i = n := by omega
    refine codeAny_builtin F.entry_set_update_loop ?_
    rw [Around.under_plainId F.plain_set_update_loop _]
    show wpAny _ A.in1 (pyNext (.ref I) >>= _) _ _ s
    refine wpAny_bind (W.done s _ _ st fun z mv => ?_)
    rw [List.take_of_length_le (by omega)] at T
    exact wpAny_pure (hR z (mv.mono sb) (T.at fun o e => mv.heap S o nW e))
  | succ k ih =>
    intro i s ek hi st T hR
    have lt : i < n := by omega
    refine codeAny_builtin F.entry_set_update_loop ?_
    rw [Around.under_plainId F.plain_set_update_loop _]
    show wpAny _ A.in1 (pyNext (.ref I) >>= _) _ _ s
    refine wpAny_bind (W.item i s _ _ lt st fun v z pv st' mv => ?_)
    obtain ⟨x, t, hx, rfl⟩ := hv i v pv
    have T' : TxSet w z.heap S (once [] (xs.take i)) := T.at fun o e => mv.heap S o nW e
    show wpAny _ A.in1 (holding [Value.str x t] (setAdd S (.str x t)) >>= _) _ _ z
    refine wpAny_bind (wpAny_holding ?_)
    unfold setAdd
    refine wpAny_holding (wpAny_bind ((PySem.strKind P w).pyHash (k := x) (strKind_is _ _ _ _) ?_))
    have few : (once [] (xs.take i)).length + 1 < scanBound := by
      have q1 := once_len (xs.take i) []
      have q2 := List.length_take_le i xs
      simp only [List.length_nil] at q1
      omega
    refine tx_add (s := { z with toks := z.toks + 1 }) T' few fun _ h' same T2 => ?_
    have T3 : TxSet w h' S (once [] (xs.take (i + 1))) := by
      rw [List.take_add_one, hx]
      show TxSet w h' S (once [] (xs.take i ++ [x]))
      rw [once_snoc]
      exact T2
    refine wpAny_pure ⟨plainId_quiet F.plain_set_update_loop _, ih (i + 1) _ (by omega) lt (W.frame _ z _ _ st' (Nat.le_succ _) fun b m o e => ?_) T3 fun y mv2 T4 => ?_⟩
    · exact (same.2 b fun q : b = S => nS (q ▸ m)).trans e
    · refine hR y (Moved.trans W.gtrans ((mv.mono sb).then_heap (Nat.le_succ _) fun b o m e => ?_) mv2) T4
      exact (same.2 b fun q : b = S => m (by rw [q]; exact List.mem_cons_self)).trans e

set_option maxHeartbeats 6400000 in
/-- set(l), l a list of texts -/
theorem tx_call {l : Addr} {its : Array Value} (xs : List Str) {Q : Value → Shared → Prop} (hh : A.handled = none) (hl : s.heap.IsList l its) (hi : StrsAre its.toList xs) (room : xs.length + 1 < scanBound)
    (q : ∀ (h' : Heap) (tk : Nat), TxSet w h' s.heap.objs.size (once [] xs) → (∀ b o, s.heap.get? b = some o → h'.get? b = some o) → Q (.ref s.heap.objs.size) { s with heap := h', toks := tk }) :
    wpAny (model P w) A (call (.type "set") [.ref l]) Q E s := by
  have sz : xs.length = its.size := by rw [← StrsAre.len_eq hi, Array.length_toList]
  obtain ⟨c, tl, hmro⟩ := F.called_set.mro
  have f1 := F.called_set.made
  have f2 := F.called_set.sub
  refine wpAny_call (codeAny_of_tree ?_)
  show wpAny _ _ (callAny (.type "set") _) _ _ _
  refine wpAny_pure ⟨Code.quiet_builtin _ (by decide +kernel), codeAny_builtin F.entry_type_call ?_⟩
  rw [Around.under_plain (weight_type_call_type "set" [.ref l] []) rfl]
  have f3 := F.called_set.notType
  have f4 := F.called_set.canCreate
  have f5 := F.typeCall_set_1 (.ref l)
  repeat (any_goals (first | assumption | wp_step))
  refine codeAny_mono (code_set_led1 (.ref l) (E := E) (Q₁ := fun u z => u = .ref s.heap.objs.size ∧ z = { s with heap := s.heap.push (nset w) }) ⟨rfl, rfl⟩) fun r z hr => ?_
  match r, hr with
  | .error e, hr => exact hr
  | .ok (.ret u), hr =>
    obtain ⟨rfl, rfl⟩ := hr
    have eS : (s.heap.push (nset w)).get? s.heap.objs.size = some (nset w) := Heap.get?_push_size _ rfl
    have tS : Shared.TypeIs { s with heap := s.heap.push (nset w) } (.ref s.heap.objs.size) "set" := ⟨_, eS, rfl⟩
    have f6 := F.called_set.init.lookup
    have f7 := F.called_set.init.bind (.ref s.heap.objs.size)
    repeat (any_goals (first | assumption | wp_step))
    refine codeAny_mono (codeAny_call_builtin (R := wants (fun r y => r = .none ∧ ∃ h' tk, y = { s with heap := h', toks := tk } ∧ TxSet w h' s.heap.objs.size (once [] xs) ∧
        (∀ b o, s.heap.get? b = some o → h'.get? b = some o)) E) F.called_set.init.plain F.entry_set_init (check_set_init_1 tS ?_)) fun r y hr2 => ?_
    · obtain ⟨⟨kc, kd, kt, ks⟩, e1, e2, m, e3⟩ := hl
      simp only at e2 e3
      subst e2 e3
      have e4 : (s.heap.push (nset w)).get? l = some { cls := .type "list", dict := kd, data := .seq its m, slots := ks } := Heap.get?_push_of_some _ e1
      have g1 := F.sub_list_set
      have g2 := F.sub_list_frozenset
      have g3 : (Value.type "list" == Value.type "dict") = false := by decide
      have l1 : (s.heap.push (nset w)).IsList l its := ⟨_, e4, rfl, m, rfl⟩
      unfold Builtin.«set.__init__» noKeywords Builtin.Frozenset.updateFrom
      generalize ePI : pyIter = PI
      wp_walk
      subst ePI
      refine wpAny_pyIter_list l1 (wpAny_bind (wpAny_runValue ?_))
      have lS : l < s.heap.objs.size := Heap.lt_size e1
      have h3 : A.in1.in1.in1.handled = none := by simp [hh]
      have z1 : (s.heap.push (nset w)).objs.size = s.heap.objs.size + 1 := Heap.size_push ..
      have n1 : l ≠ (s.heap.push (nset w)).objs.size := by rw [z1]; exact Nat.ne_of_lt (Nat.lt_succ_of_lt lS)
      have n2 : s.heap.objs.size ∉ [(s.heap.push (nset w)).objs.size, l] := by
        rw [z1]
        intro m
        rcases List.mem_cons.mp m with m | m
        · exact absurd m (Nat.ne_of_lt (Nat.lt_succ_self _))
        · exact absurd (List.mem_singleton.mp m) (Nat.ne_of_gt lS)
      refine tx_loop ((Walks.list h3 _ l n1 its).toS) s.heap.objs.size n2 xs sz.symm room (fun i v e => strs_get hi i v (by rw [Array.getElem?_toList]; exact e)) (its.size - 0) 0 _ (by omega) (Nat.zero_le _)
        ⟨⟨_, Heap.get?_push_size _ rfl, rfl, rfl⟩, (l1.push _)⟩ (nset_at (Heap.get?_push_of_some _ eS)) fun y mv T => ?_
      obtain ⟨h', g', d', tk', os'⟩ := y
      obtain rfl : g' = s.gens := mv.gens
      obtain rfl : d' = s.drawn := mv.drawn
      obtain rfl : os' = s.os := mv.os
      show wpAny _ _ _ _ _ _
      refine wpAny_pure ?_
      show wpAny _ _ (ret Value.none) _ _ _
      refine wpAny_pure ⟨rfl, h', tk', rfl, T, fun b o e => ?_⟩
      have b0 : b < s.heap.objs.size := Heap.lt_size e
      refine mv.heap b o (fun m => ?_) (Heap.get?_push_of_some _ (Heap.get?_push_of_some _ e))
      rcases List.mem_cons.mp m with m | m
      · exact absurd m (Nat.ne_of_lt b0)
      · have m := List.mem_singleton.mp m
        rw [z1] at m
        exact absurd m (Nat.ne_of_lt (Nat.lt_succ_of_lt b0))
    · match r, hr2 with
      | .error e, hr2 => exact hr2
      | .ok (.ret u), hr2 =>
        obtain ⟨rfl, h', tk, rfl, T, kp⟩ := hr2
        repeat (any_goals (first | assumption | wp_step))
        exact q _ _ T kp
end
end Q0

/-! set(..), len(set), sorted(set) for texts, over the abstract heap. -/
namespace Q0
open PySem PySem.Spec PyProof.Rows L2
section
variable {P : Program} {w : World} {A : Around} {E : Value → Shared → Prop} {s : Shared} {a : Addr} {L : List Str}
theorem tx_sorted {Q : Value → Shared → Prop} (T : TxSet w s.heap a L) (hh : A.handled = none) (few : L.length < 64)
    (q : ∀ (z : Shared) (p : Addr) (out : Array Value) (c : Nat) (ys : List Str), (∀ b o, s.heap.get? b = some o → z.heap.get? b = some o) → z.gens = s.gens → z.os = s.os → s.heap.objs.size ≤ p →
      z.heap.get? p = some (seqObj "list" out c) → StrsAre out.toList ys → ys.Perm L → sortedS ys = true → Q (.ref p) z) :
    wpAny (model P w) A (call (.builtin "sorted") [.ref a]) Q E s := by
  obtain ⟨o, es, ep, t, ho, ⟨hx, hd, en, nd, pm, lt, ft, rs, ld⟩⟩ := T
  refine Calls.call_function_entry kind_sorted plain_sorted entry_sorted (args_sorted1 _) ?_
  unfold Builtin.«sorted»
  refine wpAny_bind (m := checkCount "sorted" 1 1 _) (wpAny_pure ?_)
  refine wpAny_bind (collect_set (A := A.in1) hh ⟨o, ho, hx.1, hd⟩ ft lt rs ld fun z vs kp hz eg eo pv => ?_)
  have sS : StrsAre vs (vs.map strOf) := strsAre_map vs fun v m => by
    obtain ⟨e, me, rfl⟩ := List.mem_map.mp (pv.mem_iff.mp m)
    obtain ⟨x, tk, e1, _⟩ := en e me
    exact ⟨x, tk, e1⟩
  have pL : (vs.map strOf).Perm L := by
    refine (pv.map strOf).trans ?_
    rw [List.map_map]
    refine (List.Perm.of_eq (List.map_congr_left fun e me => ?_)).trans pm
    obtain ⟨x, tk, e1, _⟩ := en e me
    show strOf e.2 = txOf e
    unfold txOf strOf
    rw [e1]
  have vl : vs.length < 64 := by have := pL.length_eq; rw [List.length_map] at this; omega
  refine wpAny_bind (wpAny_newList ?_ (small64 vl))
  have eL : (z.heap.push (seqObj "list" vs.toArray 0)).get? z.heap.objs.size = some (seqObj "list" vs.toArray 0) := Heap.get?_push_size _ rfl
  refine wpAny_bind (wpAny_holding (wpAny_call_entry slot_list_sort ⟨_, eL, rfl⟩ entry_list_sort (list_sort_treeK strKind_oneLt eL sS.keysOf (fun v₁ v₂ rest e => keyKind_strs (ss := vs.map strOf) (by rw [← e]; exact sS)) vl fun st hp hs => ?_) (args_list_sort _)))
  obtain ⟨ys, h1, h2, h3⟩ := sorted_out_str sS hp hs
  obtain ⟨c, ec⟩ := sortedHeap_at (vs := vs) (out := (arrOf st).map (·.2)) eL
  refine ⟨_, rfl, wpAny_pure ⟨_, rfl, q _ z.heap.objs.size _ c ys (fun b u e => ?_) eg eo hz ec h1 (h2.trans pL) h3⟩⟩
  have k1 := kp b u e
  have lb := Heap.lt_size k1
  show (sortedHeap (z.heap.push (seqObj "list" vs.toArray 0)) z.heap.objs.size vs _).get? b = some u
  rw [sortedHeap_old (Nat.ne_of_lt lb) (by rw [size_push']; exact Nat.lt_succ_of_lt lb)]
  exact Heap.get?_push_of_some _ k1
end
/-- the set of the texts L, as a tracked thing -/
def TxO (w : World) (a : Addr) (L : List Str) : HO := .ext fun h => TxSet w h a L
section
variable {X : Cx}
theorem txO_new {w : World} {P : Program} {H : Hp} {h : Heap} {a : Addr} {L : List Str} (T : TxSet w h a L) : ObjOk P w H h a (TxO w a L) :=
  let ⟨o, _, _, _, e, _⟩ := T
  ⟨T, ⟨o, e⟩, fun _ _ p k => TxSet.at p k⟩
/-- set(xs), xs a list of texts -/
def rSetS (K : PySem.W.Frag) (w : World) : List V → Hp → VK → Prop := fun vs H Q => ∃ (l : Addr) (xs : List Str), vs = [.ref l] ∧ SqL K H l (xs.map V.str) ∧ xs.length + 1 < scanBound ∧
  ∀ p, H p = none → Q (.ref p) (upd H p (TxO w p (once [] xs)))
theorem cr_setS (hc : X.calm = true) : CallR X (.type "set") (rSetS X.K X.w) := by
  intro pins s σ H vs us Q I r h
  obtain ⟨l, xs, rfl, hs, room, q⟩ := h
  obtain ⟨its, rv, hl, _⟩ := I.list hs
  rw [Vals.ref1 r]
  refine tx_call xs (I.ok.hd hc) hl.isList (by simpa using rv.strs) room fun h' tk T kp => ?_
  exact ⟨.ref _, upd H s.heap.objs.size (TxO X.w s.heap.objs.size (once [] xs)), I.laid (t' := tk) (fun b u e => kp b u e) (Nat.le_refl _) (txO_new T), rfl, q _ (I.hok.fresh (Nat.le_refl _))⟩
/-- len of such a set -/
def rLenTx (w : World) : List V → Hp → VK → Prop := fun vs H Q => ∃ (a : Addr) (L : List Str), vs = [.ref a] ∧ H a = some (TxO w a L) ∧ Q (.int L.length) H
theorem call_lenTx : CallR X (.builtin "len") (rLenTx X.w) := by
  intro pins s σ H vs us Q I r h
  obtain ⟨a, L, rfl, ha, q⟩ := h
  rw [Vals.ref1 r]
  obtain ⟨o, es, ep, t, ho, T⟩ : TxSet X.w s.heap a L := (I.hok a _ ha).1
  have sz : es.size = L.length := by have := T.pm.length_eq; simpa using this
  have lt := T.lt
  refine call_len_set ho T.ex T.dt T.ft (by unfold scanBound at lt; omega) ⟨.int L.length, H, I.tok _, ⟨_, by rw [sz]⟩, q⟩
/-- sorted of such a set -/
def rSortTx (w : World) : List V → Hp → VK → Prop := fun vs H Q => ∃ (a : Addr) (L : List Str), vs = [.ref a] ∧ H a = some (TxO w a L) ∧ L.length < 64 ∧
  ∀ (ys : List Str) (p : Addr), ys.Perm L → sortedS ys = true → H p = none → Q (.ref p) (upd H p (.lst (ys.map V.str)))
theorem cr_sortTx (hc : X.calm = true) : CallR X (.builtin "sorted") (rSortTx X.w) := by
  intro pins s σ H vs us Q I r h
  obtain ⟨a, L, rfl, ha, few, q⟩ := h
  rw [Vals.ref1 r]
  have T : TxSet X.w s.heap a L := (I.hok a _ ha).1
  refine tx_sorted T (I.ok.hd hc) few fun z p out c ys kp eg eo lp ec sS pm srt => ?_
  obtain ⟨h', g', d', tk', os'⟩ := z
  obtain ⟨h0, g0, d0, tk0, os0⟩ := s
  cases eg
  cases eo
  have lz : (ys.map V.str).length ≤ sizeLine := by rw [List.length_map, pm.length_eq]; exact small64 few
  have fr : H p = none := I.hok.fresh lp
  exact ⟨.ref p, _, I.call (d' := d') (t' := tk') (ch := []) (Un.laid kp lp fr) (I.hok.laid kp lp (o := .lst (ys.map V.str)) ⟨lz, out.toList, c, vals_of_strs sS, ec⟩) I.bare (fun _ z => nomatch z), rfl, q ys p pm srt fr⟩
end
end Q0

/-! Data of any depth in the abstract heap: None, bools, ints, texts, lists, tuples, empty dicts; what is written in the text; repr. -/
namespace Q0
open PySem PySem.Spec PyProof.Rows L2

theorem same_new {H : Hp} {p : Addr} (h : H p = none) (o : HO) : Same H (upd H p o) := fun b u q => by rw [upd_ne (ne_of_none q h)]; exact q

mutual
/-- v is the data d -/
inductive Dd (H : Hp) : V → PyData → Prop
  | non : Dd H .non .none
  | bl (b : Bool) : Dd H (.bl b) (.bool b)
  | int (i : Int) : Dd H (.int i) (.int i)
  | str (x : Str) : Dd H (.str x) (.str x)
  | lst {a : Addr} {xs : List V} {ds : List PyData} : H a = some (.lst xs) → a ≠ sysModules → DdA H xs ds → Dd H (.ref a) (.list ds)
  | tup {a : Addr} {xs : List V} {ds : List PyData} : H a = some (.tup xs) → DdA H xs ds → Dd H (.ref a) (.tuple ds)
  | dic {a : Addr} : H a = some (.dK []) → Dd H (.ref a) (.dict [])
inductive DdA (H : Hp) : List V → List PyData → Prop
  | nil : DdA H [] []
  | cons {v : V} {vs : List V} {d : PyData} {ds : List PyData} : Dd H v d → DdA H vs ds → DdA H (v :: vs) (d :: ds)
end
mutual
theorem Dd.mono {H H' : Hp} (s : Same H H') : ∀ {v : V} {d : PyData}, Dd H v d → Dd H' v d
  | _, _, .non => .non
  | _, _, .bl b => .bl b
  | _, _, .int i => .int i
  | _, _, .str x => .str x
  | _, _, .lst h n a => .lst (s _ _ h) n (DdA.mono s a)
  | _, _, .tup h a => .tup (s _ _ h) (DdA.mono s a)
  | _, _, .dic h => .dic (s _ _ h)
theorem DdA.mono {H H' : Hp} (s : Same H H') : ∀ {vs : List V} {ds : List PyData}, DdA H vs ds → DdA H' vs ds
  | _, _, .nil => .nil
  | _, _, .cons h t => .cons (Dd.mono s h) (DdA.mono s t)
end
theorem DdA.length {H : Hp} : ∀ {vs : List V} {ds : List PyData}, DdA H vs ds → vs.length = ds.length
  | _, _, .nil => rfl
  | _, _, .cons _ t => congrArg Nat.succ t.length
theorem DdA.get {H : Hp} : ∀ {vs : List V} {ds : List PyData} {i : Nat} {v : V}, DdA H vs ds → vs[i]? = some v → ∃ d, ds[i]? = some d ∧ Dd H v d
  | _, _, _, _, .nil, e => by simp at e
  | _, _, 0, _, .cons h _, e => by
    simp only [List.getElem?_cons_zero, Option.some.injEq] at e
    subst e
    exact ⟨_, rfl, h⟩
  | _, _, i + 1, _, .cons _ t, e => by
    obtain ⟨d, h1, h2⟩ := t.get (i := i) (by simpa using e)
    exact ⟨d, by simpa using h1, h2⟩
theorem DdA.append {H : Hp} : ∀ {vs ws : List V} {ds es : List PyData}, DdA H vs ds → DdA H ws es → DdA H (vs ++ ws) (ds ++ es)
  | _, _, _, _, .nil, s => s
  | _, _, _, _, .cons h t, s => .cons h (t.append s)

section
variable {X : Cx} {pins : List (Addr × Obj)} {σ : L2.St} {H : Hp} {s : Shared}
mutual
theorem Dd.reads (I : Inv X pins σ H s) : ∀ (d : PyData) (v : V) (u : Value), Dd H v d → RelV v u → ∃ as, Reads s.heap u d as ∧ sysModules ∉ as
  | .none, _, _, h, r => by
    cases h
    cases r
    exact ⟨_, Reads.none, fun z => nomatch z⟩
  | .bool b, _, _, h, r => by
    cases h
    cases r
    exact ⟨_, Reads.bool b, fun z => nomatch z⟩
  | .int i, _, _, h, r => by
    cases h
    obtain ⟨t, rfl⟩ := r
    exact ⟨_, Reads.int i t, fun z => nomatch z⟩
  | .str x, _, _, h, r => by
    cases h
    obtain ⟨t, rfl⟩ := r
    exact ⟨_, Reads.str x t, fun z => nomatch z⟩
  | .list ds, _, _, h, r => by
    cases h with
    | lst hs hn ha =>
      cases r
      obtain ⟨its, rv, ⟨o, n, ho, hc, _, hd⟩, _⟩ := I.list (SqL.of hs)
      obtain ⟨as, hr, ns⟩ := Dd.readsAll I ds _ its ha rv
      refine ⟨_, Reads.list ho hc hd hr, fun z => ?_⟩
      cases z with
      | head => exact hn rfl
      | tail _ z => exact ns z
  | .tuple ds, _, _, h, r => by
    cases h with
    | tup hs ha =>
      cases r
      obtain ⟨its, rv, ⟨o, ho, hc, n, hd⟩, _⟩ := I.tuple (SqT.of hs)
      obtain ⟨as, hr, ns⟩ := Dd.readsAll I ds _ its ha rv
      exact ⟨_, Reads.tuple ho hc hd hr, ns⟩
  | .dict kvs, _, _, h, r => by
    cases h with
    | dic hs =>
      cases r
      obtain ⟨_, hm, vs, kv, o, es, ep, h1, h2, h3, h4⟩ := dk_of I.hok hs
      cases kv
      have e0 : es = #[] := by
        have z := h4.2.1
        cases e : es.toList with
        | nil => exact Array.toList_inj.mp (by rw [e])
        | cons a l => rw [e] at z; exact absurd z (by first | exact fun q => nomatch q | simp [Pairs])
      subst e0
      refine ⟨_, Reads.dict (kvs := []) h1 h2.1 h3 ReadsAll.nil ReadsAll.nil, fun z => ?_⟩
      simp at z
      subst z
      simp at hm
theorem Dd.readsAll (I : Inv X pins σ H s) : ∀ (ds : List PyData) (vs : List V) (us : List Value), DdA H vs ds → Vals vs us → ∃ as, ReadsAll s.heap us ds as ∧ sysModules ∉ as
  | [], _, _, h, r => by
    cases h
    cases r
    exact ⟨_, ReadsAll.nil, fun z => nomatch z⟩
  | d :: ds, _, _, h, r => by
    cases h with
    | cons h1 h2 =>
      cases r with
      | cons r1 r2 =>
        obtain ⟨as, q1, n1⟩ := Dd.reads I d _ _ h1 r1
        obtain ⟨bs, q2, n2⟩ := Dd.readsAll I ds _ _ h2 r2
        exact ⟨_, ReadsAll.cons q1 q2, fun z => (List.mem_append.mp z).elim n1 n2⟩
end
end

section
variable {X : Cx}
/-- repr(x), x data -/
def rRepr : List V → Hp → VK → Prop := fun xs H Q => ∃ (v : V) (d : PyData), xs = [v] ∧ Dd H v d ∧ d.showable = true ∧ d.depth ≤ 60 ∧ d.shown.length ≤ sizeLine ∧ Q (.str d.shown) H
theorem call_repr (hq : Qt X.A) (hu : X.A.units + 64 < cLine) : CallR X (.builtin "repr") rRepr := by
  intro pins s σ H xs us Q I r h
  obtain ⟨v, d, rfl, hd, hs, hz, hl, q⟩ := h
  cases r with
  | cons rv rr =>
    cases rr
    rename_i u
    obtain ⟨as, hr, ns⟩ := Dd.reads I d v u hd rv
    cases hr with
    | none => exact PySem.P.repr_of_none ⟨.str _, H, I.tok _, ⟨_, rfl⟩, q⟩
    | bool b => exact PySem.P.repr_of_bool ⟨.str _, H, I.tok _, ⟨_, rfl⟩, q⟩
    | int i t => exact PySem.P.repr_of_int (by simpa [PyData.showable] using hs) ⟨.str _, H, I.tok _, ⟨_, rfl⟩, q⟩
    | str x t => exact PySem.P.repr_of_str ⟨.str _, H, I.tok _, ⟨_, rfl⟩, q⟩ hl
    | list h1 h2 h3 h4 =>
      exact repr_of_reads' (.list h1 h2 h3 h4) hs (fun _ => ns) hq (by omega) (fun _ _ e => e) (fun h' u tk hk => ⟨.str _, H, I.kept hk, ⟨_, rfl⟩, q⟩) hl
    | tuple h1 h2 h3 h4 =>
      exact repr_of_reads' (.tuple h1 h2 h3 h4) hs (fun _ => ns) hq (by omega) (fun _ _ e => e) (fun h' u tk hk => ⟨.str _, H, I.kept hk, ⟨_, rfl⟩, q⟩) hl
    | dict h1 h2 h3 h4 h5 =>
      exact repr_of_reads' (.dict h1 h2 h3 h4 h5) hs (fun _ => ns) hq (by omega) (fun _ _ e => e) (fun h' u tk hk => ⟨.str _, H, I.kept hk, ⟨_, rfl⟩, q⟩) hl
end

/-! ### displays of data: what is made stands at places that were free at the entry -/
/-- what stands in H' at places that are free in H0 -/
def news (H0 H' : Hp) : Hp := fun b => if H0 b = none then H' b else none
theorem news_some {H0 H' : Hp} {b : Addr} {o : HO} : news H0 H' b = some o ↔ H0 b = none ∧ H' b = some o := by
  unfold news
  by_cases h : H0 b = none
  · rw [if_pos h]
    exact ⟨fun q => ⟨h, q⟩, fun q => q.2⟩
  · rw [if_neg h]
    exact ⟨fun q => (nomatch q), fun q => absurd q.1 h⟩
theorem news_old {H0 H' : Hp} : Same (news H0 H') H' := fun b o q => (news_some.mp q).2
theorem news_same {H0 H1 H2 : Hp} (s : Same H1 H2) : Same (news H0 H1) (news H0 H2) := fun b o q => news_some.mpr ⟨(news_some.mp q).1, s b o (news_some.mp q).2⟩
/-- what stood still is no free place -/
def Bs (H0 H : Hp) : Prop := ∀ b, H b = none → H0 b = none
theorem Bs.refl {H : Hp} : Bs H H := fun _ q => q
theorem Bs.same {H0 H H' : Hp} (a : Bs H0 H) (s : Same H H') : Bs H0 H' := fun b q => a b (s.free q)
/-- what a reading wants ahead of a display, and keeps -/
def Stab (pre : L2.St → Hp → Prop) : Prop := ∀ σ H H', Same H H' → pre σ H → pre σ H'
def pT : L2.St → Hp → Prop := fun _ _ => True
def pV (H0 : Hp) (i : Nat) (d : PyData) : L2.St → Hp → Prop := fun σ H => ∃ v, σ[i]? = some (some v) ∧ Dd (news H0 H) v d
def pAnd (a b : L2.St → Hp → Prop) : L2.St → Hp → Prop := fun σ H => a σ H ∧ b σ H
theorem stab_T : Stab pT := fun _ _ _ _ h => h
theorem stab_V {H0 : Hp} {i : Nat} {d : PyData} : Stab (pV H0 i d) := fun _ _ _ s ⟨v, h1, h2⟩ => ⟨v, h1, h2.mono (news_same s)⟩
theorem stab_and {a b : L2.St → Hp → Prop} (ha : Stab a) (hb : Stab b) : Stab (pAnd a b) := fun σ H H' s ⟨h1, h2⟩ => ⟨ha σ H H' s h1, hb σ H H' s h2⟩
section
variable {X : Cx} {e : Expr} {es : List Expr} {t t' : TE} {H0 : Hp} {p1 p2 : L2.St → Hp → Prop}
theorem pe_imp (h : PE X e t) (i : ∀ σ H Q, t' σ H Q → t σ H Q) : PE X e t' := ⟨fun pins s σ H Q I q => h.run pins s σ H Q I (i σ H Q q)⟩
def tD (H0 : Hp) (pre : L2.St → Hp → Prop) (d : PyData) : TE := fun σ H Q => Bs H0 H ∧ pre σ H ∧ ∀ v H', Same H H' → Dd (news H0 H') v d → Q v H'
def tDs (H0 : Hp) (pre : L2.St → Hp → Prop) (ds : List PyData) : TA := fun σ H Q => Bs H0 H ∧ pre σ H ∧ ∀ vs H', Same H H' → DdA (news H0 H') vs ds → Q vs H'
variable {d : PyData} {ds : List PyData} {pos : Pos}
theorem da_of (h : PE X e t) (i : ∀ σ H Q, (∀ v, (∀ H', Dd H' v d) → Q v H) → t σ H Q) : PE X e (tD H0 pT d) := pe_imp h fun σ H Q q => i σ H Q fun v k => q.2.2 v H (Same.refl H) (k _)
theorem da_none {j : Nat} : PE X (.Constant .none j pos) (tD H0 pT .none) := da_of pe_non fun σ H Q q => q _ fun _ => .non
theorem da_bool {b : Bool} {j : Nat} : PE X (.Constant (.bool b) j pos) (tD H0 pT (.bool b)) := da_of pe_bl fun σ H Q q => q _ fun _ => .bl b
theorem da_int {i : Int} {j : Nat} : PE X (.Constant (.int i) j pos) (tD H0 pT (.int i)) := da_of pe_int fun σ H Q q => q _ fun _ => .int i
theorem da_str {x : Str} {j : Nat} : PE X (.Constant (.str x) j pos) (tD H0 pT (.str x)) := da_of pe_str fun σ H Q q => q _ fun _ => .str x
theorem da_var {i : Nat} (h : PE X e (tVar i)) : PE X e (tD H0 (pV H0 i d) d) := pe_imp h fun σ H Q ⟨_, ⟨v, h1, h2⟩, k⟩ => ⟨v, h1, k v H (Same.refl H) h2⟩
theorem da_nil : PA X [] (tDs H0 pT []) := ⟨fun pos pins s σ H Q I q => pa_nil.run pos pins s σ H Q I (q.2.2 _ _ (Same.refl H) .nil)⟩
theorem da_cons (st : Stab p2) (h : PE X e (tD H0 p1 d)) (hs : PA X es (tDs H0 p2 ds)) (he : starEach (e :: es) X.env = (false, eval e X.env) :: starEach es X.env := by rfl) : PA X (e :: es) (tDs H0 (pAnd p1 p2) (d :: ds)) :=
  ⟨fun pos pins s σ H Q I ⟨b, ⟨q1, q2⟩, k⟩ => (pa_cons h hs he).run pos pins s σ H Q I
    (show tD H0 p1 d σ H _ from ⟨b, q1, fun v H1 s1 h1 => show tDs H0 p2 ds σ H1 _ from ⟨b.same s1, st σ H H1 s1 q2, fun vs H2 s2 h2 => k _ _ (s1.trans s2) (.cons (h1.mono (news_same s2)) h2)⟩⟩)⟩
theorem at_new {H0 H : Hp} {p : Addr} {o : HO} (b : Bs H0 H) (n : H p = none) : news H0 (upd H p o) p = some o := news_some.mpr ⟨b p n, upd_same⟩
theorem da_tup {k} (h : PA X es (tDs H0 p1 ds)) (hl : ds.length ≤ sizeLine := by first | decide | (rw [sizeLine_eq]; simp only [List.length_cons, List.length_nil]; decide)) : PE X (.Tuple es k pos) (tD H0 p1 (.tuple ds)) :=
  pe_imp (pe_tup h) fun σ H Q ⟨b, q, k⟩ => show tDs H0 p1 ds σ H _ from ⟨b, q, fun vs H1 s1 h1 => ⟨by rw [h1.length]; exact hl, fun p hp => k _ _ (s1.trans (same_new hp _)) (.tup (at_new (b.same s1) hp) (h1.mono (news_same (same_new hp _))))⟩⟩
theorem da_lst (h : PA X es (tDs H0 p1 ds)) (hl : ds.length ≤ sizeLine := by first | decide | (rw [sizeLine_eq]; simp only [List.length_cons, List.length_nil]; decide)) : PE X (.List es pos) (tD H0 p1 (.list ds)) := by
  constructor
  rintro pins s σ H Q I ⟨b, q, k⟩
  refine wpAny_List_spliced (thn (h.run pos pins s σ H (fun vs H1 => Same H H1 ∧ DdA (news H0 H1) vs ds) I ⟨b, q, fun vs H1 s1 h1 => ⟨s1, h1⟩⟩) ?_)
  rintro us s1 ⟨vs, H1, I1, r, sm, h1⟩
  have z : vs.length ≤ sizeLine := by rw [h1.length]; exact hl
  have hf : H1 s1.heap.objs.size = none := I1.hok.fresh (Nat.le_refl _)
  refine ⟨by rw [← r.length]; exact z, .ref s1.heap.objs.size, upd H1 s1.heap.objs.size (.lst vs), I1.laid (t' := s1.toks) (fun b u e => Heap.get?_push_of_some _ e) (Nat.le_refl _) ?_, rfl,
    k _ _ (sm.trans (same_new hf _)) (.lst (at_new (b.same sm) hf) (Nat.ne_of_gt I1.big) (h1.mono (news_same (same_new hf _))))⟩
  exact ⟨z, us, 0, r, Heap.get?_push_size _ rfl⟩
theorem da_dict : PE X (.Dict [] [] pos) (tD H0 pT (.dict [])) := pe_imp pe_dnewK fun σ H Q ⟨b, _, k⟩ p hp => k _ _ (same_new hp _) (.dic (at_new b hp))
end
end Q0

/-! Own exceptions with an __init__ that keeps one field, as values: made by position and by name. -/
namespace PySem
namespace EK
open PySem.W PySem.Calls PyProof.Rows PySem.HandSPX Builtin Builtin.ObjectAttr
section
variable {M : Model} {A : Around} {E : Value → Shared → Prop} {h : Heap} {g : Array GenState} {d : Drawn} {t : Nat} {os : OsState}
  {nm q : Str} {C N : Addr} {bs bm bmB : List Value} {hdct : Bool} {sn : List Str} {sub : List Value} {ab : Bool} {col : Option Bool}
  {dd : Option Addr} {k0 k1 k2 k3 k5 : Option Value} {B newId initId : String} {kw : List (Str × Value)}

theorem check_new_kw (F : ExcBaseFacts B newId initId bmB) (hT : ∀ X : String, bm.contains (.type X) = bmB.contains (.type X))
    {Q : Unit → Shared → Prop} (hC : h.get? C = some (excClassObj nm q C N bs bm hdct sn sub ab col dd k0 k1 k2 k3 k5 newId))
    (hq : Q () ⟨h, g, d, t, os⟩) : wpAny M A (checkBuiltinCall newId ⟨[.ref C], kw⟩) Q E ⟨h, g, d, t, os⟩ := by
  have inB : (Value.ref C :: bm).contains (.type B) = true := by
    rw [List.contains_cons, hT, F.hasB, Bool.or_true]
  have ns := F.noStar
  simp only [checkBuiltinCall, F.newKind, F.newSplit, F.newRow]
  repeat (first
    | refine wpAny_loadPart_at hC ?_
    | (refine wpAny_isSubtype_exc hC ?_; rw [inB])
    | refine wpAny_staticBase_exc hC ?_
    | refine wpAny_madeBy_exc hC ?_
    | simp only [bne_self_eq_false, Bool.false_eq_true, if_false]
    | wp_step)
  exact hq
theorem check_type_call_kw {Q : Unit → Shared → Prop} (hC : h.get? C = some (excClassObj nm q C N bs bm hdct sn sub ab col dd k0 k1 k2 k3 k5 newId))
    (hq : Q () ⟨h, g, d, t, os⟩) : wpAny M A (checkBuiltinCall "type.__call__" ⟨[.ref C], kw⟩) Q E ⟨h, g, d, t, os⟩ := by
  have f3 := tc_sub
  have hT : (⟨h, g, d, t, os⟩ : Shared).TypeIs (.ref C) "type" := ⟨_, hC, rfl⟩
  simp only [checkBuiltinCall, tc_kind, tc_split]
  repeat (any_goals (first
    | assumption
    | with_reducible refine wpAny_loadPart_at hC ?_
    | with_reducible refine wpAny_onRaise ?_
    | with_reducible refine wpAny_map ?_
    | wp_step))
end
section
variable {prog : Program} {w : World} {A : Around} {E : Value → Shared → Prop} {R : Result → Shared → Prop} {h : Heap}
  {g : Array GenState} {d : Drawn} {t : Nat} {os : OsState} {nm q : Str} {C N : Addr} {bs bm bmB : List Value} {hdct : Bool}
  {sn : List Str} {sub : List Value} {ab : Bool} {col : Option Bool} {dd : Option Addr} {k0 k1 k2 k3 k5 : Option Value}
  {B newId initId : String} {kw : List (Str × Value)}

theorem new_kw (F : ExcBaseFacts B newId initId bmB) (hT : ∀ X : String, bm.contains (.type X) = bmB.contains (.type X))
    (hC : h.get? C = some (excClassObj nm q C N bs bm hdct sn sub ab col dd k0 k1 k2 k3 k5 newId))
    (hq : R (.ok (.ret (.ref (h.objs.size + 1)))) ⟨(h.push (W.kdv_tup [])).push (excO C h.objs.size), g, d, t, os⟩) :
    codeAny (model prog w) A (.builtin newId ⟨[.ref C], kw⟩) R ⟨h, g, d, t, os⟩ := by
  have ends := F.ends
  have inB : (Value.ref C :: bm).contains (.type B) = true := by
    rw [List.contains_cons, hT, F.hasB, Bool.or_true]
  have notA : (Value.ref C :: bm).contains (.type "AttributeError") = false := by
    rw [List.contains_cons, hT, F.noAttr]
    rfl
  have notN : (Value.ref C :: bm).contains (.type "NameError") = false := by
    rw [List.contains_cons, hT, F.noName]
    rfl
  refine codeAny_builtinAt F.entry ?_
  unfold Builtin.«BaseException.__new__»
  refine wpAt_bind ?_
  show wpAt _ _ _ (stack >>= _) _ _ _
  refine wpAt_bind (wpAt_stack fun p below => wpAt_of_wpAny ?_)
  wp_walk
  refine wpAt_of_wpAny ?_
  rw [F.owner]
  repeat (first
    | with_reducible refine wpAny_madeHere_exc F.canon hC ?_
    | with_reducible refine wpAny_loadPart_at hC ?_
    | (with_reducible refine wpAny_isSubtype_exc hC ?_; first | rw [inB] | rw [notA] | rw [notN])
    | wp_step)
  show R _ _
  rw [Heap.size_push]
  exact hq

theorem type_call_kw (F : ExcBaseFacts B newId initId bmB) (hT : ∀ X : String, bm.contains (.type X) = bmB.contains (.type X))
    {fI : Addr} {Q : Fin → Shared → Prop} (hC : h.get? C = some (excClassObj nm q C N bs bm hdct sn sub ab col dd k0 k1 k2 k3 k5 newId))
    (hi : W.Looks (model prog w) h (typeLookup (.ref C) "__init__") (some (.ref fI)))
    (hb : ∀ self, W.Looks (model prog w) h (bindSpecial (.ref fI) self) (.ref fI, [self]))
    (hq : codeAny (model prog w) A (.call (.ref fI) ⟨[.ref (h.objs.size + 1)], kw⟩)
      (fun r s' => match r with
        | .ok (.ret v) => v = .none ∧ Q (.done (.ret (.ref (h.objs.size + 1)))) s'
        | .ok _ => False
        | .error e => E e s')
      ⟨(h.push (W.kdv_tup [])).push (excO C h.objs.size), g, d, t, os⟩) :
    wpAny (model prog w) A (Builtin.«type.__call__» ⟨[.ref C], kw⟩) Q E ⟨h, g, d, t, os⟩ := by
  repeat (first
    | with_reducible refine wpAny_loadPart_at hC ?_
    | with_reducible refine wpAny_madeBy_exc hC ?_
    | wp_step)
  refine codeAny_call_builtin_code (Code.quiet_builtin _ F.quiet) (check_new_kw F hT hC ?_)
  refine new_kw F hT hC ?_
  show wpAny _ _ _ _ _ _
  have k : ∀ b o, h.get? b = some o → ((h.push (W.kdv_tup [])).push (excO C h.objs.size)).get? b = some o :=
    fun b o e => Heap.get?_push_of_some _ (Heap.get?_push_of_some _ e)
  have hC1 := k _ _ hC
  have self : ((h.push (W.kdv_tup [])).push (excO C h.objs.size)).get? (h.objs.size + 1) = some (excO C h.objs.size) := by heap_get
  have own : (Value.ref C :: bm).contains (.ref C) = true := by simp
  have i1 := hi.keeps k
  have b1 := (hb (.ref (h.objs.size + 1))).keeps k
  unfold isInstance
  repeat (first
    | with_reducible refine wpAny_loadPart_at self ?_
    | (with_reducible refine wpAny_isSubtype_exc hC1 ?_; rw [own])
    | wp_step)
  show wpAny _ _ (typeLookup (.ref C) _) _ _ _
  refine i1.at ?_
  refine wpAny_holding (wpAny_bind (b1.at ?_))
  refine wpAny_bind (wpAny_call (codeAny_mono hq fun r s' z => ?_))
  match r, z with
  | .error e, z => exact z
  | .ok (.ret v), ⟨e, z⟩ =>
    subst e
    first
      | exact wpAny_pure (wpAny_pure z)
      | (wp_walk; exact z)

/-- C(f = v, ..), C an own exception class with its own __init__ -/
theorem call_kw (F : ExcBaseFacts B newId initId bmB) (hT : ∀ X : String, bm.contains (.type X) = bmB.contains (.type X)) {fI : Addr}
    (hC : h.get? C = some (excClassObj nm q C N bs bm hdct sn sub ab col dd k0 k1 k2 k3 k5 newId))
    (hi : W.Looks (model prog w) h (typeLookup (.ref C) "__init__") (some (.ref fI)))
    (hb : ∀ self, W.Looks (model prog w) h (bindSpecial (.ref fI) self) (.ref fI, [self]))
    (hq : codeAny (model prog w) (A.under (.builtin "type.__call__" ⟨[.ref C], kw⟩)) (.call (.ref fI) ⟨[.ref (h.objs.size + 1)], kw⟩)
      (W.InitBack (h.objs.size + 1) R) ⟨(h.push (W.kdv_tup [])).push (excO C h.objs.size), g, d, t, os⟩) :
    codeAny (model prog w) A (.call (.ref C) ⟨[], kw⟩) R ⟨h, g, d, t, os⟩ := by
  have f1 := tc_lookup
  have f2 := tc_bind (.ref C)
  have hTy : (⟨h, g, d, t, os⟩ : Shared).TypeIs (.ref C) "type" := ⟨_, hC, rfl⟩
  refine codeAny_of_tree ?_
  show wpAny _ _ (callAny (.ref C) _) _ _ _
  repeat (any_goals (first | assumption | with_reducible refine wpAny_loadPart_at hC ?_ | wp_step))
  refine ⟨rfl, ?_⟩
  refine codeAny_call_builtin_at (Code.quiet_builtin _ (by decide +kernel)) entry_typeCall (check_type_call_kw hC (type_call_kw F hT hC hi hb ?_))
  refine codeAny_mono hq fun r s' z => ?_
  rcases r with e | (v | _ | _ | _) <;> exact z
end
end EK
end PySem

/-! Data and what the language asks of it: isinstance, unpacking, comprehensions. -/
namespace Q0
open PySem PySem.Spec PyProof.Rows L2

def tyName : PyData → String
  | .none => "NoneType"
  | .bool _ => "bool"
  | .int _ => "int"
  | .str _ => "str"
  | .list _ => "list"
  | .tuple _ => "tuple"
  | .dict _ => "dict"
theorem Dd.ty {K : PySem.W.Frag} {H : Hp} {v : V} {d : PyData} (h : Dd H v d) : TyX K H v (.type (tyName d)) := by
  cases h with
  | non => exact .base .non
  | bl b => exact .base (.bl b)
  | int i => exact .base (.int i)
  | str x => exact .base (.str x)
  | lst e _ _ => exact .base (.lst e)
  | tup e _ => exact .base (.tup e)
  | dic e => exact .base (.dK e)
def isTup : PyData → Bool | .tuple _ => true | _ => false
def isStr : PyData → Bool | .str _ => true | _ => false
def isInt : PyData → Bool | .int _ => true | .bool _ => true | _ => false
def isBool : PyData → Bool | .bool _ => true | _ => false
theorem kit_tup (d : PyData) : kitB (tyName d) "tuple" = some (isTup d) := by cases d <;> (simp only [tyName, isTup, isStr, isInt, isBool]; decide +kernel)
theorem kit_str (d : PyData) : kitB (tyName d) "str" = some (isStr d) := by cases d <;> (simp only [tyName, isTup, isStr, isInt, isBool]; decide +kernel)
theorem kit_int (d : PyData) : kitB (tyName d) "int" = some (isInt d) := by cases d <;> (simp only [tyName, isTup, isStr, isInt, isBool]; decide +kernel)
theorem kit_bool (d : PyData) : kitB (tyName d) "bool" = some (isBool d) := by cases d <;> (simp only [tyName, isTup, isStr, isInt, isBool]; decide +kernel)
theorem isi_dd {K : PySem.W.Frag} {H : Hp} {v : V} {d : PyData} {T : String} {b : Bool} {Q : VK} (h : Dd H v d) (k : kitB (tyName d) T = some b) (q : Q (.bl b) H) : rIsi K [v, .ty T] H Q :=
  ⟨v, .ty T, .type (tyName d), .type T, b, rfl, .ty T, h.ty, kit_ty k, q⟩

theorem Dd.tupD {H : Hp} {v : V} {ds : List PyData} (h : Dd H v (.tuple ds)) : ∃ a xs, v = .ref a ∧ H a = some (.tup xs) ∧ DdA H xs ds := by
  cases h with
  | tup e A => exact ⟨_, _, rfl, e, A⟩
theorem Dd.lstD {H : Hp} {v : V} {ds : List PyData} (h : Dd H v (.list ds)) : ∃ a xs, v = .ref a ∧ H a = some (.lst xs) ∧ DdA H xs ds := by
  cases h with
  | lst e _ A => exact ⟨_, _, rfl, e, A⟩
theorem Dd.strD {H : Hp} {v : V} {x : Str} (h : Dd H v (.str x)) : v = .str x := by cases h; rfl
theorem DdA.at {H : Hp} : ∀ {vs : List V} {ds : List PyData} {i : Nat} {d : PyData}, DdA H vs ds → ds[i]? = some d → ∃ v, vs[i]? = some v ∧ Dd H v d
  | _, _, _, _, .nil, e => by simp at e
  | _, _, 0, _, .cons h _, e => by
    simp only [List.getElem?_cons_zero, Option.some.injEq] at e
    subst e
    exact ⟨_, rfl, h⟩
  | _, _, i + 1, _, .cons _ t, e => by
    obtain ⟨d, h1, h2⟩ := t.at (i := i) (by simpa using e)
    exact ⟨d, by simpa using h1, h2⟩
theorem DdA.strs {H : Hp} : ∀ {vs : List V} {xs : List Str}, DdA H vs (xs.map PyData.str) → vs = xs.map V.str
  | _, [], h => by cases h; rfl
  | _, x :: xs, h => by
    cases h with
    | cons h t => rw [h.strD, t.strs]; rfl
theorem DdA.ofStrs {H : Hp} : ∀ (xs : List Str), DdA H (xs.map V.str) (xs.map PyData.str)
  | [] => .nil
  | x :: xs => .cons (.str x) (ofStrs xs)

/-! ### data whose texts are of a bearable length -/
mutual
def okT : PyData → Bool
  | .str x => decide (x.length ≤ 100000)
  | .list ds => okTs ds
  | .tuple ds => okTs ds
  | _ => true
def okTs : List PyData → Bool
  | [] => true
  | d :: ds => okT d && okTs ds
end
theorem okTs_at : ∀ {ds : List PyData} {i : Nat} {d : PyData}, okTs ds = true → ds[i]? = some d → okT d = true
  | [], _, _, _, e => by simp at e
  | x :: ds, 0, d, h, e => by
    simp only [List.getElem?_cons_zero, Option.some.injEq] at e
    subst e
    unfold okTs at h
    exact (Bool.and_eq_true_iff.mp h).1
  | x :: ds, i + 1, d, h, e => by
    unfold okTs at h
    exact okTs_at (Bool.and_eq_true_iff.mp h).2 (by simpa using e)

theorem range_bind {α β : Type} (g : α → Option β) : ∀ xs : List α, (List.range xs.length).filterMap (fun i => xs[i]?.bind g) = xs.filterMap g
  | [] => rfl
  | x :: xs => by
    have ih := range_bind g xs
    rw [List.length_cons, List.range_succ_eq_map, List.filterMap_cons, List.filterMap_cons]
    have e : (List.map Nat.succ (List.range xs.length)).filterMap (fun i => (x :: xs)[i]?.bind g) = xs.filterMap g := by
      rw [List.filterMap_map]
      exact ih
    rw [e] <;> rfl
theorem range_map' {α β : Type} (g : α → β) (xs : List α) : (List.range xs.length).filterMap (fun i => xs[i]?.map g) = xs.map g := by
  have h := range_bind (fun x => some (g x)) xs
  have e : xs.filterMap (fun x => some (g x)) = xs.map g := List.filterMap_eq_map ▸ rfl
  rw [← e, ← h]
  refine congrArg (fun f => List.filterMap f _) (funext fun i => ?_)
  cases xs[i]? <;> rfl
/-! ### comprehensions whose values are told ahead -/
theorem same_put {H H' : Hp} {D : Addr} {o : HO} (s : Same H H') (n : H D = none) : Same H (upd H' D o) := fun b u q => by
  rw [upd_ne (ne_of_none q n)]
  exact s b u q
/-- [e for .. if t]: f tells the value, or that it is left out; nothing that stood is changed -/
theorem lc_vals {J : It} {n : Nat} {G : Hp → Prop} {Y : Nat → Hp → V → Hp → Prop} (w : Walk J n G Y) {g : TG} {tt : TT} {te : TE} {vs : List Nat} {σ : L2.St} {H1 : Hp} {D : Addr} {Qd : Hp → Prop}
    (f : Nat → Option V) (hD : H1 D = none) (lz : n ≤ sizeLine) (hG : ∀ H, Same H1 H → G H)
    (hs : ∀ i x H H' (K : VK) (K0 : Hp → Prop), i < n → Same H1 H → Y i H x H' → (∀ v H4, f i = some v → Same H H4 → K v H4) → (∀ H4, f i = none → Same H H4 → K0 H4) →
      g x (wipe σ vs) H' fun σ2 H2 => wipe σ2 vs = wipe σ vs ∧ tt σ2 H2 fun b H3 => if b = true then te σ2 H3 K else K0 H3)
    (hd : ∀ H, Same H1 H → H D = some (.lst ((List.range n).filterMap f)) → Qd H) :
    ∃ W : Nat → Nat → Hp → Prop, (∃ m, W 0 m (upd H1 D (.lst []))) ∧ ∀ i m H, W i m H →
      (J.stop i H ∧ Qd H) ∨ (J.go i H ∧ ∃ Nx : Hp → Prop, (∀ H', Nx H' → ∃ m', m' < m ∧ W (i + 1) m' H') ∧ ∀ x H', J.yld i H x H' → g x (wipe σ vs) H' fun σ2 H2 => wipe σ2 vs = wipe σ vs ∧ tt σ2 H2 fun b H3 =>
        if b = true then te σ2 H3 fun y H4 => ∃ acc, H4 D = some (.lst acc) ∧ acc.length < sizeLine ∧ Nx (upd H4 D (.lst (acc ++ [y]))) else Nx H3) := by
  refine lc_it w (fun i H => Same H1 H ∧ H D = some (.lst ((List.range i).filterMap f))) ⟨same_new hD _, upd_same⟩ (fun i H _ p => hG H p.1) (fun i x H H' hi p y => ?_) (fun H p => hd H p.1 p.2)
  obtain ⟨s1, e1⟩ := p
  refine hs i x H H' _ _ hi s1 y (fun v H4 ef s4 => ?_) (fun H4 ef s4 => ⟨s1.trans s4, ?_⟩)
  · refine ⟨_, s4 _ _ e1, ?_, same_put (s1.trans s4) hD, ?_⟩
    · have := List.length_filterMap_le f (List.range i)
      rw [List.length_range] at this
      omega
    · rw [upd_same, List.range_succ, List.filterMap_append]
      simp [ef]
  · rw [s4 _ _ e1, List.range_succ, List.filterMap_append]
    simp [ef]
end Q0

/-! list(d.values()) -/
namespace Q0
open PySem PySem.Spec PyProof.Rows L2
section
variable {X : Cx}
def tListVals (td : TE) : TE := fun σ H Q => td σ H fun x H1 => ∃ (a : Addr) (kvs : List (Key × V)), x = V.ref a ∧ H1 a = some (.dK kvs) ∧ kvs.length ≤ sizeLine ∧ ∀ p, H1 p = none → Q (.ref p) (upd H1 p (.lst (kvs.map (·.2))))
theorem valsOf : ∀ {n : Nat} {vs : List V} {us : List Value}, vs.length = n → us.length = n → (∀ (i : Nat) (v : V) (u : Value), vs[i]? = some v → us[i]? = some u → RelV v u) → Vals vs us
  | _, [], [], _, _, _ => .nil
  | _, [], _ :: _, e1, e2, _ => by subst e1; cases e2
  | _, _ :: _, [], e1, e2, _ => by subst e2; cases e1
  | _, v :: vs, u :: us, e1, e2, h => .cons (h 0 v u rfl rfl) (valsOf (n := vs.length) rfl (by subst e1; simpa using e2) fun i a b ea eb => h (i + 1) a b (by simpa using ea) (by simpa using eb))
theorem pe_listVals {o : Expr} {p pos apos mpos : Pos} {td : TE} (hc : X.calm = true) (hm : X.mg "list" = none) (hd : PE X o td) (hg : Gl X "list" := by rfl) (hb : attributeBase o "values" X.env (eval o X.env) = eval o X.env := by rfl) (hl : (apos.endLine == mpos.line) = true := by rfl)
    (hs : starEach [Expr.Call (.Attribute o "values" apos) [] [] mpos] X.env = [(false, eval (Expr.Call (.Attribute o "values" apos) [] [] mpos) X.env)] := by rfl) :
    PE X (.Call (.Name "list" p) [.Call (.Attribute o "values" apos) [] [] mpos] [] pos) (tListVals td) := by
  refine ⟨fun pins s σ H Q I h => ?_⟩
  refine wpAny_Call_Name_kw (ld_blt I hg hm (u := .type "list") (by first | rfl | decide +kernel) ?_ (by first | decide +kernel | decide) (by first | decide +kernel | decide))
  rw [hs]
  refine PySem.callWith_type1 (wpAny_Call_method0_late hb hl (thn (hd.run pins s σ H _ I h) fun v s1 hx => ?_))
  obtain ⟨x, H1, I1, r1, a, kvs, rfl, ha, lz, q⟩ := hx
  obtain rfl : v = Value.ref a := r1
  obtain ⟨_, nsys, vs, rel, dof⟩ := dk_of I1.hok ha
  have dof0 := dof
  obtain ⟨ob, es0, ep0, e1, e2, e3, _⟩ := dof0
  refine ⟨"dict", "dict.values", F.plainAttrs_dict, F.slot_dict_values, F.type_dict_values, ⟨ob, e1, e2.1⟩, fun b e => ?_, Calls.callWith_builtin rfl (PySem.evalArgs_none ?_)⟩
  · cases e
    exact ⟨ob, e1, e2.2.1⟩
  refine call_meetsIn F.slot_dict_values ⟨ob, e1, e2.1⟩ F.entry_dict_values (F.args_dict_values_1 _) (meets_dict_values (mixKind X.prog X.w) a nsys) ⟨⟨vs, dof⟩, ?_⟩
  obtain ⟨es, ep, raw, sz, hat⟩ := dof.raw
  have lkv : kvs.length = vs.length := KV.length rel
  have raw1 := raw.push { cls := .type "dict_values", data := .fields #[.ref a] }
  refine PySem.W.kdl_call (n := es.size) (KdlSrc.rawValues (r := s1.heap.objs.size) (d := a) (es := es) (ep := ep)) (I.ok.hd hc) ⟨⟨_, Heap.get?_push_size _ rfl, rfl, rfl⟩, raw1⟩ (by rw [sz, ← lkv]; exact lz) fun h' tk acc c kp eL hacc => ?_
  have kp1 : ∀ b u, s1.heap.get? b = some u → h'.get? b = some u := fun b u e => kp b u (Heap.get?_push_of_some _ e)
  have z1 : s1.heap.objs.size ≤ (s1.heap.push { cls := .type "dict_values", data := .fields #[.ref a] }).objs.size := by rw [Heap.size_push]; exact Nat.le_succ _
  have fr := I1.hok.fresh z1
  have la : acc.size = es.size := hacc.1
  have rv : Vals (kvs.map (·.2)) acc.toList := by
    refine valsOf (n := kvs.length) (List.length_map _) (by rw [Array.length_toList, la, sz, lkv]) fun i v u ev eu => ?_
    rw [Array.getElem?_toList] at eu
    obtain ⟨hi, rfl⟩ := hacc.2 i u eu
    have hv : i < vs.length := sz ▸ hi
    obtain ⟨x, h1, h2⟩ := KV.at' rel (k := vs[i].1) (v := vs[i].2) (List.getElem?_eq_getElem hv)
    rw [List.getElem?_map, h1] at ev
    cases Option.some.inj ev
    rw [(hat i hi vs[i].1 vs[i].2 (List.getElem?_eq_getElem hv)).2]
    exact h2
  exact ⟨.ref _, upd H1 _ (.lst (kvs.map (·.2))), I1.laid (t' := tk) kp1 z1 (show ObjOk X.prog X.w (upd H1 _ (.lst (kvs.map (·.2)))) h' _ (.lst (kvs.map (·.2))) from ⟨by rw [List.length_map]; exact lz, acc.toList, c, rv, by simpa using eL⟩), rfl, q _ fr⟩
end
end Q0

namespace Q0
open PySem PySem.Spec PyProof.Rows L2
/-- a def of the top, by its name -/
def Df (K : PySem.W.Frag) (mg : Str → Option Value) (x : Str) (st : Stmt) : Prop :=
  ∃ (f : Addr) (fd : FuncData), mg x = some (.ref f) ∧ Fun K x x st f fd
theorem gd_of {P : Program} {w : World} {K : PySem.W.Frag} {mg : Str → Option Value} {base : Heap} {CX : CXT} {k : Nat} {x : Str} {st : Stmt} {ps : List Str} {sp : Sp}
    (D : Df K mg x st)
    (hb : ∀ (kV doc pm : Value) (an : Option Addr) (cdv ct : Value) (us : List Value), us.length = ps.length →
      bindArgs (PySem.W.fnOf x x (defArgs st) (defBody st) (defScope st) .none kV doc pm an cdv ct) ⟨us, []⟩ = pure (ps.zip us))
    (h : ∀ f fd, Fun K x x st f fd → Fn P w K mg base CX k f fd ps sp) : Gd P w K mg base CX k x ps sp :=
  let ⟨f, fd, m, F⟩ := D
  ⟨f, fd, m, F.kp, F.binds hb, h f fd F⟩

/-- names of built-ins that the text leaves alone -/
structure Bi (mg : Str → Option Value) : Prop where
  int : mg "int" = none
  abs : mg "abs" = none
  divmod : mg "divmod" = none
  len : mg "len" = none
  all : mg "all" = none
  range : mg "range" = none
  max : mg "max" = none
  min : mg "min" = none
  repr : mg "repr" = none
  isinstance : mg "isinstance" = none
  verr : mg "ValueError" = none
  lerr : mg "LookupError" = none
  aerr : mg "ArithmeticError" = none
  terr : mg "TypeError" = none
  atterr : mg "AttributeError" = none
  rerr : mg "RuntimeError" = none
  serr : mg "StopIteration" = none
  enumerate : mg "enumerate" = none
  tuple : mg "tuple" = none
  str : mg "str" = none
  list : mg "list" = none
  bool : mg "bool" = none
  set : mg "set" = none
  sorted : mg "sorted" = none

/-- the numbers of a well -/
structure WellN (a m c : Int) : Prop where
  a0 : 0 ≤ a
  m0 : 0 ≤ m
  m1 : m < 2147483543
  c0 : 0 ≤ c
/-- p holds a well -/
def Well (H : Hp) (p : Addr) : Prop := ∃ a m c, WellN a m c ∧ H p = some (.lst [.int a, .int m, .int c])
/-- all that stood but what is at p stands -/
def But (p : Addr) (H H' : Hp) : Prop := ∀ b o, b ≠ p → H b = some o → H' b = some o
theorem But.refl {p : Addr} {H : Hp} : But p H H := fun _ _ _ q => q
theorem But.trans {p : Addr} {H H1 H2 : Hp} (a : But p H H1) (b : But p H1 H2) : But p H H2 := fun c o n q => b c o n (a c o n q)
theorem But.new {p q : Addr} {H H1 : Hp} {o : HO} (a : But p H H1) (n : H1 q = none) : But p H (upd H1 q o) := fun c u nc e => by
  rw [upd_ne (ne_of_none (a c u nc e) n)]
  exact a c u nc e
theorem But.put {p : Addr} {H H1 : Hp} {o : HO} (a : But p H H1) : But p H (upd H1 p o) := fun c u nc e => by
  rw [upd_ne nc]
  exact a c u nc e
theorem Well.new {H : Hp} {p q : Addr} {o : HO} (h : Well H p) (n : H q = none) : Well (upd H q o) p :=
  let ⟨a, m, c, N, e⟩ := h
  ⟨a, m, c, N, by rw [upd_ne (ne_of_none e n)]; exact e⟩
theorem Well.ne {H : Hp} {p q : Addr} (h : Well H p) (n : H q = none) : p ≠ q := let ⟨_, _, _, _, e⟩ := h; ne_of_none e n
/-- _law_draw(well, few): a number from 0 to few - 1 -/
def spDraw : Sp := fun vs H Q _ => ∃ (p : Addr) (few : Int), vs = [.ref p, .int few] ∧ Well H p ∧ 0 < few ∧ few < 1000000 ∧
  ∀ (d : Int) (H' : Hp), 0 ≤ d → d < few → Well H' p → But p H H' → Q (.int d) H'
/-- _law_one(well, some): one of them -/
def spOne (K : PySem.W.Frag) : Sp := fun vs H Q _ => ∃ (p t : Addr) (xs : List V), vs = [.ref p, .ref t] ∧ Well H p ∧ SqT K H t xs ∧ p ≠ t ∧ 0 < xs.length ∧ xs.length < 1000000 ∧
  ∀ (i : Nat) (v : V) (H' : Hp), xs[i]? = some v → Well H' p → But p H H' → Q v H'
theorem But.seq {K : PySem.W.Frag} {p t : Addr} {xs : List V} {H H' : Hp} (a : But p H H') (n : t ≠ p) (h : SqT K H t xs) : SqT K H' t xs := by
  rcases h with h | h
  · rcases h with h | ⟨o, h⟩
    · exact .inl (.inl (a _ _ n h))
    · exact .inl (.inr ⟨o, a _ _ n h⟩)
  · exact .inr h
end Q0

/-! Data apart from the well: what is read off it, what is put together of it. -/
namespace Q0
open PySem PySem.Spec PyProof.Rows L2

/-! ### plain data: at most n deep, tuples of a bearable length, texts of at most a hundred signs -/
def shB : Nat → PyData → Bool
  | _, .none => true
  | _, .bool _ => true
  | _, .int _ => true
  | _, .str x => decide (x.length ≤ 100) && PyData.strOk x
  | n + 1, .tuple ds => decide (ds.length ≤ 1000) && ds.all (shB n)
  | _, _ => false
theorem shB_tup {n : Nat} {ds : List PyData} (h : shB (n + 1) (.tuple ds) = true) : ds.length ≤ 1000 ∧ ∀ d ∈ ds, shB n d = true := by
  have h : (decide (ds.length ≤ 1000) && ds.all (shB n)) = true := h
  rw [Bool.and_eq_true, decide_eq_true_iff, List.all_eq_true] at h
  exact h
theorem shB_of {n : Nat} {ds : List PyData} (h1 : ds.length ≤ 1000) (h2 : ∀ d ∈ ds, shB n d = true) : shB (n + 1) (.tuple ds) = true := by
  show (decide (ds.length ≤ 1000) && ds.all (shB n)) = true
  rw [Bool.and_eq_true, decide_eq_true_iff, List.all_eq_true]
  exact ⟨h1, h2⟩
theorem shB_zero {ds : List PyData} (h : shB 0 (.tuple ds) = true) : False := by cases h
theorem okTs_of : ∀ {ds : List PyData}, (∀ d ∈ ds, okT d = true) → okTs ds = true
  | [], _ => rfl
  | d :: ds, h => by
    unfold okTs
    rw [h d (List.mem_cons_self ..), okTs_of fun x hx => h x (List.mem_cons_of_mem _ hx)]
    rfl
theorem okTs_mem {ds : List PyData} (h : okTs ds = true) : ∀ d ∈ ds, okT d = true := fun d hd => by
  obtain ⟨i, hi, rfl⟩ := List.getElem_of_mem hd
  exact okTs_at h (List.getElem?_eq_getElem hi)
theorem shB_ok : ∀ {n : Nat} {d : PyData}, shB n d = true → okT d = true
  | _, .none, _ => rfl
  | _, .bool _, _ => rfl
  | _, .int _, _ => rfl
  | n, .str x, h => by
    have h : (decide (x.length ≤ 100) && PyData.strOk x) = true := by cases n <;> exact h
    rw [Bool.and_eq_true, decide_eq_true_iff] at h
    exact decide_eq_true (Nat.le_trans h.1 (by decide))
  | n + 1, .tuple ds, h => by
    show okTs ds = true
    exact okTs_of fun d hd => shB_ok ((shB_tup h).2 d hd)
  | 0, .tuple ds, h => (shB_zero h).elim
  | n, .list _, h => by cases n <;> cases h
  | n, .dict _, h => by cases n <;> cases h
theorem depthAll_le {n : Nat} : ∀ {ds : List PyData}, (∀ d ∈ ds, d.depth ≤ n) → PyData.depthAll ds ≤ n
  | [], _ => Nat.zero_le _
  | d :: ds, h => by
    unfold PyData.depthAll
    exact Nat.max_le.mpr ⟨h d (List.mem_cons_self ..), depthAll_le fun x hx => h x (List.mem_cons_of_mem _ hx)⟩
theorem canAll_of : ∀ {ds : List PyData}, (∀ d ∈ ds, d.canLay0 = true) → PyData.canLayAll0 ds = true
  | [], _ => rfl
  | d :: ds, h => by
    unfold PyData.canLayAll0
    rw [h d (List.mem_cons_self ..), canAll_of fun x hx => h x (List.mem_cons_of_mem _ hx)]
    rfl
theorem shB_lay : ∀ {n : Nat} {d : PyData}, shB n d = true → d.canLay0 = true ∧ d.depth ≤ n
  | _, .none, _ => ⟨rfl, Nat.zero_le _⟩
  | _, .bool _, _ => ⟨rfl, Nat.zero_le _⟩
  | _, .int _, _ => ⟨rfl, Nat.zero_le _⟩
  | n, .str x, h => by
    have h : (decide (x.length ≤ 100) && PyData.strOk x) = true := by cases n <;> exact h
    rw [Bool.and_eq_true] at h
    exact ⟨h.2, Nat.zero_le _⟩
  | n + 1, .tuple ds, h => ⟨canAll_of fun d hd => (shB_lay ((shB_tup h).2 d hd)).1, Nat.succ_le_succ (depthAll_le fun d hd => (shB_lay ((shB_tup h).2 d hd)).2)⟩
  | 0, .tuple ds, h => (shB_zero h).elim
  | n, .list _, h => by cases n <;> cases h
  | n, .dict _, h => by cases n <;> cases h
theorem shB_shaped {n : Nat} {d : PyData} (h : shB n d = true) (hn : n ≤ 64) : SeqAt.shaped d = true := by
  obtain ⟨h1, h2⟩ := shB_lay h
  unfold SeqAt.shaped
  rw [h1, decide_eq_true (Nat.le_trans h2 hn)]
  rfl
theorem list_shaped {n : Nat} {ds : List PyData} (h : ∀ d ∈ ds, shB n d = true) (hn : n ≤ 63) : SeqAt.shaped (.list ds) = true := by
  unfold SeqAt.shaped
  rw [show (PyData.list ds).canLay0 = true from canAll_of fun d hd => (shB_lay (h d hd)).1,
    decide_eq_true (Nat.le_trans (Nat.succ_le_succ (depthAll_le fun d hd => (shB_lay (h d hd)).2)) (Nat.succ_le_succ hn) : (PyData.list ds).depth ≤ 64)]
  rfl
theorem shB_mono : ∀ {n : Nat} {m : Nat} {d : PyData}, n ≤ m → shB n d = true → shB m d = true
  | _, m, .none, _, _ => by cases m <;> rfl
  | _, m, .bool _, _, _ => by cases m <;> rfl
  | _, m, .int _, _, _ => by cases m <;> rfl
  | n, m, .str x, _, h => by
    have h : (decide (x.length ≤ 100) && PyData.strOk x) = true := by cases n <;> exact h
    cases m <;> exact h
  | n + 1, m + 1, .tuple ds, l, h => shB_of (shB_tup h).1 fun d hd => shB_mono (Nat.le_of_succ_le_succ l) ((shB_tup h).2 d hd)
  | n + 1, 0, .tuple ds, l, h => absurd l (by omega)
  | 0, _, .tuple ds, _, h => (shB_zero h).elim
  | n, _, .list _, _, h => by cases n <;> cases h
  | n, _, .dict _, _, h => by cases n <;> cases h
mutual
theorem Dd.dp {K : PySem.W.Frag} {H : Hp} : ∀ {n : Nat} {v : V} {d : PyData}, shB n d = true → Dd H v d → Dp K H v d
  | _, _, _, _, .non => .non
  | _, _, _, _, .bl b => .bl b
  | _, _, _, _, .int i => .int i
  | _, _, _, _, .str x => .str x
  | n + 1, _, _, h, .tup e A => .tup (SqT.of e) (DdA.dp (shB_tup h).2 A)
  | 0, _, _, h, .tup e A => (shB_zero h).elim
  | n, _, _, h, .lst _ _ _ => by cases n <;> cases h
  | n, _, _, h, .dic _ => by cases n <;> cases h
theorem DdA.dp {K : PySem.W.Frag} {H : Hp} : ∀ {n : Nat} {vs : List V} {ds : List PyData}, (∀ d ∈ ds, shB n d = true) → DdA H vs ds → DpAll K H vs ds
  | _, _, _, _, .nil => .nil
  | _, _, _, h, .cons a t => .cons (Dd.dp (h _ (List.mem_cons_self ..)) a) (DdA.dp (fun x hx => h x (List.mem_cons_of_mem _ hx)) t)
end
theorem DdA.take {H : Hp} : ∀ {vs : List V} {ds : List PyData} (n : Nat), DdA H vs ds → DdA H (vs.take n) (ds.take n)
  | _, _, 0, _ => by rw [List.take_zero, List.take_zero]; exact .nil
  | _, _, n + 1, .nil => by rw [List.take_nil, List.take_nil]; exact .nil
  | _, _, n + 1, .cons a t => .cons a (t.take n)
theorem DdA.drop {H : Hp} : ∀ {vs : List V} {ds : List PyData} (n : Nat), DdA H vs ds → DdA H (vs.drop n) (ds.drop n)
  | _, _, 0, h => h
  | _, _, n + 1, .nil => by rw [List.drop_nil, List.drop_nil]; exact .nil
  | _, _, n + 1, .cons a t => t.drop n
theorem DdA.rev {H : Hp} : ∀ {vs : List V} {ds : List PyData}, DdA H vs ds → DdA H vs.reverse ds.reverse
  | _, _, .nil => .nil
  | _, _, .cons a t => by
    rw [List.reverse_cons, List.reverse_cons]
    exact t.rev.append (.cons a .nil)
theorem DdA.erase {H : Hp} : ∀ {vs : List V} {ds : List PyData} (n : Nat), DdA H vs ds → DdA H (vs.eraseIdx n) (ds.eraseIdx n)
  | _, _, _, .nil => .nil
  | _, _, 0, .cons _ t => t
  | _, _, n + 1, .cons a t => .cons a (t.erase n)

/-! ### the heap without the well -/
theorem But.del {p : Addr} {H H' : Hp} (b : But p H H') : Same (L2.del H p) (L2.del H' p) := fun a o q => by
  by_cases e : a = p
  · subst e
    rw [del_same] at q
    cases q
  · rw [del_ne e] at q ⊢
    exact b a o e q
theorem del_old {p : Addr} {H : Hp} : Same (L2.del H p) H := fun a o q => by
  by_cases e : a = p
  · subst e
    rw [del_same] at q
    cases q
  · rw [del_ne e] at q
    exact q
theorem Same.but {p : Addr} {H H' : Hp} (s : Same H H') : But p H H' := fun b o _ q => s b o q
theorem Well.some {H : Hp} {p : Addr} (h : Well H p) : H p ≠ none := fun z => by
  obtain ⟨_, _, _, _, e⟩ := h
  rw [e] at z
  cases z
theorem Well.same {H H' : Hp} {p : Addr} (s : Same H H') (h : Well H p) : Well H' p :=
  let ⟨a, m, c, N, e⟩ := h
  ⟨a, m, c, N, s _ _ e⟩
theorem Dd.but {p : Addr} {H H' : Hp} {v : V} {d : PyData} (b : But p H H') (h : Dd (L2.del H p) v d) : Dd (L2.del H' p) v d := h.mono b.del
theorem DdA.but {p : Addr} {H H' : Hp} {v : List V} {d : List PyData} (b : But p H H') (h : DdA (L2.del H p) v d) : DdA (L2.del H' p) v d := h.mono b.del
theorem Dd.all {p : Addr} {H : Hp} {v : V} {d : PyData} (h : Dd (L2.del H p) v d) : Dd H v d := h.mono del_old
theorem DdA.all {p : Addr} {H : Hp} {v : List V} {d : List PyData} (h : DdA (L2.del H p) v d) : DdA H v d := h.mono del_old
theorem news_del {H0 H : Hp} {p : Addr} (n : H0 p ≠ none) : Same (news H0 H) (L2.del H p) := fun b o q => by
  obtain ⟨q1, q2⟩ := news_some.mp q
  rw [del_ne (show b ≠ p from fun z => n (by rw [← z]; exact q1))]
  exact q2
theorem Dd.apart {H0 H : Hp} {p : Addr} {v : V} {d : PyData} (n : H0 p ≠ none) (h : Dd (news H0 H) v d) : Dd (L2.del H p) v d := h.mono (news_del n)
theorem del_new {H : Hp} {p q : Addr} {o : HO} (n : q ≠ p) : L2.del (upd H q o) p q = some o := by rw [del_ne n, upd_same]
theorem new_but {H : Hp} {p q : Addr} {o : HO} (n : H q = none) : But p H (upd H q o) := Same.but (same_new n o)

/-! ### rules whose new list is not the module table -/
section
variable {X : Cx}
def rListN (K : PySem.W.Frag) : List V → Hp → VK → Prop := fun xs H Q => ∃ p ys, xs = [.ref p] ∧ (SqL K H p ys ∨ SqT K H p ys) ∧ ∀ l, H l = none → l ≠ sysModules → Q (.ref l) (upd H l (.lst ys))
theorem call_list_N : CallR X (.type "list") (rListN X.K) := by
  intro pins s σ H xs us Q I r h
  obtain ⟨p, ys, rfl, hq, q⟩ := h
  obtain ⟨u, rfl, rx⟩ := vals1 r
  cases rx
  have fin : ∀ (its : List Value), Vals ys its → ys.length ≤ sizeLine → ∀ (h' : Heap) (c' : Nat), (∀ b o', s.heap.get? b = some o' → h'.get? b = some o') →
      h'.get? s.heap.objs.size = some { cls := .type "list", dict := none, data := .seq its.toArray c', slots := #[] } → EP X pins σ Q (.ref s.heap.objs.size) { s with heap := h' } := fun its r' hz h' c' kp e =>
    ⟨.ref s.heap.objs.size, _, I.laid (t' := s.toks) kp (Nat.le_refl _) (show ObjOk X.prog X.w _ h' _ (.lst ys) from ⟨hz, its, c', r', e⟩), rfl, q _ (I.hok.fresh (Nat.le_refl _)) (Nat.ne_of_gt I.big)⟩
  rcases hq with hq | hq
  · obtain ⟨its, r', pl, hz⟩ := I.list hq
    have hlen := r'.length
    obtain ⟨o, ho, hc, n, hd⟩ := pl.isList
    exact call_list_seq p (.inl rfl) ho hc hd (fun h' c' kp e => fin its r' hz h' c' kp e) (by simp only [List.size_toArray] <;> omega)
  · obtain ⟨its, r', pl, hz⟩ := I.tuple hq
    have hlen := r'.length
    obtain ⟨o, ho, hc, n, hd⟩ := pl
    exact call_list_seq p (.inr rfl) ho hc hd (fun h' c' kp e => fin its r' hz h' c' kp e) (by simp only [List.size_toArray] <;> omega)
def rCatN : R2 := fun x y H Q => ∃ l b xs zs, x = .ref l ∧ y = .ref b ∧ H l = some (.lst xs) ∧ H b = some (.lst zs) ∧ xs.length + zs.length ≤ sizeLine ∧ ∀ p, H p = none → p ≠ sysModules → Q (.ref p) (upd H p (.lst (xs ++ zs)))
theorem op_catN : OpR X (binaryOp .Add) rCatN := by
  intro pins s σ H x y v u Q I rx ry h
  obtain ⟨l, b, xs, zs, rfl, rfl, hH, hB, hz, q⟩ := h
  cases rx
  cases ry
  obtain ⟨z, its, n, r, hl, e⟩ := I.lstM hH
  obtain ⟨z2, its2, n2, r2, hl2, e2⟩ := I.lstM hB
  refine PySem.P.add_list e e2 ?_ (by rw [List.size_toArray, List.size_toArray]; omega)
  have ea : its.toArray ++ its2.toArray = (its ++ its2).toArray := by simp
  rw [ea]
  exact ⟨.ref _, _, I.lnew (t' := s.toks) (r.append r2) (by rw [List.length_append]; omega), rfl, q _ I.fresh (Nat.ne_of_gt I.big)⟩
def tLstN (t : TA) : TE := fun σ H Q => t σ H fun vs H1 => vs.length ≤ sizeLine ∧ ∀ p, H1 p = none → p ≠ sysModules → Q (.ref p) (upd H1 p (.lst vs))
theorem pe_lstN {es : List Expr} {t : TA} {pos : Pos} (h : PA X es t) : PE X (.List es pos) (tLstN t) := by
  constructor
  intro pins s σ H Q I q
  refine wpAny_List_spliced (thn (h.run pos pins s σ H _ I q) ?_)
  rintro us s1 ⟨vs, H1, I1, r, z, k⟩
  have hf : H1 s1.heap.objs.size = none := I1.hok.fresh (Nat.le_refl _)
  exact ⟨by rw [← r.length]; exact z, .ref s1.heap.objs.size, upd H1 s1.heap.objs.size (.lst vs), I1.laid (t' := s1.toks) (fun b u e => Heap.get?_push_of_some _ e) (Nat.le_refl _) ⟨z, us, 0, r, Heap.get?_push_size _ rfl⟩, rfl,
    k _ hf (Nat.ne_of_gt I1.big)⟩
/-- x in t, t a tuple of data -/
def rInDT (K : PySem.W.Frag) : R2 := fun x y H Q => ∃ d ds, Dp K H x d ∧ Dp K H y (.tuple ds) ∧ SeqAt.shaped d = true ∧ SeqAt.shaped (.tuple ds) = true ∧ Q (.bl (ds.any fun z => PyData.eqv z d)) H
theorem op_inDT (hu : X.A.units + 65 < cLine) : OpR X (compareOp .In) (rInDT X.K) := by
  intro pins s σ H x y v u Q I rx ry h
  obtain ⟨d, ds, hd, he, sd, se, q⟩ := h
  obtain ⟨as, r1⟩ := Dp.reads I d x v hd rx
  obtain ⟨bs, r2⟩ := Dp.reads I (.tuple ds) y u he ry
  exact SeqAt.in_tuple_reads r2 r1 (SeqAt.canLay_of_shaped se) (SeqAt.canLay_of_shaped sd) (room_in_shaped sd hu) ⟨.bl _, H, I, rfl, q⟩
theorem size_times (z : Array Nat) : ∀ (m : Nat) (a : Array Nat), ((List.replicate m z).foldl (· ++ ·) a).size = a.size + m * z.size
  | 0, a => by simp
  | m + 1, a => by
    rw [List.replicate_succ, List.foldl_cons, size_times z m (a ++ z), Array.size_append, Nat.add_mul]
    omega
/-- a text times a written number -/
def rMulS : R2 := fun x y H Q => ∃ (z : Str) (n : Int), x = .str z ∧ y = .int n ∧ 2 ≤ n ∧ n ≤ 100 ∧ 1 ≤ z.length ∧ z.length ≤ 100 ∧ Q (.str ⟨(List.replicate n.toNat z.cps).foldl (· ++ ·) #[]⟩) H
theorem op_mulS : OpR X (binaryOp .Mult) rMulS := by
  intro pins s σ H x y v u Q I rx ry h
  obtain ⟨z, n, rfl, rfl, n2, n100, z1, z100, q⟩ := h
  obtain ⟨t, rfl⟩ := rx
  obtain ⟨t', rfl⟩ := ry
  refine PySem.P.mul_str (by rw [decide_eq_false (by omega), decide_eq_false (by omega)]; rfl) (fun _ _ => ?_) (fun _ _ => ?_) ?_
  · have : (2 ^ 63 - 1) / n ≥ 101 := by
      refine Int.le_ediv_of_mul_le (by omega) ?_
      omega
    omega
  · have h1 : z.length * n.toNat ≤ 100 * 100 := Nat.mul_le_mul z100 (by omega)
    unfold Builtin.Str.tooLong
    exact decide_eq_false (by rw [sizeLine_eq]; omega)
  · rw [if_neg (by omega), if_neg (by simp; omega)]
    have h1 : z.length * n.toNat ≤ 100 * 100 := Nat.mul_le_mul z100 (by omega)
    have e : (⟨(List.replicate n.toNat z.cps).foldl (· ++ ·) #[]⟩ : Str).length = n.toNat * z.length := by
      show ((List.replicate n.toNat z.cps).foldl (· ++ ·) #[]).size = _
      rw [size_times]
      simp [Str.length]
    rw [Nat.mul_comm] at h1
    refine ⟨by rw [e, sizeLine_eq]; omega, ⟨.str _, H, I.tok _, ⟨_, rfl⟩, q⟩⟩
end
end Q0

/-! t[::-1] of a tuple; expressions that put data together apart from the well. -/
namespace Q0
open PySem PySem.Spec PyProof.Rows L2 HT
section
variable {prog : Program} {w : World} {A : Around} {E : Value → Shared → Prop} {s : Shared}
theorem adjust_rev (n : Nat) : Builtin.Slice.sliceAdjust none none (-1) (n : Int) = ((n : Int) - 1, -1) := by
  unfold Builtin.Slice.sliceAdjust
  simp
theorem places_rev (n : Nat) : Builtin.Slice.slicePlaces ((n : Int) - 1) (-1) (-1) = n := by
  unfold Builtin.Slice.slicePlaces
  have h1 : ¬ ((-1 : Int) > 0) := by omega
  simp only [h1, if_false]
  by_cases h : (n : Int) - 1 > -1
  · rw [if_pos h, show (-(-1) : Int) = 1 by decide, Int.ediv_one]
    omega
  · rw [if_neg h]
    omega
theorem sliceApplied_rev {sl : Addr} {vs : Value} {n : Nat} {Q : Int × Int × Nat → Shared → Prop} (hs : s.heap.IsSliceOf sl .none .none vs) (ps : IsPart vs (some (-1)))
    (h : Q ((n : Int) - 1, -1, n) s) : wpAny (model prog w) A (Builtin.Slice.sliceApplied (.ref sl) (pure (n : Int))) Q E s := by
  obtain ⟨os, hos, hcs, hds⟩ := id hs
  unfold Builtin.Slice.sliceApplied Builtin.Slice.sliceFields
  refine wpAny_bind (wpAny_bind (wpAny_field hos hds (x := .none) rfl (wpAny_bind (wpAny_field hos hds (x := .none) rfl (wpAny_bind (wpAny_field hos hds (x := vs) rfl (wpAny_pure ?_)))))))
  refine wpAny_bind (slicePart_ ps ?_)
  show wpAny _ _ (if ((-1 : Int) == 0) = true then _ else _) _ _ s
  rw [if_neg (by decide)]
  refine wpAny_bind (slicePart_none (wpAny_bind (slicePart_none (wpAny_bind (wpAny_pure ?_)))))
  show wpAny _ _ (match Builtin.Slice.sliceAdjust none none (-1) (n : Int) with | (lo, hi) => pure (lo, (-1 : Int), Builtin.Slice.slicePlaces lo hi (-1))) _ _ s
  rw [adjust_rev n]
  show wpAny _ _ (pure ((n : Int) - 1, (-1 : Int), Builtin.Slice.slicePlaces ((n : Int) - 1) (-1) (-1))) _ _ s
  rw [places_rev]
  exact wpAny_pure h
theorem pick_rev (xs : Array Value) : ((List.range xs.size).filterMap fun (k : Nat) => xs[(((xs.size : Int) - 1) + (k : Int) * (-1)).toNat]?) = xs.toList.reverse := by
  have e : (fun (k : Nat) => xs[(((xs.size : Int) - 1) + (k : Int) * (-1)).toNat]?) = fun k => (fun j => xs[j]?) (xs.size - 1 - k) := by
    funext k
    have : (((xs.size : Int) - 1) + (k : Int) * (-1)).toNat = xs.size - 1 - k := by omega
    rw [this]
  rw [e]
  have := PySem.W.krv_all xs
  have e2 : (List.range xs.size).filterMap (fun k => (fun j => xs[j]?) (xs.size - 1 - k)) = ((List.range xs.size).map fun k => xs.size - 1 - k).filterMap (fun j => xs[j]?) := by
    rw [List.filterMap_map] <;> rfl
  rw [e2, PySem.W.krv_range, List.filterMap_reverse, PySem.W.krv_all]
theorem getItem_tuple_rev {t sl : Addr} {items : Array Value} {vs : Value} {Q : Value → Shared → Prop} (ht : IsTup s.heap t items) (hs : s.heap.IsSliceOf sl .none .none vs) (ps : IsPart vs (some (-1)))
    (h : Q (.ref s.heap.objs.size) { s with heap := s.heap.push { cls := .type "tuple", data := .seq items.toList.reverse.toArray } })
    (hsz : items.size ≤ sizeLine) : wpAny (model prog w) A (getItem (.ref t) (.ref sl)) Q E s := by
  have htake : sizeOk (.seq items.toList.reverse.toArray) := by
    show items.toList.reverse.toArray.size ≤ sizeLine
    rw [List.size_toArray, List.length_reverse, Array.length_toList]
    exact hsz
  obtain ⟨os, hos, hcs, hds⟩ := id hs
  have hTs : s.TypeIs (.ref sl) "slice" := ⟨os, hos, hcs⟩
  unfold getItem
  try with_reducible refine wpAny_holding ?_
  first | refine wpAny_bind (wpAny_pure ?_) | skip
  refine wpAny_bind (wpAny_sequenceKey ht.typeIs (by decide) ?_)
  refine wpAny_bind (wpAny_callSpecial?_slot (name := Str.ofString "__getitem__") ht.typeIs PyProof.Rows.slot_tuple_getitem
    (wpAny_call_entry PyProof.Rows.slot_tuple_getitem ht.typeIs entry_tuple_getitem ?_ (args_tuple_getitem _ _)))
  show wpAny _ _ (Builtin.Tuple.tupleItemsOf (.ref t) >>= _) _ _ s
  refine wpAny_bind (tupleItemsOf_ ht ?_)
  refine wpAny_bind (wpAny_typeOf hTs ?_)
  rw [if_pos (by decide)]
  refine wpAny_bind (sliceApplied_rev hs ps ?_)
  have hno : ¬ ((((items.size : Int) - 1) == 0 && (-1 : Int) == 1 && items.size == items.size) = true) := by
    intro q
    rw [Bool.and_eq_true, Bool.and_eq_true] at q
    exact absurd q.1.2 (by decide)
  show wpAny _ _ (if (((items.size : Int) - 1) == 0 && (-1 : Int) == 1 && items.size == items.size) = true then _ else _) _ _ s
  rw [if_neg hno, pick_rev]
  first
    | exact wpAny_bind (m := Builtin.Tuple.tupleExact _) (wpAny_newObj_type (wpAny_pure ⟨_, rfl, wpAny_pure h⟩) htake)
    | exact wpAny_bind (m := Builtin.Tuple.tupleExact _) (wpAny_newObj_type (wpAny_bind (wpAny_pure (wpAny_pure ⟨_, rfl, wpAny_pure h⟩))) htake)
    | exact wpAny_bind (wpAny_bind (m := Builtin.Tuple.tupleExact _) (wpAny_newObj_type (wpAny_pure (wpAny_pure ⟨_, rfl, wpAny_pure h⟩)) htake))
    | exact wpAny_bind (wpAny_bind (m := Builtin.Tuple.tupleExact _) (wpAny_newObj_type (wpAny_pure ⟨_, rfl, wpAny_pure h⟩) htake))
end
section
variable {X : Cx}
def tRevT (K : PySem.W.Frag) (te : TE) : TE := fun σ H Q => te σ H fun x H1 => ∃ a xs, x = .ref a ∧ SqT K H1 a xs ∧ ∀ p, H1 p = none → Q (.ref p) (upd H1 p (.tup xs.reverse))
theorem pe_revT {e : Expr} {te : TE} {k : Nat} {p1 p2 p3 pos : Pos} (he : PE X e te) : PE X (.Subscript e (.Slice none none (some (.UnaryOp .USub (.Constant (.int 1) k p1) p2)) p3) pos) (tRevT X.K te) := by
  refine ⟨fun pins s σ H Q I h => ?_⟩
  refine Subscript_ (thn (he.run pins s σ H _ I h) fun v s1 ⟨x, H1, I1, r1, q1⟩ => ?_)
  obtain ⟨a, xs, ex, hx, q⟩ := q1
  subst ex
  cases r1
  have hst : PO X (some (.UnaryOp .USub (.Constant (.int 1) k p1) p2)) (tPart (tUn (rU fun i => .int (-i)) (tC (.int 1)))) := po_some (pe_un un_neg pe_int)
  refine wpAny_Slice (thn (po_none.run pins s1 σ H1 (fun o H2 => o = none ∧ H2 = H1) I1 ⟨rfl, rfl⟩) fun vl s2 ⟨l, H2, I2, pl, el, e2⟩ => ?_)
  subst el e2
  refine thn (po_none.run pins s2 σ H2 (fun o H3 => o = none ∧ H3 = H2) I2 ⟨rfl, rfl⟩) fun vu s3 ⟨u, H3, I3, pu, eu, e3⟩ => ?_
  subst eu e3
  refine thn (hst.run pins s3 σ H3 (fun o H4 => o = some (-1) ∧ H4 = H3) I3 ⟨1, rfl, -1, rfl, rfl, rfl⟩) fun vs s4 ⟨o, H4, I4, ps, eo, e4⟩ => ?_
  subst eo e4
  have I5 : Inv X pins σ H4 { s4 with heap := s4.heap.push { cls := .type "slice", data := .fields #[vl, vu, vs] } } := I4.kept (t' := s4.toks) fun b ob q => Heap.get?_push_of_some _ q
  obtain ⟨its, r, ht, hz⟩ := I5.tuple hx
  have hlen := r.length
  cases pl
  cases pu
  show wpAny (model X.prog X.w) X.A (subscriptTail e (.Slice none none (some (.UnaryOp .USub (.Constant (.int 1) k p1) p2)) p3) (.ref a) (.ref s4.heap.objs.size)) (EP X pins σ Q) X.xe { s4 with heap := s4.heap.push { cls := .type "slice", data := .fields #[.none, .none, vs] } }
  refine tail_any (ops := [.ref a, .ref s4.heap.objs.size]) ht.typeIs (PyProof.Rows.slot_tuple_getitem.lookup) ?_ (by with_unfolding_all rfl)
  refine getItem_tuple_rev ht (Heap.IsSliceOf.new _ .none .none vs) ps ?_ (by rw [List.size_toArray]; omega)
  refine ⟨.ref _, _, I5.laid (t' := s4.toks) (o := .tup xs.reverse) (fun b ob q => Heap.get?_push_of_some _ q) (Nat.le_refl _) ?_, rfl, q _ (I5.hok.fresh (Nat.le_refl _))⟩
  exact ⟨by rw [List.length_reverse]; exact hz, _, r.reverse, IsTup.new _ _⟩
end

/-! ### expressions that give data apart from the well at p -/
def isTo (n : Nat) (d : PyData) : Prop := ∃ ds, d = .tuple ds ∧ ds.length ≤ n ∧ ∀ x ∈ ds, okT x = true
def isLo (n : Nat) (d : PyData) : Prop := ∃ ds, d = .list ds ∧ ds.length ≤ n ∧ ∀ x ∈ ds, okT x = true
def isOk (d : PyData) : Prop := okT d = true
theorem isTo.ok {n : Nat} {d : PyData} (h : isTo n d) : isOk d := by
  obtain ⟨ds, rfl, _, h⟩ := h
  exact okTs_of h
theorem isLo.ok {n : Nat} {d : PyData} (h : isLo n d) : isOk d := by
  obtain ⟨ds, rfl, _, h⟩ := h
  exact okTs_of h
/-- what a reading wants ahead, and keeps while only the well moves -/
def Stb (p : Addr) (pre : L2.St → Hp → Prop) : Prop := ∀ σ H H', But p H H' → pre σ H → pre σ H'
def wV (p : Addr) (i : Nat) (P : PyData → Prop) : L2.St → Hp → Prop := fun σ H => ∃ v d, σ[i]? = some (some v) ∧ Dd (L2.del H p) v d ∧ P d
def wI (i : Nat) : L2.St → Hp → Prop := fun σ _ => ∃ n : Nat, σ[i]? = some (some (.int n))
def wP (p : Addr) (i : Nat) : L2.St → Hp → Prop := fun σ _ => σ[i]? = some (some (.ref p))
theorem stb_T {p : Addr} : Stb p pT := fun _ _ _ _ h => h
theorem stb_V {p : Addr} {i : Nat} {P : PyData → Prop} : Stb p (wV p i P) := fun _ _ _ s ⟨v, d, h1, h2, h3⟩ => ⟨v, d, h1, h2.but s, h3⟩
theorem stb_I {p : Addr} {i : Nat} : Stb p (wI i) := fun _ _ _ _ h => h
theorem stb_P {p : Addr} {i : Nat} : Stb p (wP p i) := fun _ _ _ _ h => h
theorem stb_and {p : Addr} {a b : L2.St → Hp → Prop} (ha : Stb p a) (hb : Stb p b) : Stb p (pAnd a b) := fun σ H H' s ⟨h1, h2⟩ => ⟨ha σ H H' s h1, hb σ H H' s h2⟩
def tW (p : Addr) (pre : L2.St → Hp → Prop) (P : PyData → Prop) : TE := fun σ H Q => Well H p ∧ pre σ H ∧ ∀ v d H', Well H' p → But p H H' → Dd (L2.del H' p) v d → P d → Q v H'
def tWs (p : Addr) (pre : L2.St → Hp → Prop) (n : Nat) : TA := fun σ H Q => Well H p ∧ pre σ H ∧ ∀ vs ds H', Well H' p → But p H H' → DdA (L2.del H' p) vs ds → ds.length = n → (∀ d ∈ ds, okT d = true) → Q vs H'
section
variable {X : Cx} {e e2 : Expr} {es : List Expr} {p : Addr} {p1 p2 p3 : L2.St → Hp → Prop} {P P' : PyData → Prop} {pos pos2 : Pos} {n m : Nat} {d : PyData}
theorem dw_imp (h : PE X e (tW p p1 P)) (i : ∀ d, P d → P' d) : PE X e (tW p p1 P') := pe_imp h fun σ H Q ⟨a, b, k⟩ => ⟨a, b, fun v d H' w bt hd pd => k v d H' w bt hd (i d pd)⟩
theorem dw_ok (h : PE X e (tW p p1 (isTo n))) : PE X e (tW p p1 isOk) := dw_imp h fun _ q => q.ok
theorem dw_okL (h : PE X e (tW p p1 (isLo n))) : PE X e (tW p p1 isOk) := dw_imp h fun _ q => q.ok
theorem dw_c {p0 : L2.St → Hp → Prop} (h : ∀ H0, PE X e (tD H0 p0 d)) (hpre : ∀ σ H, p0 σ H) (hp : P d) : PE X e (tW p pT P) := ⟨fun pins s σ H Q I ⟨w, _, k⟩ => (h H).run pins s σ H Q I ⟨Bs.refl, hpre σ H, fun v H' s dd => k v d H' (w.same s) (Same.but s) (dd.apart w.some) hp⟩⟩
theorem dw_var {i : Nat} (h : PE X e (tVar i)) : PE X e (tW p (wV p i P) P) := pe_imp h fun σ H Q ⟨w, ⟨v, d, h1, h2, h3⟩, k⟩ => ⟨v, h1, k v d H w But.refl h2 h3⟩
theorem dws_nil : PA X [] (tWs p pT 0) := ⟨fun pos pins s σ H Q I ⟨w, _, k⟩ => pa_nil.run pos pins s σ H Q I (k [] [] H w But.refl .nil rfl fun _ z => (nomatch z))⟩
theorem dws_cons (st : Stb p p2) (h : PE X e (tW p p1 isOk)) (hs : PA X es (tWs p p2 n)) (he : starEach (e :: es) X.env = (false, eval e X.env) :: starEach es X.env := by rfl) : PA X (e :: es) (tWs p (pAnd p1 p2) (n + 1)) :=
  ⟨fun pos pins s σ H Q I ⟨w, ⟨q1, q2⟩, k⟩ => (pa_cons h hs he).run pos pins s σ H Q I
    (show tW p p1 isOk σ H _ from ⟨w, q1, fun v d H1 w1 b1 h1 o1 => show tWs p p2 n σ H1 _ from ⟨w1, st σ H H1 b1 q2, fun vs ds H2 w2 b2 h2 l2 o2 => k _ _ H2 w2 (b1.trans b2) (.cons (h1.but b2) h2) (congrArg Nat.succ l2) fun x hx => (List.mem_cons.mp hx).elim (fun z => z ▸ o1) (o2 x)⟩⟩)⟩
theorem dw_tup {k} (h : PA X es (tWs p p1 n)) (hl : n ≤ sizeLine := by first | decide | (rw [sizeLine_eq]; decide)) : PE X (.Tuple es k pos) (tW p p1 (isTo n)) :=
  pe_imp (pe_tup h) fun σ H Q ⟨w, q, k⟩ => show tWs p p1 n σ H _ from ⟨w, q, fun vs ds H1 w1 b1 h1 l1 o1 => ⟨by rw [h1.length, l1]; exact hl, fun q hq => k _ _ _ (w1.new hq) (b1.trans (new_but hq))
    (.tup (del_new (w1.ne hq).symm) (h1.mono (new_but hq).del)) ⟨ds, rfl, by omega, o1⟩⟩⟩
theorem dw_lst (h : PA X es (tWs p p1 n)) (hl : n ≤ sizeLine := by first | decide | (rw [sizeLine_eq]; decide)) : PE X (.List es pos) (tW p p1 (isLo n)) :=
  pe_imp (pe_lstN h) fun σ H Q ⟨w, q, k⟩ => show tWs p p1 n σ H _ from ⟨w, q, fun vs ds H1 w1 b1 h1 l1 o1 => ⟨by rw [h1.length, l1]; exact hl, fun q hq hs => k _ _ _ (w1.new hq) (b1.trans (new_but hq))
    (.lst (del_new (w1.ne hq).symm) hs (h1.mono (new_but hq).del)) ⟨ds, rfl, by omega, o1⟩⟩⟩
theorem dw_cat (st : Stb p p2) (h : PE X e (tW p p1 (isTo n))) (h2 : PE X e2 (tW p p2 (isTo m))) (hl : n + m ≤ 100000 := by decide) : PE X (.BinOp e .Add e2 pos) (tW p (pAnd p1 p2) (isTo (n + m))) := by
  refine pe_imp (pe_op op_catA h h2) fun σ H Q ⟨w, ⟨q1, q2⟩, k⟩ => ?_
  refine ⟨w, q1, fun v d H1 w1 b1 hd pd => ⟨w1, st σ H H1 b1 q2, fun v2 d2 H2 w2 b2 hd2 pd2 => ?_⟩⟩
  obtain ⟨ds, rfl, l1, o1⟩ := pd
  obtain ⟨es, rfl, l2, o2⟩ := pd2
  obtain ⟨a, xs, rfl, ha, A⟩ := (hd.but b2).tupD
  obtain ⟨b, ys, rfl, hb, B⟩ := hd2.tupD
  have la := A.length
  have lb := B.length
  have oo : ∀ x ∈ ds ++ es, okT x = true := fun x hx => (List.mem_append.mp hx).elim (o1 x) (o2 x)
  refine ⟨a, b, xs, ys, rfl, rfl, SqT.of (del_old _ _ ha), SqT.of (del_old _ _ hb), by rw [sizeLine_eq]; omega, fun z => ?_, fun _ z => ?_, fun _ _ q hq => ?_⟩
  · exact k _ _ _ w2 (b1.trans b2) hd2 ⟨es, rfl, by omega, o2⟩
  · exact k _ _ _ w2 (b1.trans b2) (hd.but b2) ⟨ds, rfl, by omega, o1⟩
  · exact k _ _ _ (w2.new hq) ((b1.trans b2).trans (new_but hq)) (.tup (del_new (w2.ne hq).symm) ((A.append B).mono (new_but hq).del)) ⟨_, rfl, by rw [List.length_append]; omega, oo⟩
theorem dw_catL (st : Stb p p2) (h : PE X e (tW p p1 (isLo n))) (h2 : PE X e2 (tW p p2 (isLo m))) (hl : n + m ≤ 100000 := by decide) : PE X (.BinOp e .Add e2 pos) (tW p (pAnd p1 p2) (isLo (n + m))) := by
  refine pe_imp (pe_op op_catN h h2) fun σ H Q ⟨w, ⟨q1, q2⟩, k⟩ => ?_
  refine ⟨w, q1, fun v d H1 w1 b1 hd pd => ⟨w1, st σ H H1 b1 q2, fun v2 d2 H2 w2 b2 hd2 pd2 => ?_⟩⟩
  obtain ⟨ds, rfl, l1, o1⟩ := pd
  obtain ⟨es, rfl, l2, o2⟩ := pd2
  obtain ⟨a, xs, rfl, ha, A⟩ := (hd.but b2).lstD
  obtain ⟨b, ys, rfl, hb, B⟩ := hd2.lstD
  have la := A.length
  have lb := B.length
  have oo : ∀ x ∈ ds ++ es, okT x = true := fun x hx => (List.mem_append.mp hx).elim (o1 x) (o2 x)
  refine ⟨a, b, xs, ys, rfl, rfl, del_old _ _ ha, del_old _ _ hb, by rw [sizeLine_eq]; omega, fun q hq hs => ?_⟩
  exact k _ _ _ (w2.new hq) ((b1.trans b2).trans (new_but hq)) (.lst (del_new (w2.ne hq).symm) hs ((A.append B).mono (new_but hq).del)) ⟨_, rfl, by rw [List.length_append]; omega, oo⟩
/-- list(t) -/
theorem dw_list {lp : Pos} (hm : X.mg "list" = none) (h : PE X e (tW p p1 (isTo n))) (hg : Gl X "list" := by rfl) (he : starEach [e] X.env = (false, eval e X.env) :: starEach [] X.env := by rfl)
    (hpl : (backTo pos (starEach [] X.env)).any (·.1) = false := by rfl) : PE X (.Call (.Name "list" lp) [e] [] pos) (tW p p1 (isLo n)) := by
  refine pe_imp (pe_callTy call_list_N hg hm (by decide +kernel) (pa_cons h pa_nil he) (by decide) (by decide) he hpl) fun σ H Q ⟨w, q1, k⟩ => ?_
  refine ⟨w, q1, fun v d H1 w1 b1 hd pd => ?_⟩
  obtain ⟨ds, rfl, l1, o1⟩ := pd
  obtain ⟨a, xs, rfl, ha, A⟩ := hd.tupD
  refine ⟨a, xs, rfl, .inr (SqT.of (del_old _ _ ha)), fun q hq hs => ?_⟩
  exact k _ _ _ (w1.new hq) (b1.trans (new_but hq)) (.lst (del_new (w1.ne hq).symm) hs (A.mono (new_but hq).del)) ⟨_, rfl, l1, o1⟩
theorem cut_dd {H : Hp} {xs : List V} {ds : List PyData} (A : DdA H xs ds) (lo hi : Option Int) : ∃ es, DdA H (cutV xs lo hi) es ∧ es.length ≤ ds.length ∧ ∀ x ∈ es, x ∈ ds := by
  refine ⟨_, (A.drop (HT.sIx xs.length 0 lo)).take (HT.sIx xs.length xs.length hi - HT.sIx xs.length 0 lo), ?_, fun x hx => List.mem_of_mem_drop (List.mem_of_mem_take hx)⟩
  rw [List.length_take, List.length_drop]
  omega
/-- t[lo:hi] -/
theorem dw_cut {lo hi : Option Expr} {tl th : TO} (h : PE X e (tW p p1 (isTo n))) (hl : PO X lo tl) (hh : PO X hi th) (jl : ∀ σ H (Q : Option Int → Hp → Prop), p2 σ H → (∀ o, Q o H) → tl σ H Q) (jh : ∀ σ H (Q : Option Int → Hp → Prop), p2 σ H → (∀ o, Q o H) → th σ H Q) (st : Stb p p2) :
    PE X (.Subscript e (.Slice lo hi none pos2) pos) (tW p (pAnd p1 p2) (isTo n)) := by
  refine pe_imp (pe_slice sl_tupA h hl hh) fun σ H Q ⟨w, ⟨q1, q2⟩, k⟩ => ?_
  refine ⟨w, q1, fun v d H1 w1 b1 hd pd => ?_⟩
  have q3 := st σ H H1 b1 q2
  refine jl σ H1 _ q3 fun l => jh σ H1 _ q3 fun u => ?_
  obtain ⟨ds, rfl, l1, o1⟩ := pd
  obtain ⟨a, xs, rfl, ha, A⟩ := hd.tupD
  refine ⟨a, xs, rfl, SqT.of (del_old _ _ ha), fun _ => k _ _ _ w1 b1 hd ⟨ds, rfl, l1, o1⟩, fun _ q hq => ?_⟩
  obtain ⟨es, E, le, me⟩ := cut_dd A l u
  exact k _ _ _ (w1.new hq) (b1.trans (new_but hq)) (.tup (del_new (w1.ne hq).symm) (E.mono (new_but hq).del)) ⟨es, rfl, by omega, fun x hx => o1 x (me x hx)⟩
/-- (x,) * 4 -/
theorem dw_rep {k : Int} {j : Nat} {cp tp : Pos} {kk} (h : PE X e (tW p p1 isOk)) (h2 : 2 ≤ k := by decide) (h3 : k ≤ 1000 := by decide) (he : starEach [e] X.env = (false, eval e X.env) :: starEach [] X.env := by rfl) :
    PE X (.BinOp (.Tuple [e] kk tp) .Mult (.Constant (.int k) j cp) pos) (tW p p1 (isTo k.toNat)) := by
  refine pe_imp (pe_op op_repT (pe_tup (pa_cons h pa_nil he)) pe_int) fun σ H Q ⟨w, q1, k0⟩ => ?_
  refine ⟨w, q1, fun v d H1 w1 b1 hd pd => ⟨by show 1 ≤ sizeLine; rw [sizeLine_eq]; decide, fun q hq => ?_⟩⟩
  have hd2 := hd.mono (new_but (p := p) (o := .tup [v]) hq).del
  refine ⟨q, k, [v], rfl, rfl, SqT.of upd_same, fun z => (nomatch z), h2, h3, by show 1 ≤ 1000; decide, fun r hr => ?_⟩
  have w2 := w1.new (o := .tup [v]) hq
  have e1 : (List.replicate k.toNat [v]).flatten = List.replicate k.toNat v := by
    generalize k.toNat = n
    induction n with
    | zero => rfl
    | succ n ih => rw [List.replicate_succ, List.flatten_cons, ih]; rfl
  have A : ∀ n, DdA (L2.del (upd (upd H1 q (.tup [v])) r (.tup (List.replicate k.toNat [v]).flatten)) p) (List.replicate n v) (List.replicate n d) := fun n => by
    induction n with
    | zero => exact .nil
    | succ n ih => exact .cons (hd2.mono (new_but (p := p) hr).del) ih
  refine k0 _ _ _ (w2.new hr) ((b1.trans (new_but hq)).trans (new_but hr)) (.tup (del_new (w2.ne hr).symm) (by rw [e1]; exact e1 ▸ A k.toNat)) ⟨_, rfl, by rw [List.length_replicate]; exact Nat.le_refl _, fun x hx => ?_⟩
  rw [(List.mem_replicate.mp hx).2]
  exact pd
end
end Q0

/-! More of the same: what is made of ints and texts; one of a displayed tuple; ways that meet again. -/
namespace Q0
open PySem PySem.Spec PyProof.Rows L2
theorem seq_nx {a b : TS} {D : Ends} {σ : L2.St} {H : Hp} (I : L2.St → Hp → Prop) (hI : ∀ σ H, I σ H → b D σ H) (h : ∀ N : L2.St → Hp → Prop, (∀ σ H, I σ H → N σ H) → a { D with nx := N } σ H) : tSeq a b D σ H := h _ hI
theorem shB_isTo {n : Nat} {ds : List PyData} (h : shB n (.tuple ds) = true) : isTo 1000 (.tuple ds) := by
  cases n with
  | zero => exact (shB_zero h).elim
  | succ n =>
    obtain ⟨h1, h2⟩ := shB_tup h
    exact ⟨ds, rfl, h1, fun d hd => shB_ok (h2 d hd)⟩
def wZ (i : Nat) : L2.St → Hp → Prop := fun σ _ => ∃ k : Int, σ[i]? = some (some (.int k))
def wS (i : Nat) : L2.St → Hp → Prop := fun σ _ => ∃ x : Str, σ[i]? = some (some (.str x)) ∧ x.length ≤ 100
def wK (i n : Nat) : L2.St → Hp → Prop := fun σ _ => ∃ k : Int, σ[i]? = some (some (.int k)) ∧ 0 ≤ k ∧ k < n
theorem stb_Z {p : Addr} {i : Nat} : Stb p (wZ i) := fun _ _ _ _ h => h
theorem stb_S {p : Addr} {i : Nat} : Stb p (wS i) := fun _ _ _ _ h => h
theorem stb_K {p : Addr} {i n : Nat} : Stb p (wK i n) := fun _ _ _ _ h => h
section
variable {X : Cx} {e e2 : Expr} {es : List Expr} {p : Addr} {p1 p2 p3 : L2.St → Hp → Prop} {P P' : PyData → Prop} {pos pos2 : Pos} {n m : Nat} {d : PyData} {t : TE} {ts : TA}
theorem dw_of (h : PE X e t) (i : ∀ σ H (Q : VK), Well H p → p1 σ H → (∀ v d H', Well H' p → But p H H' → Dd (L2.del H' p) v d → P d → Q v H') → t σ H Q) : PE X e (tW p p1 P) := pe_imp h fun σ H Q ⟨w, q, k⟩ => i σ H Q w q k
theorem dw_str {x : Str} {j : Nat} (h : okT (.str x) = true := by decide +kernel) : PE X (.Constant (.str x) j pos) (tW p pT isOk) := dw_of pe_str fun σ H Q w _ k => k _ (.str x) H w But.refl (.str x) h
theorem dw_int {x : Int} {j : Nat} : PE X (.Constant (.int x) j pos) (tW p pT isOk) := dw_of pe_int fun σ H Q w _ k => k _ (.int x) H w But.refl (.int x) rfl
theorem dw_non {j : Nat} : PE X (.Constant .none j pos) (tW p pT isOk) := dw_of pe_non fun σ H Q w _ k => k _ .none H w But.refl .non rfl
/-- (..)[k] -/
theorem dw_pick {i : Nat} {kk} (h : PA X es (tWs p p1 n)) (hi : PE X e2 (tVar i)) (hp : PlainIx e2) (hl : n ≤ sizeLine := by first | decide | (rw [sizeLine_eq]; decide)) : PE X (.Subscript (.Tuple es kk pos) e2 pos2) (tW p (pAnd p1 (wK i n)) isOk) := by
  refine pe_imp (pe_ix ix_tup (pe_tup h) hi hp) fun σ H Q ⟨w, ⟨q1, q2⟩, k⟩ => ?_
  refine ⟨w, q1, fun vs ds H1 w1 b1 h1 l1 o1 => ⟨by rw [h1.length, l1]; exact hl, fun q hq => ?_⟩⟩
  obtain ⟨j, ej, j0, jn⟩ := q2
  have lv : vs.length = n := by rw [h1.length, l1]
  have hj : j.toNat < vs.length := by omega
  obtain ⟨d, ed, hd⟩ := h1.get (List.getElem?_eq_getElem hj)
  have e : j = ((j.toNat : Nat) : Int) := by omega
  have ea : atI vs ((j.toNat : Nat) : Int) = some vs[j.toNat] := atI_nat (List.getElem?_eq_getElem hj)
  rw [← e] at ea
  exact ⟨_, ej, q, vs, j, _, rfl, rfl, SqT.of upd_same, ea, k _ d _ (w1.new hq) (b1.trans (new_but hq)) (hd.but (new_but hq)) (o1 d (List.mem_of_getElem? ed))⟩
/-- t[::-1] -/
theorem dw_rev {k : Nat} {q1 q2 q3 : Pos} (h : PE X e (tW p p1 (isTo n))) : PE X (.Subscript e (.Slice none none (some (.UnaryOp .USub (.Constant (.int 1) k q1) q2)) q3) pos) (tW p p1 (isTo n)) := by
  refine pe_imp (pe_revT h) fun σ H Q ⟨w, q1, k⟩ => ?_
  refine ⟨w, q1, fun v d H1 w1 b1 hd pd => ?_⟩
  obtain ⟨ds, rfl, l1, o1⟩ := pd
  obtain ⟨a, xs, rfl, ha, A⟩ := hd.tupD
  refine ⟨a, xs, rfl, SqT.of (del_old _ _ ha), fun q hq => ?_⟩
  exact k _ _ _ (w1.new hq) (b1.trans (new_but hq)) (.tup (del_new (w1.ne hq).symm) (A.rev.mono (new_but hq).del)) ⟨_, rfl, by rw [List.length_reverse]; exact l1, fun x hx => o1 x (List.mem_reverse.mp hx)⟩
/-- a written text, several times -/
theorem dw_times {x : Str} {k : Int} {j j2 : Nat} {q1 q2 : Pos} (h2 : 2 ≤ k := by decide) (h3 : k ≤ 100 := by decide) (h4 : 1 ≤ x.length := by decide) (h5 : x.length ≤ 100 := by decide) : PE X (.BinOp (.Constant (.str x) j q1) .Mult (.Constant (.int k) j2 q2) pos) (tW p pT isOk) :=
  dw_of (pe_op op_mulS pe_str pe_int) fun σ H Q w _ kk => ⟨x, k, rfl, rfl, h2, h3, h4, h5, kk _ _ H w But.refl (.str _) (decide_eq_true (by
    have e : (⟨(List.replicate k.toNat x.cps).foldl (· ++ ·) #[]⟩ : Str).length = k.toNat * x.length := by
      show ((List.replicate k.toNat x.cps).foldl (· ++ ·) #[]).size = _
      rw [size_times]
      simp [Str.length]
    have h1 : k.toNat * x.length ≤ 100 * 100 := Nat.mul_le_mul (by omega) h5
    rw [e]
    omega))⟩
end
end Q0

/-! list(zip(a, b)), a and b lists or tuples. -/
namespace Q0
open PySem PySem.Spec PyProof.Rows L2
section
variable {prog : Program} {w : World} {A : Around} {E : Value → Shared → Prop} {s : Shared} {z TI TO i1 i2 T : Addr} {f : Bool} {oT : Obj} {fp1 fp2 : List Addr} {n1 n2 i : Nat} {P1 P2 : Nat → Value → Prop} {St1 St2 : Nat → Heap → Prop}
/-- next of a zip, the pair that it gave last being about -/
theorem zh_item {Q : Value → Shared → Prop} (S : ZipSep2 z TI TO i1 i2 fp1 fp2) (D1 : Draws prog w A i1 fp1 n1 P1 St1) (D2 : Draws prog w A i2 fp2 n2 P2 St2) (hz : IsZipHeld s.heap z TI TO T f) (hT : s.heap.get? T = some oT)
    (hI : IsTupOf2 s.heap TI (.ref i1) (.ref i2)) (st1 : St1 i s.heap) (st2 : St2 i s.heap) (l1 : i < n1) (l2 : i < n2)
    (q : ∀ x y h' tk, P1 i x → P2 i y → IsZipHeld h' z TI TO T true → St1 (i + 1) h' → St2 (i + 1) h' → IsTupOf2 h' s.heap.objs.size x y → h'.objs.size = s.heap.objs.size + 1 →
      (∀ c o, c ≠ z → c ≠ i1 → c ≠ i2 → s.heap.get? c = some o → h'.get? c = some o) → Q (.ref s.heap.objs.size) { s with heap := h', toks := tk }) :
    wpAny (model prog w) A (Builtin.«zip.__next__» ⟨[.ref z], []⟩) (fun fin s' => ∃ v, fin = .done (.ret v) ∧ Q v s') E s := by
  obtain ⟨hp, g, d, tk0, os⟩ := s
  show wpAny _ _ (field (.ref z) 2 >>= _) _ _ _
  refine wpAny_bind (wpAny_field hz rfl (x := .bool false) rfl ?_)
  show wpAny _ _ (field (.ref z) 3 >>= _) _ _ _
  refine wpAny_bind (wpAny_field hz rfl (x := .ref TI) rfl ?_)
  refine wpAny_bind (wpAny_seqItems hI rfl ?_)
  show wpAny _ _ (Builtin.SmallTypes.ownedTupleIsFree (.ref z) >>= _) _ _ _
  refine wpAny_bind (wpAny_tupleHeld_zip hz hT fun g0 z0 s0 => ?_)
  replace s0 : Heap.SameBut z hp g0 := s0
  simp only [Bool.false_eq_true, if_false]
  refine wpAny_bind ?_
  rw [← Array.forIn_toList]
  simp only [List.forIn_cons, List.forIn_nil]
  refine wpAny_bind (wpAny_bind (wpAny_holding ?_))
  show wpAny _ _ (Builtin.SmallTypes.nextOf (.ref i1) >>= _) _ _ ⟨g0, g, d, tk0, os⟩
  refine wpAny_bind (D1.item i _ _ _ l1 (D1.over st1 s0 S.zf1) fun x g1 tk1 px e1 s1 => wpAny_pure (wpAny_pure ?_))
  replace s1 : Heap.SameBut i1 g0 g1 := s1
  refine wpAny_bind (wpAny_bind (wpAny_holding ?_))
  show wpAny _ _ (Builtin.SmallTypes.nextOf (.ref i2) >>= _) _ _ ⟨g1, g, d, tk1, os⟩
  refine wpAny_bind (D2.item i _ _ _ l2 (D2.over (D2.over st2 s0 S.zf2) s1 S.sep1_2) fun y g2 tk2 py e2 s2 => wpAny_pure (wpAny_pure (wpAny_pure ?_)))
  replace s2 : Heap.SameBut i2 g1 g2 := s2
  show wpAny _ _ (newTuple [x, y] >>= _) _ _ ⟨g2, g, d, tk2, os⟩
  refine wpAny_bind (wpAny_newTuple ?_)
  have sz : g2.objs.size = hp.objs.size := by rw [s2.1, s1.1, s0.1]
  have z2 : IsZipHeld g2 z TI TO T true := s2.extBut _ _ S.zi2 (s1.extBut _ _ S.zi1 z0)
  have k : ∀ c o, c ≠ z → c ≠ i1 → c ≠ i2 → hp.get? c = some o → g2.get? c = some o := fun c o c1 c2 c3 e => s2.extBut _ _ c3 (s1.extBut _ _ c2 (s0.extBut _ _ c1 e))
  have up : ∀ c o, g2.get? c = some o → (g2.push { cls := .type "tuple", data := .seq #[x, y] }).get? c = some o := fun c o e => Heap.get?_push_of_some _ e
  have tp : IsTupOf2 (g2.push { cls := .type "tuple", data := .seq #[x, y] }) g2.objs.size x y := Heap.get?_push_size _ rfl
  have sz3 : (g2.push { cls := .type "tuple", data := .seq #[x, y] }).objs.size = g2.objs.size + 1 := Heap.size_push ..
  have f1 : St1 (i + 1) g2 := D1.over e1 s2 S.sep2_1
  refine wpAny_pure ⟨_, rfl, ?_⟩
  show Q (.ref g2.objs.size) _
  rw [sz] at tp sz3 ⊢
  exact q x y _ tk2 px py (up _ _ z2) (D1.frame _ _ _ f1 fun b _ o e => up b o e) (D2.frame _ _ _ e2 fun b _ o e => up b o e) tp sz3 fun c o c1 c2 c3 e => up c o (k c o c1 c2 c3 e)
/-- its end -/
theorem zh_end {Q : Fin → Shared → Prop} (S : ZipSep2 z TI TO i1 i2 fp1 fp2) (D1 : Draws prog w A i1 fp1 n1 P1 St1) (D2 : Draws prog w A i2 fp2 n2 P2 St2) (hz : IsZipHeld s.heap z TI TO T f) (hT : s.heap.get? T = some oT)
    (hI : IsTupOf2 s.heap TI (.ref i1) (.ref i2)) (st1 : St1 i s.heap) (st2 : St2 i s.heap) (l1 : i ≤ n1) (l2 : i ≤ n2) (en : i = n1 ∨ i = n2)
    (q : ∀ h' tk e, (∀ c o, c ≠ z → c ≠ i1 → c ≠ i2 → s.heap.get? c = some o → h'.get? c = some o) → (∃ o, h'.get? e = some o ∧ o.cls = .type "StopIteration") → E (.ref e) { s with heap := h', toks := tk }) :
    wpAny (model prog w) A (Builtin.«zip.__next__» ⟨[.ref z], []⟩) Q E s := by
  obtain ⟨hp, g, d, tk0, os⟩ := s
  show wpAny _ _ (field (.ref z) 2 >>= _) _ _ _
  refine wpAny_bind (wpAny_field hz rfl (x := .bool false) rfl ?_)
  show wpAny _ _ (field (.ref z) 3 >>= _) _ _ _
  refine wpAny_bind (wpAny_field hz rfl (x := .ref TI) rfl ?_)
  refine wpAny_bind (wpAny_seqItems hI rfl ?_)
  show wpAny _ _ (Builtin.SmallTypes.ownedTupleIsFree (.ref z) >>= _) _ _ _
  refine wpAny_bind (wpAny_tupleHeld_zip hz hT fun g0 z0 s0 => ?_)
  replace s0 : Heap.SameBut z hp g0 := s0
  simp only [Bool.false_eq_true, if_false]
  refine wpAny_bind ?_
  rw [← Array.forIn_toList]
  simp only [List.forIn_cons, List.forIn_nil]
  refine wpAny_bind (wpAny_bind (wpAny_holding ?_))
  show wpAny _ _ (Builtin.SmallTypes.nextOf (.ref i1) >>= _) _ _ ⟨g0, g, d, tk0, os⟩
  by_cases lt : i < n1
  · refine wpAny_bind (D1.item i _ _ _ lt (D1.over st1 s0 S.zf1) fun x g1 tk1 px e1 s1 => wpAny_pure (wpAny_pure ?_))
    replace s1 : Heap.SameBut i1 g0 g1 := s1
    refine wpAny_bind (wpAny_bind (wpAny_holding ?_))
    show wpAny _ _ (Builtin.SmallTypes.nextOf (.ref i2) >>= _) _ _ ⟨g1, g, d, tk1, os⟩
    have e2 : i = n2 := by omega
    refine wpAny_bind (D2.done ⟨g1, g, d, tk1, os⟩ _ _ (by rw [← e2]; exact D2.over (D2.over st2 s0 S.zf2) s1 S.sep1_2) fun g2 e s2 he => ?_)
    exact q g2 tk1 e (fun c o c1 c2 c3 x => s2 _ _ c3 (s1.extBut _ _ c2 (s0.extBut _ _ c1 x))) he
  · have e1 : i = n1 := by omega
    refine wpAny_bind (D1.done ⟨g0, g, d, tk0, os⟩ _ _ (by rw [← e1]; exact D1.over st1 s0 S.zf1) fun g1 e s1 he => ?_)
    exact q g1 tk0 e (fun c o c1 c2 c3 x => s1 _ _ c2 (s0.extBut _ _ c1 x)) he
/-- where a zip stands between two turns; lo: the list that is filled -/
structure ZS (St1 St2 : Nat → Heap → Prop) (z TI TO i1 i2 lo : Addr) (i : Nat) (h : Heap) : Prop where
  ti : IsTupOf2 h TI (.ref i1) (.ref i2)
  s1 : St1 i h
  s2 : St2 i h
  zz : (IsZip h z TI TO .none ∧ ∃ a b, IsTupOf2 h TO a b) ∨ ∃ T f x y, IsZipHeld h z TI TO T f ∧ IsTupOf2 h T x y ∧ lo < T
/-- what lies below the list -/
structure ZLow (z TI TO i1 i2 lo : Addr) : Prop where
  z : z < lo
  TI : TI < lo
  TO : TO < lo
  i1 : i1 < lo
  i2 : i2 < lo
theorem zs_item {lo : Addr} {Q : Option Value → Shared → Prop} (S : ZipSep2 z TI TO i1 i2 fp1 fp2) (L : ZLow z TI TO i1 i2 lo) (D1 : Draws prog w A.in1 i1 fp1 n1 P1 St1) (D2 : Draws prog w A.in1 i2 fp2 n2 P2 St2) (Z : ZS St1 St2 z TI TO i1 i2 lo i s.heap) (hl : lo < s.heap.objs.size) (l1 : i < n1) (l2 : i < n2)
    (q : ∀ x y h' tk, P1 i x → P2 i y → ZS St1 St2 z TI TO i1 i2 lo (i + 1) h' → IsTupOf2 h' s.heap.objs.size x y → h'.objs.size = s.heap.objs.size + 1 →
      (∀ c o, c ≠ z → c ≠ TO → c ≠ i1 → c ≠ i2 → s.heap.get? c = some o → h'.get? c = some o) → Q (some (.ref s.heap.objs.size)) { s with heap := h', toks := tk }) :
    wpAny (model prog w) A (pyNext (.ref z)) Q E s := by
  obtain ⟨ti, s1, s2, ⟨hz, a, b, hO⟩ | ⟨T, f, x0, y0, hz, hT, nT⟩⟩ := Z
  · exact wpAny_pyNext_zipD2_item S D1 D2 hz ti hO s1 s2 l1 l2 fun x y h' tk px py z' o' a1 a2 t' sz k =>
      q x y h' tk px py ⟨k _ _ S.TIz S.TITO S.TIi1 S.TIi2 ti, a1, a2, .inr ⟨s.heap.objs.size, false, x, y, z', t', hl⟩⟩ t' sz k
  · have hTy : s.TypeIs (.ref z) "zip" := ⟨_, hz, rfl⟩
    unfold pyNext
    refine wpAny_bind (wpAny_attempt (wpAny_callSpecial?_slot (name := Str.ofString "__next__") hTy F.slot_zip_next (wpAny_call_entry F.slot_zip_next hTy F.entry_zip_next
      (zh_item S D1 D2 hz hT ti s1 s2 l1 l2 fun x y h' tk px py z' a1 a2 t' sz k => wpAny_pure (q x y h' tk px py ⟨k _ _ S.TIz S.TIi1 S.TIi2 ti, a1, a2, .inr ⟨T, true, x0, y0, z', k _ _ (Nat.ne_of_gt (Nat.lt_trans L.z nT)) (Nat.ne_of_gt (Nat.lt_trans L.i1 nT)) (Nat.ne_of_gt (Nat.lt_trans L.i2 nT)) hT, nT⟩⟩ t' sz fun c o c1 _ c3 c4 e => k c o c1 c3 c4 e)) (F.args_zip_next_1 _))))
theorem zs_end {lo : Addr} {Q : Option Value → Shared → Prop} (S : ZipSep2 z TI TO i1 i2 fp1 fp2) (D1 : Draws prog w A.in1 i1 fp1 n1 P1 St1) (D2 : Draws prog w A.in1 i2 fp2 n2 P2 St2) (Z : ZS St1 St2 z TI TO i1 i2 lo i s.heap) (l1 : i ≤ n1) (l2 : i ≤ n2) (en : i = n1 ∨ i = n2)
    (q : ∀ h' tk, (∀ c o, c ≠ z → c ≠ TO → c ≠ i1 → c ≠ i2 → s.heap.get? c = some o → h'.get? c = some o) → Q none { s with heap := h', toks := tk }) :
    wpAny (model prog w) A (pyNext (.ref z)) Q E s := by
  obtain ⟨ti, s1, s2, ⟨hz, a, b, hO⟩ | ⟨T, f, x0, y0, hz, hT, nT⟩⟩ := Z
  · exact wpAny_pyNext_zipD2_end S D1 D2 hz ti hO s1 s2 l1 l2 en q
  · have hTy : s.TypeIs (.ref z) "zip" := ⟨_, hz, rfl⟩
    unfold pyNext
    refine wpAny_bind (wpAny_attempt (wpAny_callSpecial?_slot (name := Str.ofString "__next__") hTy F.slot_zip_next (wpAny_call_entry F.slot_zip_next hTy F.entry_zip_next
      (zh_end S D1 D2 hz hT ti s1 s2 l1 l2 en fun h' tk e k he => ?_) (F.args_zip_next_1 _))))
    obtain ⟨o, ho, hc⟩ := he
    refine wpAny_bind (wpAny_isInstance (T := "StopIteration") (b := true) ⟨o, ho, hc⟩ isSubtype_stop ?_)
    exact wpAny_pure (q _ _ fun c o c1 _ c3 c4 e => k c o c1 c3 c4 e)
theorem ZS.keep {lo : Addr} {h h' : Heap} (Z : ZS St1 St2 z TI TO i1 i2 lo i h) (L : ZLow z TI TO i1 i2 lo) (D1 : Draws prog w A i1 fp1 n1 P1 St1) (D2 : Draws prog w A i2 fp2 n2 P2 St2) (m1 : lo ∉ fp1) (m2 : lo ∉ fp2) (k : ∀ b o, b ≠ lo → h.get? b = some o → h'.get? b = some o) : ZS St1 St2 z TI TO i1 i2 lo i h' := by
  obtain ⟨ti, s1, s2, zz⟩ := Z
  refine ⟨k _ _ (Nat.ne_of_lt L.TI) ti, D1.frame _ _ _ s1 fun b m o e => k b o (fun q => m1 (q ▸ m)) e, D2.frame _ _ _ s2 fun b m o e => k b o (fun q => m2 (q ▸ m)) e, ?_⟩
  rcases zz with ⟨hz, a, b, hO⟩ | ⟨T, f, x0, y0, hz, hT, nT⟩
  · exact .inl ⟨k _ _ (Nat.ne_of_lt L.z) hz, a, b, k _ _ (Nat.ne_of_lt L.TO) hO⟩
  · exact .inr ⟨T, f, x0, y0, k _ _ (Nat.ne_of_lt L.z) hz, k _ _ (Nat.ne_of_gt nT) hT, nT⟩
/-- the pairs given out -/
structure ZG (P1 P2 : Nat → Value → Prop) (lo : Addr) (h : Heap) (as : List Addr) : Prop where
  rise : as.Pairwise (· < ·)
  above : ∀ a ∈ as, lo < a
  pairs : ∀ (j : Nat) (a : Addr), as[j]? = some a → ∃ x y, P1 j x ∧ P2 j y ∧ IsTupOf2 h a x y
theorem ZG.there {lo : Addr} {h : Heap} {as : List Addr} (g : ZG P1 P2 lo h as) {a : Addr} (ha : a ∈ as) : a < h.objs.size := by
  obtain ⟨j, hj⟩ := List.mem_iff_getElem?.mp ha
  obtain ⟨_, _, _, _, e⟩ := g.pairs j a hj
  exact Heap.lt_size e
end
section
variable {prog : Program} {w : World} {A : Around} {s : Shared} {R : Result → Shared → Prop} {z TI TO i1 i2 S : Addr} {fp1 fp2 : List Addr} {n1 n2 : Nat} {P1 P2 : Nat → Value → Prop} {St1 St2 : Nat → Heap → Prop}
theorem lz_loop (X : ZipSep2 z TI TO i1 i2 fp1 fp2) (L : ZLow z TI TO i1 i2 S) (D1 : Draws prog w A.in1.in1 i1 fp1 n1 P1 St1) (D2 : Draws prog w A.in1.in1 i2 fp2 n2 P2 St2) (m1 : S ∉ fp1) (m2 : S ∉ fp2) (hn : min n1 n2 ≤ sizeLine) (res : Value) {h₁ : Heap}
    (hR : ∀ h' tk acc c as, (∀ b o, b ≠ S → b ≠ z → b ≠ TO → b ≠ i1 → b ≠ i2 → h₁.get? b = some o → h'.get? b = some o) → h'.get? S = some { cls := .type "list", dict := none, data := .seq acc c, slots := #[] } → as.length = min n1 n2 → ZG P1 P2 S h' as →
      acc.toList = as.map Value.ref → R (.ok (.ret res)) { s with heap := h', toks := tk }) :
    ∀ (k i : Nat) (h : Heap) (tk c : Nat) (acc : Array Value) (as : List Addr), min n1 n2 - i = k → i ≤ min n1 n2 → ZS St1 St2 z TI TO i1 i2 S i h → (∀ b o, b ≠ S → b ≠ z → b ≠ TO → b ≠ i1 → b ≠ i2 → h₁.get? b = some o → h.get? b = some o) →
      h.get? S = some { cls := .type "list", dict := none, data := .seq acc c, slots := #[] } → acc.toList = as.map Value.ref → as.length = i → ZG P1 P2 S h as →
      codeAny (model prog w) A (.builtin "list.extend.loop" ⟨[.ref S, .ref z, res], []⟩) R { s with heap := h, toks := tk } := by
  have nz : S ≠ z := Nat.ne_of_gt L.z
  have nTO : S ≠ TO := Nat.ne_of_gt L.TO
  have ni1 : S ≠ i1 := Nat.ne_of_gt L.i1
  have ni2 : S ≠ i2 := Nat.ne_of_gt L.i2
  have hi : ∀ b : Addr, S < b → b ≠ z ∧ b ≠ TO ∧ b ≠ i1 ∧ b ≠ i2 := fun b l => ⟨Nat.ne_of_gt (Nat.lt_trans L.z l), Nat.ne_of_gt (Nat.lt_trans L.TO l), Nat.ne_of_gt (Nat.lt_trans L.i1 l), Nat.ne_of_gt (Nat.lt_trans L.i2 l)⟩
  intro k
  induction k with
  | zero =>
    intro i h tk c acc as hk hle Z hkeep hS hacc hal hG
    have hin : i = min n1 n2 := by omega
    refine codeAny_builtin PySem.F.entry_extend_loop ?_
    rw [Around.under_plainId PySem.F.plain_extend_loop _]
    show wpAny _ A.in1 (pyNext (.ref z) >>= _) _ _ _
    refine wpAny_bind (zs_end (s := { s with heap := h, toks := tk }) (A := A.in1) X D1 D2 Z (by omega) (by omega) (by omega) fun h' tk' he => ?_)
    refine wpAny_pure (hR h' tk' acc c as (fun b o b1 b2 b3 b4 b5 e => he b o b2 b3 b4 b5 (hkeep b o b1 b2 b3 b4 b5 e)) (he S _ nz nTO ni1 ni2 hS) (by omega) ⟨hG.rise, hG.above, fun j a hj => ?_⟩ hacc)
    obtain ⟨x, y, px, py, e3⟩ := hG.pairs j a hj
    obtain ⟨b2, b3, b4, b5⟩ := hi a (hG.above a (List.mem_of_getElem? hj))
    exact ⟨x, y, px, py, he a _ b2 b3 b4 b5 e3⟩
  | succ k ih =>
    intro i h tk c acc as hk hle Z hkeep hS hacc hal hG
    have hlt : i < min n1 n2 := by omega
    have hsz : acc.size = i := by rw [← Array.length_toList, hacc, List.length_map, hal]
    have hSl : S < h.objs.size := Heap.lt_size hS
    refine codeAny_builtin PySem.F.entry_extend_loop ?_
    rw [Around.under_plainId PySem.F.plain_extend_loop _]
    show wpAny _ A.in1 (pyNext (.ref z) >>= _) _ _ _
    refine wpAny_bind (zs_item (s := { s with heap := h, toks := tk }) (A := A.in1) X L D1 D2 Z hSl (by omega) (by omega) fun x y h' tk' px py Z' ht hz hkp => ?_)
    dsimp only at ht hz hkp ⊢
    have hS' := hkp S _ nz nTO ni1 ni2 hS
    have up : ∀ b o, b ≠ S → h'.get? b = some o → (h'.update S (Obj.mapSeq (·.push (Value.ref h.objs.size)))).get? b = some o := fun b o hb e => (Heap.get?_update_other _ _ (Ne.symm hb)).trans e
    show wpAny _ A.in1 (updateSeq S (·.push (Value.ref h.objs.size)) >>= _) _ _ _
    refine wpAny_bind ?_
    refine wpAny_updateSeq hS' rfl (wpAny_pure ⟨plainId_quiet PySem.F.plain_extend_loop _, ih (i + 1) _ tk' _ (acc.push (Value.ref h.objs.size)) (as ++ [h.objs.size]) (by omega) hlt (Z'.keep L D1 D2 m1 m2 up)
      (fun b o b1 b2 b3 b4 b5 e => up b o b1 (hkp b o b2 b3 b4 b5 (hkeep b o b1 b2 b3 b4 b5 e))) (Heap.get?_update_self _ hS' rfl) (by rw [Array.toList_push, hacc, List.map_append]; rfl) (by rw [List.length_append, hal]; rfl) ⟨?_, ?_, ?_⟩⟩) (by rw [hsz]; omega) (by show (acc.push (Value.ref h.objs.size)).size ≤ sizeLine + 1; rw [Array.size_push, hsz]; omega)
    · refine List.pairwise_append.mpr ⟨hG.rise, List.pairwise_singleton _ _, fun a ha b hb => ?_⟩
      rw [List.mem_singleton.mp hb]
      exact hG.there ha
    · intro a ha
      rcases List.mem_append.mp ha with ha | ha
      · exact hG.above a ha
      · rw [List.mem_singleton.mp ha]; exact hSl
    · intro j b hj
      rcases Nat.lt_trichotomy j as.length with h1 | h1 | h1
      · rw [List.getElem?_append_left h1] at hj
        obtain ⟨x', y', px', py', e3⟩ := hG.pairs j b hj
        have hb := hG.above b (List.mem_of_getElem? hj)
        obtain ⟨b2, b3, b4, b5⟩ := hi b hb
        exact ⟨x', y', px', py', up b _ (Nat.ne_of_gt hb) (hkp b _ b2 b3 b4 b5 e3)⟩
      · subst h1
        have hb : h.objs.size = b := by simpa using hj
        subst hb
        exact ⟨x, y, by rw [hal]; exact px, by rw [hal]; exact py, up _ _ (Nat.ne_of_gt hSl) ht⟩
      · have hnone : (as ++ [h.objs.size])[j]? = none := List.getElem?_eq_none (by rw [List.length_append, List.length_singleton]; omega)
        rw [hnone] at hj; cases hj
end
section
variable {prog : Program} {w : World} {A : Around} {E : Value → Shared → Prop} {s : Shared}
theorem zip_no_len : typeLookup (.type "zip") "__len__" = pure none := am_miss_of_fast (by decide +kernel)
theorem zip_no_hint : typeLookup (.type "zip") "__length_hint__" = pure none := am_miss_of_fast (by decide +kernel)
theorem lz_hint {r : Addr} {Q : Bool → Shared → Prop} (hT : s.TypeIs (.ref r) "zip") (h : Q true s) : wpAny (model prog w) A (Builtin.List.listLengthHint (.ref r)) Q E s := by
  unfold Builtin.List.listLengthHint
  refine wpAny_bind (wpAny_specialOf hT zip_no_len ?_)
  wp_delta
  refine wpAny_bind (wpAny_specialOf hT zip_no_hint ?_)
  exact wpAny_pure h
section
variable {z TI TO i1 i2 : Addr} {fp1 fp2 : List Addr} {n1 n2 : Nat} {P1 P2 : Nat → Value → Prop} {St1 St2 : Nat → Heap → Prop}
/-- a zip at its beginning -/
structure ZB (St1 St2 : Nat → Heap → Prop) (z TI TO i1 i2 : Addr) (h : Heap) : Prop where
  ti : IsTupOf2 h TI (.ref i1) (.ref i2)
  s1 : St1 0 h
  s2 : St2 0 h
  zz : IsZip h z TI TO .none
  to : ∃ a b, IsTupOf2 h TO a b
theorem ZB.keep {S : Addr} {h h' : Heap} (Z : ZB St1 St2 z TI TO i1 i2 h) (L : ZLow z TI TO i1 i2 S) (D1 : Draws prog w A i1 fp1 n1 P1 St1) (D2 : Draws prog w A i2 fp2 n2 P2 St2) (m1 : S ∉ fp1) (m2 : S ∉ fp2) (k : ∀ b o, b ≠ S → h.get? b = some o → h'.get? b = some o) : ZB St1 St2 z TI TO i1 i2 h' :=
  let ⟨a, b, hO⟩ := Z.to
  ⟨k _ _ (Nat.ne_of_lt L.TI) Z.ti, D1.frame _ _ _ Z.s1 fun b m o e => k b o (fun q => m1 (q ▸ m)) e, D2.frame _ _ _ Z.s2 fun b m o e => k b o (fun q => m2 (q ▸ m)) e, k _ _ (Nat.ne_of_lt L.z) Z.zz, a, b, k _ _ (Nat.ne_of_lt L.TO) hO⟩
theorem lz_extend {R : Result → Shared → Prop} {S : Addr} (X : ZipSep2 z TI TO i1 i2 fp1 fp2) (L : ZLow z TI TO i1 i2 S) (D1 : Draws prog w A.in1.in1 i1 fp1 n1 P1 St1) (D2 : Draws prog w A.in1.in1 i2 fp2 n2 P2 St2) (m1 : S ∉ fp1) (m2 : S ∉ fp2) (Z : ZB St1 St2 z TI TO i1 i2 s.heap) (res : Value) (c₀ : Nat) (hS : s.heap.get? S = some { cls := .type "list", data := .seq #[] c₀ })
    (hR : ∀ h' tk acc c as, (∀ b o, b ≠ S → b ≠ z → b ≠ TO → b ≠ i1 → b ≠ i2 → s.heap.get? b = some o → h'.get? b = some o) → h'.get? S = some { cls := .type "list", dict := none, data := .seq acc c, slots := #[] } → as.length = min n1 n2 → ZG P1 P2 S h' as →
      acc.toList = as.map Value.ref → R (.ok (.ret res)) { s with heap := h', toks := tk }) (hn : min n1 n2 ≤ sizeLine) :
    wpAny (model prog w) A.in1 (Builtin.List.listExtendWith (.ref S) (.ref z) res)
      (fun fin s' => match fin with | .done f => R (.ok f) s' | .again c' => c'.quiet = true ∧ codeAny (model prog w) A c' R s') (fun e s' => R (.error e) s') s := by
  have hTy : s.TypeIs (.ref z) "zip" := ⟨_, Z.zz, rfl⟩
  unfold Builtin.List.listExtendWith
  refine wpAny_bind (wpAny_typeOf (T := "zip") hTy ?_)
  have h1 : Builtin.List.listSameRef (.ref S) (.ref z) = false := by
    have n : S ≠ z := Nat.ne_of_gt L.z
    simp [Builtin.List.listSameRef, n]
  have h2 : (Value.type "zip" == Value.type "list") = false := by decide
  have h3 : (Value.type "zip" == Value.type "tuple") = false := by decide
  simp only [h1, h2, h3, Bool.or_false, Bool.false_eq_true, if_false]
  refine wpAny_bind (wpAny_pyIter_zip Z.zz ?_)
  refine wpAny_bind (wpAny_holding (lz_hint hTy ?_))
  rw [Bool.true_or, if_pos rfl]
  refine wpAny_bind (wpAny_rule ?_)
  refine wpAny_bind ?_
  show wpAny _ _ (updateSeq S (·.push .none) >>= fun _ => updateSeq S (·.pop)) _ _ _
  refine wpAny_bind (wpAny_updateSeq hS rfl ?_)
  have hS₂ := Heap.get?_update_self (Obj.mapSeq (·.push Value.none)) hS rfl
  refine wpAny_updateSeq (hz := by seq_fits) hS₂ rfl ?_
  have hS₃ := Heap.get?_update_self (Obj.mapSeq (·.pop)) hS₂ rfl
  have oth : ∀ b o, b ≠ S → s.heap.get? b = some o → ((s.heap.update S (Obj.mapSeq (·.push Value.none))).update S (Obj.mapSeq (·.pop))).get? b = some o := fun b o hb e =>
    (Heap.get?_update_other _ _ (Ne.symm hb)).trans ((Heap.get?_update_other _ _ (Ne.symm hb)).trans e)
  have Z2 := Z.keep L D1 D2 m1 m2 oth
  refine wpAny_pure ⟨plainId_quiet PySem.F.plain_extend_loop _, ?_⟩
  exact lz_loop (s := s) (h₁ := s.heap) X L D1 D2 m1 m2 hn res hR (min n1 n2) 0 _ _ _ #[] [] (Nat.sub_zero _) (Nat.zero_le _) ⟨Z2.ti, Z2.s1, Z2.s2, .inl ⟨Z2.zz, Z2.to⟩⟩ (fun b o b1 _ _ _ _ e => oth b o b1 e) hS₃ rfl rfl
    ⟨List.Pairwise.nil, (fun _ ha => nomatch ha), (fun j a hj => by simp at hj)⟩
theorem lz_init {R : Result → Shared → Prop} {S : Addr} (X : ZipSep2 z TI TO i1 i2 fp1 fp2) (L : ZLow z TI TO i1 i2 S) (D1 : Draws prog w A.in1.in1 i1 fp1 n1 P1 St1) (D2 : Draws prog w A.in1.in1 i2 fp2 n2 P2 St2) (m1 : S ∉ fp1) (m2 : S ∉ fp2) (Z : ZB St1 St2 z TI TO i1 i2 s.heap) (hS : s.heap.get? S = some { cls := .type "list", data := .seq #[] })
    (hR : ∀ h' tk acc c as, (∀ b o, b ≠ S → b ≠ z → b ≠ TO → b ≠ i1 → b ≠ i2 → s.heap.get? b = some o → h'.get? b = some o) → h'.get? S = some { cls := .type "list", dict := none, data := .seq acc c, slots := #[] } → as.length = min n1 n2 → ZG P1 P2 S h' as →
      acc.toList = as.map Value.ref → R (.ok (.ret .none)) { s with heap := h', toks := tk }) (hn : min n1 n2 ≤ sizeLine) :
    wpAny (model prog w) A.in1 (Builtin.«list.__init__» ⟨[.ref S, .ref z], []⟩)
      (fun fin s' => match fin with | .done f => R (.ok f) s' | .again c' => c'.quiet = true ∧ codeAny (model prog w) A c' R s') (fun e s' => R (.error e) s') s := by
  show wpAny _ _ (do let old ← Builtin.List.listItems (.ref S); Builtin.List.listUpdate (.ref S) (fun _ => #[]); letGo old.toList.reverse; Builtin.List.listExtendWith (.ref S) (.ref z) .none) _ _ s
  refine wpAny_bind ?_
  unfold Builtin.List.listItems
  refine wpAny_bind (wpAny_seqItems hS rfl (wpAny_pure ?_))
  show wpAny _ _ (updateSeq S (fun _ => #[]) >>= fun _ => letGo (#[] : Array Value).toList.reverse >>= fun _ => Builtin.List.listExtendWith (.ref S) (.ref z) .none) _ _ s
  refine wpAny_bind (wpAny_updateSeq hS rfl ?_)
  have hS₂ := Heap.get?_update_self (Obj.mapSeq (fun _ => (#[] : Array Value))) hS rfl
  have oth : ∀ b o, b ≠ S → s.heap.get? b = some o → (s.heap.update S (Obj.mapSeq (fun _ => (#[] : Array Value)))).get? b = some o :=
    fun b o hb e => (Heap.get?_update_other _ _ (Ne.symm hb)).trans e
  refine wpAny_bind (wpAny_letGo ?_)
  refine lz_extend X L D1 D2 m1 m2 (Z.keep L D1 D2 m1 m2 oth) .none _ hS₂ (fun h' tk acc c as hk hS' hl hG hacc => ?_) hn
  exact hR h' tk acc c as (fun b o b1 b2 b3 b4 b5 e => hk b o b1 b2 b3 b4 b5 (oth b o b1 e)) hS' hl hG hacc
/-- list(z), z a zip at its beginning -/
theorem lz_call {Q : Value → Shared → Prop} (X : ZipSep2 z TI TO i1 i2 fp1 fp2) (L : ZLow z TI TO i1 i2 s.heap.objs.size) (D1 : Draws prog w A.in1.in1.in1 i1 fp1 n1 P1 St1) (D2 : Draws prog w A.in1.in1.in1 i2 fp2 n2 P2 St2) (m1 : s.heap.objs.size ∉ fp1) (m2 : s.heap.objs.size ∉ fp2) (Z : ZB St1 St2 z TI TO i1 i2 s.heap) (hn : min n1 n2 ≤ sizeLine)
    (hQ : ∀ h' tk acc c as, (∀ b o, b ≠ z → b ≠ TO → b ≠ i1 → b ≠ i2 → s.heap.get? b = some o → h'.get? b = some o) → h'.get? s.heap.objs.size = some { cls := .type "list", dict := none, data := .seq acc c, slots := #[] } → as.length = min n1 n2 → ZG P1 P2 s.heap.objs.size h' as →
      acc.toList = as.map Value.ref → Q (.ref s.heap.objs.size) { s with heap := h', toks := tk }) :
    wpAny (model prog w) A (call (.type "list") [.ref z]) Q E s := by
  refine callType_codes (Q₁ := fun obj s₁ => obj = .ref s.heap.objs.size ∧ s₁ = { s with heap := s.heap.push { cls := .type "list", data := .seq #[] } }) PySem.F.called_list (PySem.F.typeCall_list_1 _) PySem.F.entry_list_init
    (code_list_new _ ⟨rfl, rfl⟩) fun obj s₁ h₁ => ?_
  obtain ⟨rfl, rfl⟩ := h₁
  have hS : (s.heap.push { cls := .type "list", data := .seq #[] }).get? s.heap.objs.size = some { cls := .type "list", data := .seq #[] } := Heap.get?_push_size _ rfl
  refine ⟨⟨_, hS, rfl⟩, PySem.F.args_list_init_2 _ _, lz_init (A := A.in1) X L D1 D2 m1 m2 (Z.keep L D1 D2 m1 m2 fun b o _ e => Heap.get?_push_of_some _ e) hS (fun h' tk acc c as hk hS' hl hG hacc => ?_) hn⟩
  exact ⟨rfl, hQ h' tk acc c as (fun b o b2 b3 b4 b5 e => hk b o (Nat.ne_of_lt (Heap.lt_size e)) b2 b3 b4 b5 (Heap.get?_push_of_some _ e)) hS' hl hG hacc⟩
end
end
end Q0

/-! list(zip(a, b)) over cells. -/
namespace Q0
open PySem PySem.Spec PyProof.Rows L2
/-- pairs written, each at its place -/
def layP (ps : List (Addr × V × V)) (H : Hp) : Hp := fun b => match ps.find? (fun p => p.1 == b) with
  | some p => some (.tup [p.2.1, p.2.2])
  | none => H b
theorem layP_no {ps : List (Addr × V × V)} {H : Hp} {b : Addr} (h : b ∉ ps.map (·.1)) : layP ps H b = H b := by
  have e : ps.find? (fun p => p.1 == b) = none := List.find?_eq_none.mpr fun p m q => h (List.mem_map.mpr ⟨p, m, by simpa using q⟩)
  simp only [layP, e]
theorem layP_yes : ∀ {ps : List (Addr × V × V)} {H : Hp} {p : Addr × V × V}, (ps.map (·.1)).Nodup → p ∈ ps → layP ps H p.1 = some (.tup [p.2.1, p.2.2])
  | q :: ps, H, p, nd, m => by
    rw [List.map_cons, List.nodup_cons] at nd
    by_cases c : q.1 = p.1
    · rcases List.mem_cons.mp m with rfl | m
      · simp [layP, List.find?_cons]
      · exact absurd (List.mem_map.mpr ⟨p, m, c.symm⟩) nd.1
    · rcases List.mem_cons.mp m with rfl | m
      · exact absurd rfl c
      · have ih := layP_yes (H := H) nd.2 m
        simp only [layP] at ih ⊢
        rw [List.find?_cons, show (q.1 == p.1) = false from by simpa using c]
        exact ih
theorem vals_of : ∀ {xs : List V} {us : List Value} {i : Nat} {u : Value}, Vals xs us → us[i]? = some u → ∃ x, xs[i]? = some x ∧ RelV x u
  | _, _, 0, _, .cons r _, e => ⟨_, rfl, by cases e; exact r⟩
  | _, _, i + 1, _, .cons _ t, e => vals_of (i := i) t (by simpa using e)
/-- the list of the pairs of two -/
def rPairs (xs ys : List V) (H : Hp) (Q : VK) : Prop := ∀ (H' : Hp) (p : Addr) (ts : List Addr), (∀ b o, H b = some o → H' b = some o) → H p = none → (∀ t ∈ ts, H t = none) → p ∉ ts → ts.length = min xs.length ys.length → H' p = some (.lst (ts.map V.ref)) →
  (∀ (j : Nat) (t : Addr) (x y : V), ts[j]? = some t → xs[j]? = some x → ys[j]? = some y → H' t = some (.tup [x, y])) → Q (.ref p) H'
section
variable {X : Cx} {pins : List (Addr × Obj)} {σ : L2.St} {H : Hp} {s : Shared} {h' : Heap} {tk c : Nat} {xs ys : List V} {us vs : List Value} {acc : Array Value} {as : List Addr} {S : Addr} {Q : VK}
theorem pairs_laid (I : Inv X pins σ H s) (z1 : xs.length ≤ sizeLine) (rx : Vals xs us) (ry : Vals ys vs) (low : s.heap.objs.size ≤ S) (hk : ∀ b o, s.heap.get? b = some o → h'.get? b = some o)
    (hS : h'.get? S = some { cls := .type "list", dict := none, data := .seq acc c, slots := #[] }) (hl : as.length = min us.length vs.length) (hG : ZG (fun i v => us.toArray[i]? = some v) (fun i v => vs.toArray[i]? = some v) S h' as) (ha : acc.toList = as.map Value.ref) (q : rPairs xs ys H Q) :
    ∃ H', Inv X pins σ H' { s with heap := h', toks := tk } ∧ Q (.ref S) H' := by
  have lx := rx.length
  have ly := ry.length
  have nS : S ∉ as := fun m => Nat.lt_irrefl _ (hG.above _ m)
  have nd : as.Nodup := List.Pairwise.imp (fun {a b} (h : a < b) => Nat.ne_of_lt h) hG.rise
  have newS : H S = none := I.hok.fresh low
  have new : ∀ t ∈ as, H t = none := fun t m => I.hok.fresh (Nat.le_of_lt (Nat.lt_of_le_of_lt low (hG.above t m)))
  let ps : List (Addr × V × V) := as.zip (xs.zip ys)
  have lz : as.length = (xs.zip ys).length := by rw [List.length_zip]; omega
  have fst : ps.map (·.1) = as := by
    show (as.zip (xs.zip ys)).map Prod.fst = as
    exact List.map_fst_zip (Nat.le_of_eq lz)
  let G : Hp := layP ps (upd H S (.lst (as.map V.ref)))
  have off : ∀ b, b ∉ as → b ≠ S → G b = H b := fun b h1 h2 => (layP_no (by rw [fst]; exact h1)).trans (upd_ne h2)
  have atS : G S = some (.lst (as.map V.ref)) := (layP_no (by rw [fst]; exact nS)).trans upd_same
  have atP : ∀ (j : Nat) (t : Addr) (x y : V), as[j]? = some t → xs[j]? = some x → ys[j]? = some y → G t = some (.tup [x, y]) := fun j t x y e1 e2 e3 => by
    have m : (t, x, y) ∈ ps := List.mem_iff_getElem?.mpr ⟨j, List.getElem?_zip_eq_some.mpr ⟨e1, List.getElem?_zip_eq_some.mpr ⟨e2, e3⟩⟩⟩
    exact layP_yes (p := (t, x, y)) (by rw [fst]; exact nd) m
  have kp : ∀ b u, H b = some u → G b = some u := fun b u e => by
    rw [off b (fun m => by rw [new b m] at e; cases e) (fun m => by rw [m, newS] at e; cases e)]
    exact e
  refine ⟨G, ?_, q G S as kp newS new nS (by omega) atS atP⟩
  refine I.call' (ch := []) rfl ⟨fun b o q _ _ _ => hk b o q, fun b o q _ _ _ => ⟨o.slots, hk b o q⟩, fun b o q n _ => ?_, fun b o q _ => ⟨o, hk b o q⟩, fun b xs q => kp b _ q, fun b o u q => kp b _ q, fun b ps q => ⟨#[], by rw [kp b _ q]; simp⟩⟩ (fun b u q => ?_) I.bare fun b z => by simp at z
  · have lt : b < s.heap.objs.size := Heap.lt_size q
    rw [off b (fun m => Nat.lt_irrefl b (Nat.lt_trans (Nat.lt_of_lt_of_le lt low) (hG.above b m))) (Nat.ne_of_lt (Nat.lt_of_lt_of_le lt low))]
    exact n
  · by_cases hb : b ∈ as
    · obtain ⟨j, e1⟩ := List.mem_iff_getElem?.mp hb
      obtain ⟨x, y, f1, f2, f3⟩ := hG.pairs j b e1
      rw [List.getElem?_toArray] at f1 f2
      obtain ⟨x', g1, g2⟩ := vals_of rx f1
      obtain ⟨y', g3, g4⟩ := vals_of ry f2
      rw [atP j b x' y' e1 g1 g3] at q
      cases q
      exact ⟨by show 2 ≤ sizeLine; decide, [x, y], .cons g2 (.cons g4 .nil), ⟨_, f3, rfl, _, rfl⟩⟩
    · by_cases hb2 : b = S
      · rw [hb2] at q ⊢
        rw [atS] at q
        cases q
        refine ⟨by rw [List.length_map]; omega, acc.toList, c, by rw [ha]; exact LiI.vals_refs as, ?_⟩
        rw [Array.toArray_toList]
        exact hS
      · rw [off b hb hb2] at q
        exact (I.hok b u q).stay (fun d v _ y => hk d v y) (fun d y => kp d _ y) fun d xs y => kp d _ y
theorem two_no {n i j : Nat} (h1 : i < n) (h2 : j < n) : n ∉ [i, j] := fun m => by
  simp only [List.mem_cons, List.not_mem_nil, or_false] at m
  omega
/-- a list or a tuple -/
def SqA (K : PySem.W.Frag) (H : Hp) (a : Addr) (xs : List V) : Prop := SqL K H a xs ∨ SqT K H a xs
/-- what a loop over it begins with -/
theorem sqA_begins {a : Addr} {xs : List V} (I : Inv X pins σ H s) (h : SqA X.K H a xs) : ∃ (us : List Value) (o : Obj) (Hc : Heap → Prop) (St : Addr → Nat → Heap → Prop), Vals xs us ∧ xs.length ≤ sizeLine ∧ a < s.heap.objs.size ∧ Begins (.ref a) o Hc ∧ Hc s.heap ∧
    (∀ (A : Around) (it : Addr), A.handled = none → a ≠ it → Draws X.prog X.w A it [it, a] us.toArray.size (fun i v => us.toArray[i]? = some v) (St it)) ∧ ∀ (it : Addr) (h' : Heap), h'.get? it = some o → (∀ b u, s.heap.get? b = some u → h'.get? b = some u) → St it 0 h' := by
  rcases h with h | h
  · obtain ⟨us, r, p, z⟩ := I.list h
    have p2 : s.heap.IsList a us.toArray := p.isList
    exact ⟨us, _, _, fun it i h => h.IsListIter it a i ∧ h.IsList a us.toArray, r, z, p.lt, begins_list a us.toArray, p2, fun A it hh ne => Draws.list hh it a ne us.toArray, fun it h' e k => ⟨⟨_, e, rfl, rfl⟩, p2.at fun o q => k a o q⟩⟩
  · obtain ⟨us, r, p, z⟩ := I.tuple h
    have p2 : s.heap.IsTuple a us.toArray := p
    have lt : a < s.heap.objs.size := by
      obtain ⟨o, e, _⟩ := id p
      exact Heap.lt_size e
    exact ⟨us, _, _, fun it i h => h.IsTupleIter it a i ∧ h.IsTuple a us.toArray, r, z, lt, begins_tuple a us.toArray, p2, fun A it hh ne => Draws.tuple hh it a ne us.toArray, fun it h' e k => ⟨⟨_, e, rfl, rfl⟩, p2.at fun o q => k a o q⟩⟩
def tListZip (K : PySem.W.Frag) (ta : TA) : TE := fun σ H Q => ta σ H fun vs H1 => ∃ a b xs ys, vs = [.ref a, .ref b] ∧ SqA K H1 a xs ∧ SqA K H1 b ys ∧ rPairs xs ys H1 Q
/-- list(zip(a, b)) -/
theorem pe_listZip {e1 e2 : Expr} {p p2 zpos pos : Pos} {ta : TA} (hc : X.calm = true) (hg : Gl X "list") (hm : X.mg "list" = none) (hg2 : Gl X "zip") (hm2 : X.mg "zip" = none) (ha : PA X [e1, e2] ta)
    (hs : starEach [e1, e2] X.env = (false, eval e1 X.env) :: starEach [e2] X.env := by rfl) (hpl : (backTo zpos (starEach [e2] X.env)).any (·.1) = false := by rfl)
    (hs2 : starEach [.Call (.Name "zip" p2) [e1, e2] [] zpos] X.env = (false, eval (.Call (.Name "zip" p2) [e1, e2] [] zpos) X.env) :: starEach [] X.env := by rfl) :
    PE X (.Call (.Name "list" p) [.Call (.Name "zip" p2) [e1, e2] [] zpos] [] pos) (tListZip X.K ta) := by
  refine ⟨fun pins s σ H Q I h => ?_⟩
  refine wpAny_Call_Name_kw (ld_blt I hg hm (u := .type "list") (by first | rfl | decide +kernel) ?_)
  refine PyProof.Rows.callWith_type1 ?_ hs2 rfl
  rw [hs2]
  show wpAny _ _ (spliced ((false, eval (.Call (.Name "zip" p2) [e1, e2] [] zpos) X.env) :: backTo pos (starEach [] X.env))) _ _ s
  refine Calls.spliced_cons ?_
  refine Call_ (ld_blt I hg2 hm2 PyProof.Rows.boot_zip (PyProof.Rows.callWith_type1 (thn (ha.run zpos pins s σ H _ I h) fun us s1 ⟨vs, H1, I1, r1, q1⟩ => ?_) hs hpl))
  obtain ⟨a, b, xs, ys, ex, sx, sy, q⟩ := q1
  subst ex
  cases r1 with
  | cons r rr =>
    cases rr with
    | cons r' rr =>
      cases rr
      cases r
      cases r'
      obtain ⟨ux, ox, Hx, Sx, rx, zx, lx, Bx, hx, Dx, bx⟩ := sqA_begins I1 sx
      obtain ⟨uy, oy, Hy, Sy, ry, zy, ly, By, hy, Dy, byy⟩ := sqA_begins I1 sy
      refine zip_begins2 Bx By hx hy fun h' zz ti to e1 e2 sz k => ?_
      refine Calls.spliced_nil ?_
      have hd : ∀ A : Around, A.handled = none → A.in1.in1.in1.handled = none := fun A h => h
      have sx' : ux.toArray.size = ux.length := by simp
      have sy' : uy.toArray.size = uy.length := by simp
      have lxx := rx.length
      refine lz_call (s := { s1 with heap := h' }) (z := s1.heap.objs.size + 4) (TI := s1.heap.objs.size + 2) (TO := s1.heap.objs.size + 3) (i1 := s1.heap.objs.size) (i2 := s1.heap.objs.size + 1)
        (zip_sep2 (fp1 := [a]) (fp2 := [b]) (fun c m => by rw [List.mem_singleton.mp m]; exact lx) (fun c m => by rw [List.mem_singleton.mp m]; exact ly))
        ⟨by show _ < h'.objs.size; omega, by show _ < h'.objs.size; omega, by show _ < h'.objs.size; omega, by show _ < h'.objs.size; omega, by show _ < h'.objs.size; omega⟩
        (Dx _ _ (I.ok.hd hc) (Nat.ne_of_lt lx)) (Dy _ _ (I.ok.hd hc) (Nat.ne_of_lt (Nat.lt_succ_of_lt ly)))
        (two_no (show s1.heap.objs.size < h'.objs.size by omega) (Nat.lt_trans lx (show s1.heap.objs.size < h'.objs.size by omega)))
        (two_no (show s1.heap.objs.size + 1 < h'.objs.size by omega) (Nat.lt_trans ly (show s1.heap.objs.size < h'.objs.size by omega)))
        ⟨ti, bx _ _ e1 k, byy _ _ e2 k, zz, _, _, to⟩ (by rw [sx']; omega) fun h'' tk acc c as k2 eL la hG hacc => ?_
      have kk : ∀ c o, s1.heap.get? c = some o → h''.get? c = some o := fun c o e => by
        have lt : c < s1.heap.objs.size := Heap.lt_size e
        exact k2 c o (Nat.ne_of_lt (Nat.lt_of_lt_of_le lt (Nat.le_add_right _ _))) (Nat.ne_of_lt (Nat.lt_of_lt_of_le lt (Nat.le_add_right _ _))) (Nat.ne_of_lt lt) (Nat.ne_of_lt (Nat.lt_of_lt_of_le lt (Nat.le_add_right _ _))) (k c o e)
      obtain ⟨H', J, qq⟩ := pairs_laid (tk := tk) (S := h'.objs.size) I1 zx rx ry (by omega) kk eL (by rw [la, sx', sy']) hG hacc q
      exact ⟨.ref _, H', J, rfl, qq⟩
end
end Q0

/-! a tuple beside the empty one; slices of tuples that may be whole. -/
namespace Q0
open PySem PySem.Spec PyProof.Rows L2
section
variable {X : Cx}
/-- t == () -/
def rEqE (K : PySem.W.Frag) : R2 := fun x y H Q => ∃ a b xs, x = .ref a ∧ y = .ref b ∧ SqT K H a xs ∧ SqT K H b [] ∧ Q (.bl (decide (xs = []))) H
theorem op_eqE (hu : X.A.units < cLine) : OpR X (compareOp .Eq) (rEqE X.K) := by
  intro pins s σ H x y v u Q I rx ry h
  obtain ⟨a, b, xs, rfl, rfl, ha, hb, q⟩ := h
  cases rx
  cases ry
  obtain ⟨its, r, p, _⟩ := I.tuple ha
  obtain ⟨its2, r2, p2, _⟩ := I.tuple hb
  cases r2
  refine SeqAt.eq_tupleAt (e := fun _ => true) (show s.heap.IsTuple a its.toArray from p) (show s.heap.IsTuple b ([] : List Value).toArray from p2) hu (fun j h1 h2 => absurd h2 (by simp)) ?_
  have e : ((List.range (min its.toArray.size ([] : List Value).toArray.size)).all (fun _ => true) && its.toArray.size == ([] : List Value).toArray.size) = decide (xs = []) := by
    have l := r.length
    rw [Bool.eq_iff_iff]
    cases xs with
    | nil => cases its with
      | nil => simp
      | cons => simp at l
    | cons => cases its with
      | nil => simp at l
      | cons => simp
  exact ⟨.bl _, H, I, by rw [e]; rfl, q⟩
end
/-- xs[1:] -/
theorem cut_tail (xs : List V) : cutV xs (some 1) none = xs.drop 1 := by
  unfold cutV
  cases xs <;> simp [HT.sIx]
theorem slA_tail {K : PySem.W.Frag} {a : Addr} {x : V} {xs : List V} {H : Hp} {Q : VK} (ha : H a = some (.tup (x :: xs))) (h : ∀ (c : Addr) (H' : Hp), Same H H' → H' c = some (.tup xs) → Q (.ref c) H') : rSlA K (.ref a) (some 1) none H Q := by
  refine ⟨a, _, rfl, SqT.of ha, fun w => ?_, fun _ p hp => h p _ (same_new hp _) (by rw [cut_tail]; exact upd_same)⟩
  have w1 := w.1
  simp [HT.sIx] at w1
end Q0

/-! a list beside the empty one. -/
namespace Q0
open PySem PySem.Spec PyProof.Rows L2
section
variable {X : Cx}
/-- l != [] -/
def rNeL (K : PySem.W.Frag) : R2 := fun x y H Q => ∃ a b xs, x = .ref a ∧ y = .ref b ∧ SqL K H a xs ∧ SqL K H b [] ∧ Q (.bl (!decide (xs = []))) H
theorem op_neL (hu : X.A.units < cLine) : OpR X (compareOp .NotEq) (rNeL X.K) := by
  intro pins s σ H x y v u Q I rx ry h
  obtain ⟨a, b, xs, rfl, rfl, ha, hb, q⟩ := h
  cases rx
  cases ry
  obtain ⟨its, r, p, _⟩ := I.list ha
  obtain ⟨its2, r2, p2, _⟩ := I.list hb
  cases r2
  have l := r.length
  have p1 : s.heap.IsList a its.toArray := p.isList
  have p3 : s.heap.IsList b ([] : List Value).toArray := p2.isList
  cases xs with
  | nil => cases its with
    | cons => simp at l
    | nil =>
      refine SeqAt.RcNeAt.lists (e := fun _ => true) p1 p3 rfl hu (fun j h1 h2 => absurd h2 (by simp)) _ _ _ _ ?_
      exact ⟨.bl false, H, I, rfl, q⟩
  | cons => cases its with
    | nil => simp at l
    | cons =>
      refine SeqAt.RcNeAt.lists_lengths p1 p3 (by simp) hu _ _ _ _ ?_
      exact ⟨.bl true, H, I, rfl, q⟩
/-- l == [] -/
def rEqL (K : PySem.W.Frag) : R2 := fun x y H Q => ∃ a b xs, x = .ref a ∧ y = .ref b ∧ SqL K H a xs ∧ SqL K H b [] ∧ Q (.bl (decide (xs = []))) H
theorem op_eqL (hu : X.A.units < cLine) : OpR X (compareOp .Eq) (rEqL X.K) := by
  intro pins s σ H x y v u Q I rx ry h
  obtain ⟨a, b, xs, rfl, rfl, ha, hb, q⟩ := h
  cases rx
  cases ry
  obtain ⟨its, r, p, _⟩ := I.list ha
  obtain ⟨its2, r2, p2, _⟩ := I.list hb
  cases r2
  have l := r.length
  have p1 : s.heap.IsList a its.toArray := p.isList
  have p3 : s.heap.IsList b ([] : List Value).toArray := p2.isList
  cases xs with
  | nil => cases its with
    | cons => simp at l
    | nil =>
      refine SeqAt.eq_listAt (e := fun _ => true) p1 p3 rfl hu (fun j h1 h2 => absurd h2 (by simp)) ?_
      exact ⟨.bl true, H, I, rfl, q⟩
  | cons => cases its with
    | nil => simp at l
    | cons =>
      refine SeqAt.eq_list_lengthsAt p1 p3 (by simp) hu ?_
      exact ⟨.bl false, H, I, rfl, q⟩
end
end Q0

/-! sorted(d), d a dict of texts. -/
namespace Q0
open PySem PySem.Spec PyProof.Rows L2
theorem strs_of_get : ∀ {us : List Value} {ns : List Str}, us.length = ns.length → (∀ (i : Nat) (u : Value), us[i]? = some u → ∃ x t, ns[i]? = some x ∧ u = .str x t) → StrsAre us ns
  | [], [], _, _ => .nil
  | u :: us, n :: ns, l, h => by
    obtain ⟨x, t, e, rfl⟩ := h 0 u rfl
    cases e
    exact .cons _ t (strs_of_get (by simpa using l) fun i v e => h (i + 1) v (by simpa using e))
  | [], _ :: _, l, _ => by cases l
  | _ :: _, [], l, _ => by cases l
section
variable {X : Cx}
def rSortDK : List V → Hp → VK → Prop := fun vs H Q => ∃ (a : Addr) (kvs : List (Key × V)) (ns : List Str), vs = [.ref a] ∧ H a = some (.dK kvs) ∧ kvs.map (·.1) = ns.map (fun n => (Sum.inr n : Key)) ∧ ns.length < 64 ∧
  ∀ (ys : List Str) (p : Addr), ys.Perm ns → sortedS ys = true → H p = none → Q (.ref p) (upd H p (.lst (ys.map V.str)))
theorem cr_sortDK (hc : X.calm = true) : CallR X (.builtin "sorted") rSortDK := by
  intro pins s σ H vs us Q I r h
  obtain ⟨a, kvs, ns, rfl, ha, ek, few, q⟩ := h
  rw [Vals.ref1 r]
  obtain ⟨_, nsys, xs, rel, dof⟩ := dk_of I.hok ha
  obtain ⟨es, ep, raw, sz, hat⟩ := dof.raw
  have lkv : kvs.length = xs.length := KV.length rel
  have lns : kvs.length = ns.length := by have := congrArg List.length ek; simpa using this
  refine Calls.call_function_entry kind_sorted plain_sorted entry_sorted (args_sorted1 _) ?_
  unfold Builtin.«sorted»
  refine wpAny_bind (m := checkCount "sorted" 1 1 _) (wpAny_pure ?_)
  refine wpAny_bind (PySem.W.kdu_collect (KdlSrc.rawDict (ep := ep) nsys) (I.ok.hd hc) raw (by rw [sz, ← lkv, lns]; exact small64 few) fun h' tk acc hk hacc => ?_)
  have la : acc.size = es.size := hacc.1
  have sS : StrsAre acc.toList ns := by
    refine strs_of_get (by rw [Array.length_toList, la, sz, ← lkv, lns]) fun i u eu => ?_
    rw [Array.getElem?_toList] at eu
    obtain ⟨hi, rfl⟩ := hacc.2 i u eu
    have hv : i < xs.length := sz ▸ hi
    obtain ⟨x, h1, _⟩ := KV.at' rel (k := xs[i].1) (v := xs[i].2) (List.getElem?_eq_getElem hv)
    have hk1 := (hat i hi xs[i].1 xs[i].2 (List.getElem?_eq_getElem hv)).1
    have e1 : (kvs.map (·.1))[i]? = some xs[i].1 := by rw [List.getElem?_map, h1]; rfl
    rw [ek, List.getElem?_map] at e1
    obtain ⟨n, en, e2⟩ := Option.map_eq_some_iff.mp e1
    have rk := relV_key hk1
    rw [← e2] at rk
    obtain ⟨t, e3⟩ := rk
    exact ⟨n, t, en, e3⟩
  have vl : acc.toList.length < 64 := by rw [sS.len_eq]; exact few
  refine wpAny_bind (wpAny_newList ?_ (small64 vl))
  have eL : (h'.push (seqObj "list" acc.toList.toArray 0)).get? h'.objs.size = some (seqObj "list" acc.toList.toArray 0) := Heap.get?_push_size _ rfl
  refine wpAny_bind (wpAny_holding (wpAny_call_entry slot_list_sort ⟨_, eL, rfl⟩ entry_list_sort (list_sort_treeK strKind_oneLt eL sS.keysOf (fun v₁ v₂ rest e => keyKind_strs (ss := ns) (by rw [← e]; exact sS)) vl fun st hp hs => ?_) (args_list_sort _)))
  obtain ⟨ys, h1, h2, h3⟩ := sorted_out_str sS hp hs
  obtain ⟨c, ec⟩ := sortedHeap_at (vs := acc.toList) (out := (arrOf st).map (·.2)) eL
  have lz : (ys.map V.str).length ≤ sizeLine := by rw [List.length_map, h2.length_eq]; exact small64 few
  have J : Inv X pins σ H { s with heap := h', toks := tk } := I.kept (t' := tk) hk
  have fr : H h'.objs.size = none := J.hok.fresh (Nat.le_refl _)
  have kp : ∀ b u, h'.get? b = some u → (sortedHeap (h'.push (seqObj "list" acc.toList.toArray 0)) h'.objs.size acc.toList (Array.map (fun x => x.snd) (arrOf st))).get? b = some u := fun b u e => by
    have lb := Heap.lt_size e
    rw [sortedHeap_old (Nat.ne_of_lt lb) (by rw [size_push']; exact Nat.lt_succ_of_lt lb)]
    exact Heap.get?_push_of_some _ e
  refine ⟨_, rfl, wpAny_pure ⟨_, rfl, ?_⟩⟩
  exact ⟨.ref h'.objs.size, _, J.laid (t' := _) kp (Nat.le_refl _) (o := .lst (ys.map V.str)) ⟨lz, _, c, vals_of_strs h1, ec⟩, rfl, q ys h'.objs.size h2 h3 fr⟩
end
end Q0

/-! sorted(xs), xs a list of tuples of texts and such tuples, nested; the list is one, however xs stands. -/
namespace Q0
open PySem PySem.Spec PyProof.Rows L2 PySem.W

/-! ### plain terms: a text and plain terms -/
mutual
def plB : PyData → Bool
  | .tuple ds => plH ds
  | _ => false
def plH : List PyData → Bool
  | .str _ :: ps => plL ps
  | _ => false
def plL : List PyData → Bool
  | [] => true
  | d :: ds => plB d && plL ds
end
theorem plL_all : ∀ {ds : List PyData}, plL ds = true → ∀ d ∈ ds, plB d = true
  | [], _, _, hd => by cases hd
  | e :: ds, h, d, hd => by
    rw [plL, Bool.and_eq_true] at h
    rcases List.mem_cons.mp hd with z | z
    · subst z; exact h.1
    · exact plL_all h.2 d z
theorem plL_of : ∀ {ds : List PyData}, (∀ d ∈ ds, plB d = true) → plL ds = true
  | [], _ => by rw [plL]
  | d :: ds, h => by
    rw [plL, h d (List.mem_cons_self ..), plL_of fun e he => h e (List.mem_cons_of_mem _ he)]
    rfl
theorem plB_of {d : PyData} (h : plB d = true) : ∃ x ps, d = .tuple (.str x :: ps) ∧ ∀ p ∈ ps, plB p = true := by
  cases d with
  | tuple ds =>
    rw [plB] at h
    cases ds with
    | nil => rw [plH] at h; cases h; intros; simp_all
    | cons a ps =>
      cases a with
      | str x =>
        rw [plH] at h
        exact ⟨x, ps, rfl, plL_all h⟩
      | _ => rw [plH] at h; cases h; intros; simp_all
  | _ => rw [plB] at h; cases h; intros; simp_all
theorem plB_mk {x : Str} {ps : List PyData} (h : ∀ p ∈ ps, plB p = true) : plB (.tuple (.str x :: ps)) = true := by
  rw [plB, plH]
  exact plL_of h
theorem sz_in {p : PyData} {ps : List PyData} (h : p ∈ ps) : sizeOf p < sizeOf ps := List.sizeOf_lt_of_mem h
theorem sz_tup {a : PyData} {ps : List PyData} : sizeOf ps < sizeOf (PyData.tuple (a :: ps)) := by
  rw [PyData.tuple.sizeOf_spec, List.cons.sizeOf_spec]
  omega
theorem alike_plN : ∀ (n : Nat) (x y : PyData), sizeOf x ≤ n → plB x = true → plB y = true → alike x y = true
  | 0, x, _, h, hx, _ => by
    obtain ⟨a, ps, rfl, _⟩ := plB_of hx
    have := sz_tup (a := .str a) (ps := ps)
    omega
  | n + 1, x, y, h, hx, hy => by
    obtain ⟨a, ps, rfl, hp⟩ := plB_of hx
    obtain ⟨b, qs, rfl, hq⟩ := plB_of hy
    have s1 := sz_tup (a := .str a) (ps := ps)
    have all : ∀ ps qs : List PyData, (∀ p ∈ ps, sizeOf p ≤ n ∧ plB p = true) → (∀ q ∈ qs, plB q = true) → alikeAll ps qs = true := fun ps => by
      induction ps with
      | nil => intro qs _ _; simp [alikeAll]
      | cons p ps ih =>
        intro qs h1 h2
        cases qs with
        | nil => simp [alikeAll]
        | cons q qs =>
          rw [alikeAll, alike_plN n p q (h1 p (List.mem_cons_self ..)).1 (h1 p (List.mem_cons_self ..)).2 (h2 q (List.mem_cons_self ..)), ih qs (fun r hr => h1 r (List.mem_cons_of_mem _ hr)) fun r hr => h2 r (List.mem_cons_of_mem _ hr)]
          rfl
    have := all ps qs (fun p m => ⟨by have := sz_in m; omega, hp p m⟩) hq
    simp [alike, alikeAll, this]
theorem alike_pl {x y : PyData} (hx : plB x = true) (hy : plB y = true) : alike x y = true := alike_plN _ x y (Nat.le_refl _) hx hy
theorem eqv_plN : ∀ (n : Nat) (x y : PyData), sizeOf x ≤ n → plB x = true → plB y = true → PyData.eqv x y = true → x = y
  | 0, x, _, h, hx, _, _ => by
    obtain ⟨a, ps, rfl, _⟩ := plB_of hx
    have := sz_tup (a := .str a) (ps := ps)
    omega
  | n + 1, x, y, h, hx, hy, e => by
    obtain ⟨a, ps, rfl, hp⟩ := plB_of hx
    obtain ⟨b, qs, rfl, hq⟩ := plB_of hy
    have s1 := sz_tup (a := .str a) (ps := ps)
    have all : ∀ ps qs : List PyData, (∀ p ∈ ps, sizeOf p ≤ n ∧ plB p = true) → (∀ q ∈ qs, plB q = true) → PyData.eqvAll ps qs = true → ps = qs := fun ps => by
      induction ps with
      | nil =>
        intro qs _ _ e
        cases qs with
        | nil => rfl
        | cons q qs => simp [PyData.eqvAll] at e
      | cons p ps ih =>
        intro qs h1 h2 e
        cases qs with
        | nil => simp [PyData.eqvAll] at e
        | cons q qs =>
          rw [eqv_all_cons, Bool.and_eq_true] at e
          rw [eqv_plN n p q (h1 p (List.mem_cons_self ..)).1 (h1 p (List.mem_cons_self ..)).2 (h2 q (List.mem_cons_self ..)) e.1, ih qs (fun r hr => h1 r (List.mem_cons_of_mem _ hr)) (fun r hr => h2 r (List.mem_cons_of_mem _ hr)) e.2]
    have e : PyData.eqvAll (.str a :: ps) (.str b :: qs) = true := by simpa [PyData.eqv] using e
    rw [eqv_all_cons, Bool.and_eq_true] at e
    have e1 : a = b := by simpa [PyData.eqv] using e.1
    rw [e1, all ps qs (fun p m => ⟨by have := sz_in m; omega, hp p m⟩) hq e.2]
theorem toks_pl {x y : PyData} (hx : plB x = true) (hy : plB y = true) (e : keyToks x = keyToks y) : x = y := by
  obtain ⟨h1, h2⟩ := toks_eqv x y (alike_pl hx hy)
  cases c : PyData.eqv x y with
  | true => exact eqv_plN _ x y (Nat.le_refl _) hx hy c
  | false =>
    have q := h2 c [] [.inl 0]
    rw [e] at q
    have q1 := lex_pre (keyToks y) [] [.inl 0]
    rw [q1, lex_irrefl] at q
    exact absurd q (by first | decide | (intro z; cases z) | simp [PyProof.Rows.lexLt])
/-- the one list of these in order -/
def srtD (ds : List PyData) : List PyData := ds.mergeSort (dataLe false id)
theorem srtD_perm (ds : List PyData) : (srtD ds).Perm ds := List.mergeSort_perm ds _
theorem srtD_len (ds : List PyData) : (srtD ds).length = ds.length := (srtD_perm ds).length_eq
theorem srtD_eq {L M : List PyData} (hp : ∀ d ∈ L, plB d = true) (h : L.Perm M) : srtD L = srtD M := by
  have tot : TotalLe (dataLe (β := PyData) false id) := sortLe_total _ false _
  refine List.Perm.eq_of_pairwise (le := fun a b => dataLe (β := PyData) false id a b = true) (fun a b ha hb h1 h2 => ?_) (sort_pairwise tot L) (sort_pairwise tot M) ((srtD_perm L).trans (h.trans (srtD_perm M).symm))
  have pa := hp a ((srtD_perm L).mem_iff.mp ha)
  have pb := hp b (h.symm.mem_iff.mp ((srtD_perm M).mem_iff.mp hb))
  refine toks_pl pa pb ((listOrd itemOrd).total _ _ ?_ ?_)
  · have h2 : (!(listOrd itemOrd).blt (keyToks a) (keyToks b)) = true := h2
    simpa using h2
  · have h1 : (!(listOrd itemOrd).blt (keyToks b) (keyToks a)) = true := h1
    simpa using h1
/-! ### the rule -/
theorem each_of_dd {H : Hp} : ∀ {vs : List V} {us : List Value} {ds : List PyData}, DdA H vs ds → Vals vs us → EachIs (fun u d => ∃ v, Dd H v d ∧ RelV v u) us ds
  | _, _, _, .nil, r => by cases r; exact .nil
  | _, _, _, .cons h t, r => by
    cases r with
    | cons r1 r2 => exact .cons ⟨_, h, r1⟩ (each_of_dd t r2)
theorem dd_of_each {H : Hp} : ∀ {us : List Value} {ds : List PyData}, EachIs (fun u d => ∃ v, Dd H v d ∧ RelV v u) us ds → ∃ vs, DdA H vs ds ∧ Vals vs us
  | _, _, .nil => ⟨[], .nil, .nil⟩
  | _, _, .cons ⟨v, h, r⟩ t => by
    obtain ⟨vs, h1, h2⟩ := dd_of_each t
    exact ⟨v :: vs, .cons h h1, .cons r h2⟩
section
variable {X : Cx}
def rSortDd (K : PySem.W.Frag) : List V → Hp → VK → Prop := fun vs H Q => ∃ (a : Addr) (xs : List V) (ds : List PyData), vs = [.ref a] ∧ SqL K H a xs ∧ DdA H xs ds ∧ (∀ d ∈ ds, plB d = true ∧ d.depth ≤ 60) ∧
  ∀ ys p, DdA H ys (srtD ds) → H p = none → Q (.ref p) (upd H p (.lst ys))
theorem cr_sortDd (hu : X.A.units + 64 < cLine) : CallR X (.builtin "sorted") (rSortDd X.K) := by
  intro pins s σ H vs us Q I r h
  obtain ⟨a, xs, ds, rfl, hs, hd, hp, q⟩ := h
  obtain ⟨its, rv, hl, hz⟩ := I.list hs
  obtain ⟨u, rfl, ru⟩ := vals1 r
  obtain rfl : u = Value.ref a := ru
  have el := each_of_dd hd rv
  have lx := hd.length
  have er : EachIs (fun v d => ∃ as, Reads s.heap v (id d) as) its ds := el.mono fun u d ⟨v, h1, h2⟩ => by
    obtain ⟨as, h3, _⟩ := Dd.reads I d v u h1 h2
    exact ⟨as, h3⟩
  have mem : ∀ d ∈ ds.map (id : PyData → PyData), d ∈ ds := fun d hd => by rw [List.map_id] at hd; exact hd
  refine sorted_data (enc := id) hl.isList el er (fun d h1 d' h2 => alike_pl (hp d (mem d h1)).1 (hp d' (mem d' h2)).1) (.inl fun d h1 => ?_) (by omega) (fun d hd => ?_) fun out ol eo => ?_
  · obtain ⟨x, ps, e, _⟩ := plB_of (hp d (mem d h1)).1
    exact ⟨_, _, e⟩
  · have := (hp d hd).2
    show _ + d.depth < _
    omega
  · obtain ⟨ys, h1, h2⟩ := dd_of_each eo
    obtain ⟨c, hc⟩ := sortedAll_at s.heap its out.toArray
    refine ⟨.ref (s.heap.objs.size + 1), _, I.laid (t' := s.toks) (fun b o e => sortedAll_old e) (Nat.le_succ _) (o := .lst ys) ⟨?_, out, c, h2, hc⟩, rfl, q ys _ h1 (I.hok.fresh (Nat.le_succ _))⟩
    rw [h1.length]
    show (srtD ds).length ≤ _
    rw [srtD_len]
    omega
end
end Q0

namespace Q0
open PySem PySem.Spec PyProof.Rows L2
def top (i : Nat) : Stmt := PySem.Challenge.pw_instances_k03_terms_and_patterns_of_anyt.main.body.getD i (.Pass ⟨0, 0, 0, 0⟩)
abbrev s_is_whole : Stmt := top 4
abbrev s_is_name : Stmt := top 5
abbrev s_is_tuple : Stmt := top 6
abbrev s_is_among : Stmt := top 7
abbrev s_are_unlike : Stmt := top 8
abbrev s_is_signature : Stmt := top 20
abbrev s_are_kinds_told : Stmt := top 21
abbrev s_is_kind_told : Stmt := top 22
abbrev s_are_makers_told : Stmt := top 23
abbrev s_is_maker_told : Stmt := top 24
abbrev s_have_terms : Stmt := top 25
abbrev s_check_signature : Stmt := top 26
abbrev s_check_kind : Stmt := top 27
abbrev s_check_kinds : Stmt := top 28
abbrev s_kind_names : Stmt := top 29
abbrev s_open_kinds : Stmt := top 30
abbrev s_makers_by_name : Stmt := top 31
abbrev s_makers_by_kind : Stmt := top 32
abbrev s_terms : Stmt := top 33
abbrev s_sizes_of_terms : Stmt := top 34
abbrev s_splits : Stmt := top 35
abbrev s_terms_of_size : Stmt := top 36
abbrev s_is_term : Stmt := top 38
abbrev s_is_closed_term : Stmt := top 39
abbrev s_is_stranger : Stmt := top 40
abbrev s_is_made : Stmt := top 41
abbrev s_are_patterns : Stmt := top 42
abbrev s_are_right_patterns : Stmt := top 43
abbrev s_is_variable : Stmt := top 44
abbrev s_well : Stmt := top 46
abbrev s_draw : Stmt := top 47
abbrev s_one : Stmt := top 48
abbrev s_mixed : Stmt := top 49
abbrev s_lis_whole : Stmt := top 50
abbrev s_odd_thing : Stmt := top 51
abbrev s_bent : Stmt := top 52
abbrev s_lis_name : Stmt := top 53
abbrev s_is_pair : Stmt := top 54
abbrev s_makers : Stmt := top 55
abbrev s_is_open : Stmt := top 56
abbrev s_is_term_of : Stmt := top 57
abbrev s_lis_term : Stmt := top 58
abbrev s_lare_patterns : Stmt := top 59
abbrev s_placed : Stmt := top 60
abbrev s_names : Stmt := top 61
abbrev s_swapped : Stmt := top 62
abbrev s_size : Stmt := top 63
abbrev s_ways : Stmt := top 64
abbrev s_closed : Stmt := top 65
abbrev s_held : Stmt := top 66
abbrev s_some_sig : Stmt := top 67
abbrev s_turned : Stmt := top 68
abbrev s_sig : Stmt := top 69
abbrev s_kinds : Stmt := top 70
abbrev s_least : Stmt := top 71
abbrev s_pattern : Stmt := top 72
abbrev s_patterns : Stmt := top 73
abbrev s_term : Stmt := top 74
abbrev s_instance : Stmt := top 75
abbrev s_shuffled : Stmt := top 76
abbrev s_things : Stmt := top 77
abbrev s_right : Stmt := top 78
abbrev s_law : Stmt := top 79
/-- the constants of the modules -/
structure Cn (mg : Str → Option Value) : Prop where
  LETTERS : ∃ u, mg "LETTERS" = some u ∧ RelV (.str "abcdefghijklmnopqrstuvwxyz") u
  NAME_SIGNS : ∃ u, mg "NAME_SIGNS" = some u ∧ RelV (.str "abcdefghijklmnopqrstuvwxyz0123456789_") u
  LONGEST_NAME : ∃ u, mg "LONGEST_NAME" = some u ∧ RelV (.int 12) u
  MOST_KINDS : ∃ u, mg "MOST_KINDS" = some u ∧ RelV (.int 8) u
  MOST_MAKERS : ∃ u, mg "MOST_MAKERS" = some u ∧ RelV (.int 24) u
  MOST_NEEDS : ∃ u, mg "MOST_NEEDS" = some u ∧ RelV (.int 3) u
  MOST_PLACES : ∃ u, mg "MOST_PLACES" = some u ∧ RelV (.int 4) u
  MOST_SIZE : ∃ u, mg "MOST_SIZE" = some u ∧ RelV (.int 8) u
/-- a constant, told by its name -/
theorem pe_cn {X : Cx} {x : Str} {v : V} {pos : Pos} (hg : Gl X x) (h : ∃ u, X.mg x = some u ∧ RelV v u) (hd : (x == ("__debug__" : Str)) = false := by decide) : PE X (.Name x pos) (tC v) :=
  let ⟨_, a, b⟩ := h
  pe_glob hg a b hd

theorem upd_at {H : Hp} {a b : Addr} {u : HO} {o : Option HO} (n : b ≠ a) (h : H b = o) : upd H a u b = o := (upd_ne n).trans h

/-- side conditions -/
local macro_rules | `(tactic| walk_at "sd") => `(tactic| first
  | assumption
  | exact Or.inr ⟨by omega, by omega⟩
  | exact Or.inl ⟨by omega, by omega⟩
  | (show _ ≤ sizeLine; rw [sizeLine_eq]; simp only [List.length_cons, List.length_nil, List.length_append, List.length_map]; omega)
  | (show _ < sizeLine; rw [sizeLine_eq]; simp only [List.length_cons, List.length_nil, List.length_append, List.length_map]; omega)
  | exact ⟨by omega, by omega⟩
  | exact (by decide : _ ≠ _)
  | omega)
/-- what stands at an address -/
local macro_rules | `(tactic| walk_at "hp") => `(tactic| first
  | assumption
  | exact upd_same
  | (refine' upd_at ?hn ?hh; (case hn => first | assumption | (apply Ne.symm; assumption)); (case hh => walk_at "hp")))
/-- a reading, as far as it goes by itself -/
local macro_rules | `(tactic| walk_at "rd1") => `(tactic| first
  | refine ⟨_, rfl, ?_⟩
  | refine ⟨_, _, rfl, rfl, ?_⟩
  | (refine' ⟨_, _, _, _, rfl, rfl, SqL.of ?h1, ?h2, ?_⟩; (case h1 => walk_at "hp"); (case h2 => rfl))
  | (refine' ⟨_, _, _, _, rfl, rfl, SqT.of ?h1, ?h2, ?_⟩; (case h1 => walk_at "hp"); (case h2 => rfl))
  | (refine' ⟨_, _, _, _, rfl, rfl, ?h1, ?h2, ?_⟩; (case h1 => walk_at "hp"); (case h2 => rfl))
  | (refine' ⟨_, _, rfl, SqT.of ?h1, ?h2, ?_⟩; (case h1 => walk_at "hp"); (case h2 => rfl))
  | refine Or.inl ⟨_, rfl, ?_⟩
  | refine And.intro rfl ?_
  | refine And.intro (by walk_at "sd") ?_
  | refine ⟨_, _, rfl, ?_⟩)
local macro_rules | `(tactic| walk_at "rd") => `(tactic| first | (walk_at "rd1"; walk_at "rd") | skip)
local macro_rules | `(tactic| walk_at "st") => `(tactic| repeat (first | exact stab_T | exact stab_V | refine stab_and ?_ ?_))
local macro_rules | `(tactic| walk_at "pre") => `(tactic| repeat (first | exact True.intro | exact ⟨_, rfl, by assumption⟩ | refine And.intro ?_ ?_))

section
variable {P : Program} {w : World} {K : PySem.W.Frag} {mg : Str → Option Value} {base : Heap}
theorem sc_draw : FnScope ["well", "few", "figure", "mixed"] ["well", "few"] (defScope s_draw) := ⟨rfl, rfl, rfl, by decide +kernel, rfl, by decide +kernel, by decide +kernel⟩
theorem ok_draw (D : Df K mg "_law_draw" s_draw) (B : Bi mg) : Gd P w K mg base CX0 1 "_law_draw" ["well", "few"] spDraw := by
  refine gd_of D (fun _ _ _ _ _ _ us hl => match us, hl with | [_, _], _ => rfl) fun f fd F => ?_
  refine fun_q F sc_draw (fun vs H Q E h => ?_) (fun cdv A outer s H vs Q E hr hq h => ?_)
  · obtain ⟨p, few, rfl, _⟩ := h
    rfl
  obtain ⟨p, few, rfl, ⟨a, m, c, N, hp⟩, f0, f1, k⟩ := h
  refine ⟨_, pss_cons (ps_if (pt_cmpR op_gt (pe_ix ix_list (pv 0) pe_int (fun _ _ => rfl)) pe_int (nomark _))
      (pss_cons (ps_asg (pe_callB call_divmod (by rfl) B.divmod PyProof.Rows.boot_divmod (pa_cons (pe_ix ix_list (pv 0) pe_int (fun _ _ => rfl)) (pa_cons (pv 1) pa_nil)))
        (pg_tup rfl (pgs_cons (pg_sub (pv 0) pe_int set_list) (pgs_cons (pg_name (i := 2) sc_draw.nd rfl (Or.inl rfl)) pgs_nil))))
        (pss_one (ps_ret (pv 2)))) pss_nil)
    (pss_cons (ps_asg (pe_op op_add (pe_ix ix_list (pv 0) pe_int (fun _ _ => rfl)) pe_int) (pg_sub (pv 0) pe_int set_list))
    (pss_cons (ps_set (i := 3) sc_draw.nd rfl (Or.inl rfl) (pe_op op_mod (pe_callTy call_int1 (by rfl) B.int PyProof.Rows.boot_int (pa_cons (pe_op op_add (pe_op op_mul (pe_ix ix_list (pv 0) pe_int (fun _ _ => rfl)) pe_int) (pe_op op_mul pe_int (pe_ix ix_list (pv 0) pe_int (fun _ _ => rfl)))) pa_nil)) pe_int))
    (pss_cons (ps_asg (pe_op op_mod (pe_callTy call_int1 (by rfl) B.int PyProof.Rows.boot_int (pa_cons (pe_op op_add (pe_op op_mul (pv 3) (pe_op op_add (pe_op op_mod (pe_callTy call_int1 (by rfl) B.int PyProof.Rows.boot_int (pa_cons (pv 3) pa_nil)) pe_int) pe_int)) (pe_ix ix_list (pv 0) pe_int (fun _ _ => rfl))) pa_nil)) pe_int) (pg_sub (pv 0) pe_int set_list))
    (pss_one (ps_ret (pe_op op_mod (pe_callTy call_int1 (by rfl) B.int PyProof.Rows.boot_int (pa_cons (pe_op op_fdiv (pe_ix ix_list (pv 0) pe_int (fun _ _ => rfl)) pe_int) pa_nil)) (pv 1))))))), ?_⟩
  walk_at "rd"
  refine ite2 (fun c0 => ?_) (fun c0 => ?_)
  · have a1 : 0 < a := of_decide_eq_true c0
    walk_at "rd"
    intro t ht
    have ep : p ≠ t := ne_of_none hp ht
    walk_at "rd"
    refine k _ _ (Int.emod_nonneg _ (by omega)) (Int.emod_lt_of_pos _ f0) ⟨_, _, _, ⟨?_, N.m0, N.m1, N.c0⟩, upd_same⟩ (But.refl.new ht).put
    exact Int.ediv_nonneg N.a0 (by omega)
  · walk_at "rd"
    refine k _ _ (Int.emod_nonneg _ (by omega)) (Int.emod_lt_of_pos _ f0) ⟨_, _, _, ⟨N.a0, ?_, ?_, ?_⟩, upd_same⟩ But.refl.put.put
    · exact Int.emod_nonneg _ (by decide)
    · exact Int.emod_lt_of_pos _ (by decide)
    · have := N.c0
      omega
theorem sc_one : FnScope ["well", "some"] ["well", "some"] (defScope s_one) := ⟨rfl, rfl, rfl, by decide +kernel, rfl, by decide +kernel, by decide +kernel⟩
theorem ok_one (D : Df K mg "_law_one" s_one) (B : Bi mg) (G : Gd P w K mg base CX0 1 "_law_draw" ["well", "few"] spDraw) : Gd P w K mg base CX0 2 "_law_one" ["well", "some"] (spOne K) := by
  refine gd_of D (fun _ _ _ _ _ _ us hl => match us, hl with | [_, _], _ => rfl) fun f fd F => ?_
  refine fun_q F sc_one (fun vs H Q E h => ?_) (fun cdv A outer s H vs Q E hr hq h => ?_)
  · obtain ⟨p, t, xs, rfl, _⟩ := h
    rfl
  obtain ⟨p, t, xs, rfl, W, hS, ne, l0, l1, k⟩ := h
  refine ⟨_, pss_one (ps_ret (pe_ix ix_tup (pv 1) (pe_g G hr hq (pa_cons (pv 0) (pa_cons (pe_callB call_len_seq (by rfl) B.len PySem.boot_len (pa_cons (pv 1) pa_nil)) pa_nil))) (fun _ _ => rfl))), ?_⟩
  walk_at "rd"
  refine ⟨_, _, rfl, .inr hS, p, _, rfl, W, by omega, by omega, fun d H' d0 d1 W' bt => ?_⟩
  have hd : d.toNat < xs.length := by omega
  refine ⟨t, xs, d, xs[d.toNat], rfl, rfl, bt.seq ne.symm hS, ?_, k d.toNat _ H' (List.getElem?_eq_getElem hd) W' bt⟩
  have e : d = ((d.toNat : Nat) : Int) := by omega
  have q : atI xs ((d.toNat : Nat) : Int) = some xs[d.toNat] := atI_nat (List.getElem?_eq_getElem hd)
  rw [← e] at q
  exact q
end

/-- _law_well(script, lap): a new well -/
def spWell (K : PySem.W.Frag) : Sp := fun vs H Q _ => ∃ (a : Addr) (ns : List Int) (lap : Int), vs = [.ref a, .int lap] ∧ SqL K H a (ns.map V.int) ∧ 0 ≤ lap ∧
  ∀ (p : Addr) (H' : Hp), H p = none → Same H H' → Well H' p → Q (.ref p) H'
section
variable {P : Program} {w : World} {K : PySem.W.Frag} {mg : Str → Option Value} {base : Heap}
theorem sc_well : FnScope ["script", "lap", "mixed", "cell", "own"] ["script", "lap"] (defScope s_well) := ⟨rfl, rfl, rfl, by decide +kernel, rfl, by decide +kernel, by decide +kernel⟩
theorem ok_well (D : Df K mg "_law_well" s_well) (B : Bi mg) : Gd P w K mg base CX0 1 "_law_well" ["script", "lap"] (spWell K) := by
  refine gd_of D (fun _ _ _ _ _ _ us hl => match us, hl with | [_, _], _ => rfl) fun f fd F => ?_
  refine fun_q F sc_well (fun vs H Q E h => ?_) (fun cdv A outer s H vs Q E hr hq h => ?_)
  · obtain ⟨a, ns, lap, rfl, _⟩ := h
    rfl
  obtain ⟨a, ns, lap, rfl, hS, l0, k⟩ := h
  refine ⟨_, pss_cons (ps_set (i := 2) sc_well.nd rfl (Or.inl rfl) (pe_op op_add pe_int (pe_op op_mul pe_int (pv 1))))
    (pss_cons (ps_for PassesOwn.never rfl (pi_list (pe_slice sl_list (pv 0) po_none (po_some pe_int))) (pg_name (i := 3) sc_well.nd rfl (Or.inl rfl))
      (pss_one (ps_set (i := 2) sc_well.nd rfl (Or.inl rfl) (pe_op op_mod (pe_callTy call_int1 (by rfl) B.int PyProof.Rows.boot_int (pa_cons (pe_op op_add (pe_op op_add (pe_op op_mul (pv 2) pe_int) (pe_op op_mul (pe_op op_mod (pe_callTy call_int1 (by rfl) B.int PyProof.Rows.boot_int (pa_cons (pv 3) pa_nil)) pe_int) pe_int)) pe_int) pa_nil)) pe_int))))
    (pss_cons (ps_set (i := 4) sc_well.nd rfl (Or.inl rfl) (pe_ifExp (pt_cmpR op_lt (pv 1) (pe_callB call_len_seq (by rfl) B.len PySem.boot_len (pa_cons (pv 0) pa_nil)) (nomark _)) (pe_callTy call_int1 (by rfl) B.int PyProof.Rows.boot_int (pa_cons (pe_ix ix_list (pv 0) (pv 1) (fun _ _ => rfl)) pa_nil)) pe_int))
    (pss_cons (ps_set (i := 2) sc_well.nd rfl (Or.inl rfl) (pe_op op_mod (pe_callTy call_int1 (by rfl) B.int PyProof.Rows.boot_int (pa_cons (pe_op op_add (pe_op op_add (pe_op op_mul (pv 2) pe_int) (pe_op op_mul (pe_op op_mod (pe_callTy call_int1 (by rfl) B.int PyProof.Rows.boot_int (pa_cons (pv 4) pa_nil)) pe_int) pe_int)) pe_int) pa_nil)) pe_int))
    (pss_one (ps_ret (pe_lst (pa_cons (pe_ifExp (PW.pt (pw_or (pt_cmpR op_lt (pv 4) pe_int (nomark _)) (pw_or1 (pt_cmpR op_ge (pv 4) (pe_op op_pow pe_int pe_int) (nomark _))))) (pe_callB call_abs (by rfl) B.abs PyProof.Rows.boot_abs (pa_cons (pv 4) pa_nil)) pe_int) (pa_cons (pv 2) (pa_cons pe_int pa_nil))))))))), ?_⟩
  walk_at "rd"
  refine ⟨a, _, rfl, hS, fun q hq' => ⟨q, rfl, ⟨_, SqL.of upd_same⟩, ?_⟩⟩
  refine for_list (K := K) (a := q) (xs := cutV (ns.map V.int) none (some 12)) (fun i σ H' => H' = upd H q (.lst (cutV (ns.map V.int) none (some 12))) ∧ ∃ m v, σ = [some (.ref a), some (.int lap), some (.int m), v, none])
    ⟨rfl, _, none, rfl⟩ (fun i σ H' _ ⟨e, _⟩ => by rw [e]; exact SqL.of upd_same) ?_ ?_
  · rintro i y σ H' hi ⟨rfl, m, v, rfl⟩
    obtain ⟨z, rfl⟩ : ∃ z, y = V.int z := by
      have m1 : y ∈ ns.map V.int := List.mem_of_mem_drop (List.mem_of_mem_take (List.mem_of_getElem? hi))
      obtain ⟨z, _, e⟩ := List.mem_map.mp m1
      exact ⟨z, e.symm⟩
    walk_at "rd"
    exact ⟨_, _, rfl⟩
  rintro σ H' ⟨rfl, m, v, rfl⟩
  have S1 : Same H (upd H q (.lst (cutV (ns.map V.int) none (some 12)))) := same_new hq' _
  walk_at "rd"
  refine ⟨_, _, rfl, .inl (S1.seq hS), ?_⟩
  walk_at "rd"
  have e2 : ((ns.map V.int).length : Int) = ns.length := by rw [List.length_map]
  have mb : ∀ x : Int, 0 ≤ x % 2147483543 ∧ x % 2147483543 < 2147483543 := fun x => ⟨Int.emod_nonneg _ (by decide), Int.emod_lt_of_pos _ (by decide)⟩
  have fin : ∀ (x y : Int) (r : Addr), 0 ≤ x → upd H q (.lst (cutV (ns.map V.int) none (some 12))) r = none → Q (.ref r) (upd (upd H q (.lst (cutV (ns.map V.int) none (some 12)))) r (.lst [.int x, .int (y % 2147483543), .int 0])) := fun x y r hx hr => by
    have hr' : H r = none := by
      cases e : H r with
      | none => rfl
      | some o => rw [S1 _ _ e] at hr; cases hr
    exact k r _ hr' (S1.trans (same_new hr _)) ⟨_, _, _, ⟨hx, (mb y).1, (mb y).2, Int.le_refl 0⟩, upd_same⟩
  refine ite2 (fun c => ?_) (fun c => ?_)
  · have c1 : lap < ((ns.map V.int).length : Int) := of_decide_eq_true c
    walk_at "rd"
    have c2 : lap.toNat < ns.length := by omega
    have e : lap = ((lap.toNat : Nat) : Int) := by omega
    have q1 : atI (ns.map V.int) ((lap.toNat : Nat) : Int) = some (.int ns[lap.toNat]) := atI_nat (by rw [List.getElem?_map, List.getElem?_eq_getElem c2] <;> rfl)
    rw [← e] at q1
    refine ⟨a, _, _, _, rfl, rfl, S1.seq hS, q1, ?_⟩
    generalize ns[lap.toNat] = z
    walk_at "rd"
    refine ite2 (fun d => ?_) (fun d => ?_)
    · walk_at "rd"
      intro r hr
      refine fin _ _ r ?_ hr
      split <;> omega
    · walk_at "rd"
      refine ite2 (fun d2 => ?_) (fun d2 => ?_)
      · walk_at "rd"
        intro r hr
        refine fin _ _ r ?_ hr
        split <;> omega
      · walk_at "rd"
        intro r hr
        exact fin _ _ r (Int.le_refl 0) hr
  · walk_at "rd"
    intro r hr
    exact fin 0 _ r (Int.le_refl 0) hr
end

section
variable {P : Program} {w : World} {K : PySem.W.Frag} {mg : Str → Option Value} {base : Heap}

/-- a tuple of so many elements -/
def isTupB (d : PyData) (a b : Int) : Bool := match d with | .tuple ds => decide (a ≤ ds.length) && decide ((ds.length : Int) ≤ b) | _ => false
def spTup : Sp := fun vs H Q _ => ∃ (v : V) (d : PyData) (a b : Int), vs = [v, .int a, .int b] ∧ Dd H v d ∧ ∀ H', Same H H' → Q (.bl (isTupB d a b)) H'
theorem sc_is_tuple : FnScope ["value", "least", "most"] ["value", "least", "most"] (defScope s_is_tuple) := ⟨rfl, rfl, rfl, by decide +kernel, rfl, by decide +kernel, by decide +kernel⟩
theorem ok_is_tuple (D : Df K mg "is_tuple" s_is_tuple) (B : Bi mg) : Gd P w K mg base CX0 1 "is_tuple" ["value", "least", "most"] spTup := by
  refine gd_of D (fun _ _ _ _ _ _ us hl => match us, hl with | [_, _, _], _ => rfl) fun f fd F => ?_
  refine fun_q F sc_is_tuple (fun vs H Q E h => by obtain ⟨v, d, a, b, rfl, _⟩ := h; rfl) (fun cdv A outer s H vs Q E hr hq h => ?_)
  obtain ⟨v, d, a, b, rfl, hd, k⟩ := h
  refine ⟨_, (pss_one (ps_ret (pe_and (pe_callB call_isi (by rfl) B.isinstance (by decide +kernel) (pa_cons (pv 0) (pa_cons (pe_bltn (v := V.ty "tuple") (by rfl) B.tuple (by decide +kernel) rfl) pa_nil))) (pe_one (pe_chain op_le op_le (pv 1) (pe_callB call_len_seq (by rfl) B.len (by decide +kernel) (pa_cons (pv 0) pa_nil)) (pv 2)))))), ?_⟩
  walk_at "rd"
  refine ⟨_, V.ty _, _, _, _, rfl, ClsV.ty _, Dd.ty hd, kit_ty (kit_tup d), ?_⟩
  refine ⟨_, rfl, ?_⟩
  cases d with
  | tuple ds =>
    obtain ⟨t, xs, rfl, e, A⟩ := hd.tupD
    have el : xs.length = ds.length := A.length
    refine iteT ?_
    walk_at "rd"
    refine ⟨t, xs, rfl, .inr (SqT.of e), ?_⟩
    walk_at "rd"
    have q : Q (.bl (decide (a ≤ ds.length) && decide ((ds.length : Int) ≤ b))) H := k H (Same.refl H)
    rw [el]
    refine ite2 (fun c => ?_) (fun c => ?_)
    · walk_at "rd"
      rw [c] at q
      exact q
    · rw [Bool.eq_false_iff.mpr c] at q
      exact q
  | _ => exact iteF (k H (Same.refl H))

/-- one of these texts -/
def isAmongB (d : PyData) (xs : List Str) : Bool := match d with | .str x => decide (x ∈ xs) | _ => false
/-- is_among(v, texts), a list or tuple of texts -/
def spAmong (K : PySem.W.Frag) : Sp := fun vs H Q _ => ∃ (v : V) (d : PyData) (t : Addr) (xs : List Str), vs = [v, .ref t] ∧ Dd H v d ∧ (SqL K H t (xs.map V.str) ∨ SqT K H t (xs.map V.str)) ∧ ∀ H', Same H H' → Q (.bl (isAmongB d xs)) H'
theorem inV_strs (x : Str) (xs : List Str) : inV (.str x) (xs.map V.str) = decide (x ∈ xs) := by
  unfold inV
  induction xs with
  | nil => rfl
  | cons y ys ih =>
    rw [List.map_cons, List.any_cons, ih]
    show ((y == x) || decide (x ∈ ys)) = decide (x ∈ y :: ys)
    rw [show (y == x) = decide (x = y) from by rw [Bool.eq_iff_iff, beq_iff_eq, decide_eq_true_iff]; exact eq_comm]
    simp [List.mem_cons]
theorem flat_strs' (xs : List Str) : (xs.map V.str).all flatV = true := by
  rw [List.all_map, List.all_eq_true]
  exact fun _ _ => rfl
theorem sc_is_among : FnScope ["value", "texts"] ["value", "texts"] (defScope s_is_among) := ⟨rfl, rfl, rfl, by decide +kernel, rfl, by decide +kernel, by decide +kernel⟩
theorem ok_is_among (D : Df K mg "is_among" s_is_among) (B : Bi mg) : Gd P w K mg base CX0 1 "is_among" ["value", "texts"] (spAmong K) := by
  refine gd_of D (fun _ _ _ _ _ _ us hl => match us, hl with | [_, _], _ => rfl) fun f fd F => ?_
  refine fun_q F sc_is_among (fun vs H Q E h => by obtain ⟨v, d, t, xs, rfl, _⟩ := h; rfl) (fun cdv A outer s H vs Q E hr hq h => ?_)
  obtain ⟨v, d, t, xs, rfl, hd, hs, k⟩ := h
  refine ⟨_, (pss_one (ps_ret (pe_and (pe_callB call_isi (by rfl) B.isinstance (by decide +kernel) (pa_cons (pv 0) (pa_cons (pe_bltn (v := V.ty "str") (by rfl) B.str (by decide +kernel) rfl) pa_nil))) (pe_one (pe_cmpR op_in_seq (pv 0) (pv 1) (by rfl)))))), ?_⟩
  walk_at "rd"
  refine ⟨_, V.ty _, _, _, _, rfl, ClsV.ty _, Dd.ty hd, kit_ty (kit_str d), ?_⟩
  refine ⟨_, rfl, ?_⟩
  cases d with
  | str x =>
    obtain rfl := hd.strD
    refine iteT ?_
    walk_at "rd"
    refine ⟨t, _, rfl, hs, rfl, flat_strs' xs, ?_⟩
    have q := k H (Same.refl H)
    unfold isAmongB at q
    rw [inV_strs]
    exact q
  | _ => exact iteF (k H (Same.refl H))

/-- are_unlike(texts), a list of texts -/
def spUnlike (K : PySem.W.Frag) : Sp := fun vs H Q _ => ∃ (t : Addr) (xs : List Str), vs = [.ref t] ∧ SqL K H t (xs.map V.str) ∧ xs.length < 1000 ∧ ∀ H', Same H H' → Q (.bl (decide xs.Nodup)) H'
theorem sc_are_unlike : FnScope ["texts"] ["texts"] (defScope s_are_unlike) := ⟨rfl, rfl, rfl, by decide +kernel, rfl, by decide +kernel, by decide +kernel⟩
theorem ok_are_unlike (D : Df K mg "are_unlike" s_are_unlike) (B : Bi mg) : Gd P w K mg base CX0 1 "are_unlike" ["texts"] (spUnlike K) := by
  refine gd_of D (fun _ _ _ _ _ _ us hl => match us, hl with | [_], _ => rfl) fun f fd F => ?_
  refine fun_q F sc_are_unlike (fun vs H Q E h => by obtain ⟨t, xs, rfl, _⟩ := h; rfl) (fun cdv A outer s H vs Q E hr hq h => ?_)
  obtain ⟨t, xs, rfl, hs, lz, k⟩ := h
  refine ⟨_, (pss_one (ps_ret (pe_cmpR op_eq (pe_callB call_lenTx (by rfl) B.len (by decide +kernel) (pa_cons (pe_callTy (cr_setS rfl) (by rfl) B.set (by decide +kernel) (pa_cons (pv 0) pa_nil)) pa_nil)) (pe_callB call_len_seq (by rfl) B.len (by decide +kernel) (pa_cons (pv 0) pa_nil)) (nomark _)))), ?_⟩
  walk_at "rd"
  refine ⟨t, xs, rfl, hs, by unfold scanBound; omega, fun p hp => ?_⟩
  refine ⟨p, _, rfl, upd_same, ?_⟩
  walk_at "rd"
  refine ⟨t, _, rfl, .inl ((same_new hp _).seq hs), ?_⟩
  walk_at "rd"
  have q := k _ (same_new hp (TxO w p (once [] xs)))
  have e : decide (V.int ((once [] xs).length : Nat) = V.int ((xs.map V.str).length : Nat)) = decide xs.Nodup := by
    rw [List.length_map]
    refine decide_eq_decide.mpr ((Iff.intro (fun z => ?_) (fun z => by rw [z])).trans (once_nodup xs))
    injection z with z
    exact Int.ofNat_inj.mp z
  exact e ▸ q

def letters : Str := "abcdefghijklmnopqrstuvwxyz"
def signs : Str := "abcdefghijklmnopqrstuvwxyz0123456789_"
/-- a name -/
def nameS (x : Str) : Bool := decide (1 ≤ x.length) && decide (x.length ≤ 12) && x.cps.toList.head?.any (fun c => decide (c ∈ letters.cps.toList)) && x.cps.toList.all (fun c => decide (c ∈ signs.cps.toList))
def isNameB (d : PyData) : Bool := match d with | .str x => nameS x | _ => false
def spName : Sp := fun vs H Q _ => ∃ (v : V) (d : PyData), vs = [v] ∧ Dd H v d ∧ okT d = true ∧ ∀ H', Same H H' → Q (.bl (isNameB d)) H'
theorem sc_is_name : FnScope ["value", "sign"] ["value"] (defScope s_is_name) := ⟨rfl, rfl, rfl, by decide +kernel, rfl, by decide +kernel, by decide +kernel⟩
theorem ok_is_name (D : Df K mg "is_name" s_is_name) (B : Bi mg) (C : Cn mg) : Gd P w K mg base CX0 1 "is_name" ["value"] spName := by
  refine gd_of D (fun _ _ _ _ _ _ us hl => match us, hl with | [_], _ => rfl) fun f fd F => ?_
  refine fun_q F sc_is_name (fun vs H Q E h => by obtain ⟨v, d, rfl, _⟩ := h; rfl) (fun cdv A outer s H vs Q E hr hq h => ?_)
  obtain ⟨v, d, rfl, hd, ok, k⟩ := h
  refine ⟨_, (pss_cons (ps_if (PW.pt (pw_or (pt_not (pt_val (pe_callB call_isi (by rfl) B.isinstance (by decide +kernel) (pa_cons (pv 0) (pa_cons (pe_bltn (v := V.ty "str") (by rfl) B.str (by decide +kernel) rfl) pa_nil))))) (pw_or1 (pt_not (pt_chain op_le op_le pe_int (pe_callB call_len_str (by rfl) B.len (by decide +kernel) (pa_cons (pv 0) pa_nil)) (pe_cn (by rfl) C.LONGEST_NAME)))))) (pss_one (ps_ret pe_bl)) pss_nil)
      (pss_one (ps_ret (pe_and (pe_cmpR op_in_sign (pe_ix ix_str (pv 0) pe_int (fun _ _ => rfl)) (pe_cn (by rfl) C.LETTERS) (by rfl)) (pe_one (pe_callB (cr_all rfl) (by rfl) B.all (by decide +kernel) (pa_cons (pe_lc (own := [("sign", 1)]) (g := gName 1) (tt := tYes) rfl sc_is_name.nd (pi_str (pv 0)) (blkOk_by (own := [("sign", 1)]) (N := ["value", "sign"]) (sc := defScope s_is_name) (by decide +kernel)) (fun _ _ _ _ _ => (pg_name (i := 1) sc_is_name.nd rfl (Or.inl rfl))) (fun _ _ _ _ _ => pts_nil) (fun _ _ _ _ _ => (pe_cmpR op_in_sign (pv 1) (pe_cn (by rfl) C.NAME_SIGNS) (by rfl)))) pa_nil))))))), ?_⟩
  walk_at "rd"
  refine ⟨_, V.ty _, _, _, _, rfl, ClsV.ty _, Dd.ty hd, kit_ty (kit_str d), ?_⟩
  refine ⟨_, rfl, ?_⟩
  cases d with
  | str x =>
    obtain rfl := hd.strD
    have q : Q (.bl (nameS x)) H := k H (Same.refl H)
    have ok : x.length ≤ 100000 := of_decide_eq_true ok
    have lz : x.length ≤ sizeLine := by rw [sizeLine_eq]; omega
    refine iteF ?_
    walk_at "rd"
    refine ite2 (fun c1 => ?_) (fun c1 => ?_)
    · walk_at "rd"
      refine ite2 (fun c2 => ?_) (fun c2 => ?_)
      · walk_at "rd"
        have e2 : nameS x = false := by
          unfold nameS
          have : ¬ ((x.length : Int) ≤ 12) := fun z => by simp [z] at c2
          have : decide (x.length ≤ 12) = false := decide_eq_false (by omega)
          rw [this]; simp
        rw [e2] at q
        exact q
      · walk_at "rd"
        have c1' : 1 ≤ x.length := by have := of_decide_eq_true c1; omega
        have c2' : x.length ≤ 12 := by
          have : ((x.length : Int) ≤ 12) := Classical.byContradiction fun z => c2 (by simp [z])
          omega
        obtain ⟨c, r, ec⟩ : ∃ c r, x.cps.toList = c :: r := by
          cases e : x.cps.toList with
          | nil => exact absurd (show x.cps.toList.length = 0 by rw [e]; rfl) (by rw [Array.length_toList]; exact Nat.ne_of_gt c1')
          | cons c r => exact ⟨c, r, rfl⟩
        refine ⟨_, _, c, rfl, rfl, lz, by rw [ec]; exact atI_nat (j := 0) (xs := c :: r) rfl, ?_⟩
        refine ⟨_, _, rfl, rfl, ?_⟩
        refine ⟨_, rfl, ?_⟩
        have eq : nameS x = (decide (c ∈ letters.cps.toList) && x.cps.toList.all (fun c => decide (c ∈ signs.cps.toList))) := by
          unfold nameS
          rw [decide_eq_true c1', decide_eq_true c2', ec]
          rfl
        rw [eq] at q
        refine ite2 (fun c3 => ?_) (fun c3 => ?_)
        · have c3' : decide (c ∈ letters.cps.toList) = true := c3
          rw [c3'] at q
          walk_at "rd"
          refine fun D hD => ?_
          refine lc_vals walk_str (fun i => x.cps.toList[i]?.map fun c => V.bl (decide (c ∈ signs.cps.toList))) hD lz (fun _ _ => trivial) (fun i y H1 H2 K1 K0 hi s1 hy k1 k0 => ?_) (fun H1 s1 e1 => ?_)
          · obtain ⟨rfl, d, ed, rfl⟩ := hy
            refine ⟨rfl, ?_⟩
            walk_at "rd"
            exact k1 _ _ (by rw [Array.getElem?_toList, ed]; rfl) (Same.refl _)
          · have e2 : (List.range x.cps.size).filterMap (fun i => x.cps.toList[i]?.map fun c => V.bl (decide (c ∈ signs.cps.toList))) = (x.cps.toList.map fun c => decide (c ∈ signs.cps.toList)).map V.bl := by
              rw [← Array.length_toList, range_map', List.map_map]
              rfl
            rw [e2] at e1
            walk_at "rd"
            refine ⟨D, _, rfl, SqL.of e1, ?_⟩
            have e3 : ((x.cps.toList.map fun c => decide (c ∈ signs.cps.toList)).all id) = x.cps.toList.all (fun c => decide (c ∈ signs.cps.toList)) := by rw [List.all_map]; rfl
            have q : Q (.bl (nameS x)) H1 := k H1 s1
            rw [eq, c3'] at q
            rw [e3]
            exact q
        · have c3' : decide (c ∈ letters.cps.toList) = false := Bool.eq_false_iff.mpr c3
          rw [c3'] at q
          exact q
    · walk_at "rd"
      have e2 : nameS x = false := by
        unfold nameS
        have : ¬ ((1 : Int) ≤ x.length) := fun z => c1 (decide_eq_true z)
        have : decide (1 ≤ x.length) = false := decide_eq_false (by omega)
        rw [this]; simp
      rw [e2] at q
      refine iteT ?_
      walk_at "rd"
      exact q
  | _ => exact iteT (k H (Same.refl H))

end

theorem tupB_2 {d : PyData} (h : isTupB d 2 2 = true) : ∃ a b, d = .tuple [a, b] := by
  cases d with
  | tuple ds =>
    have h : (decide ((2 : Int) ≤ ds.length) && decide ((ds.length : Int) ≤ 2)) = true := h
    rw [Bool.and_eq_true, decide_eq_true_iff, decide_eq_true_iff] at h
    match ds, h with
    | [a, b], _ => exact ⟨a, b, rfl⟩
    | [], h => exact absurd h.1 (by decide)
    | [_], h => exact absurd h.1 (by simp)
    | _ :: _ :: _ :: _, h => exact absurd h.2 (by simp only [List.length_cons]; omega)
  | _ => exact absurd h (by intro z; cases z)
theorem tupB_3 {d : PyData} (h : isTupB d 3 3 = true) : ∃ a b c, d = .tuple [a, b, c] := by
  cases d with
  | tuple ds =>
    have h : (decide ((3 : Int) ≤ ds.length) && decide ((ds.length : Int) ≤ 3)) = true := h
    rw [Bool.and_eq_true, decide_eq_true_iff, decide_eq_true_iff] at h
    match ds, h with
    | [a, b, c], _ => exact ⟨a, b, c, rfl⟩
    | [], h => exact absurd h.1 (by decide)
    | [_], h => exact absurd h.1 (by simp)
    | [_, _], h => exact absurd h.1 (by simp)
    | _ :: _ :: _ :: _ :: _, h => exact absurd h.2 (by simp only [List.length_cons]; omega)
  | _ => exact absurd h (by intro z; cases z)
theorem tupB_n {d : PyData} {a b : Int} (h : isTupB d a b = true) : ∃ ds, d = .tuple ds ∧ a ≤ ds.length ∧ (ds.length : Int) ≤ b := by
  cases d with
  | tuple ds =>
    have h : (decide (a ≤ ds.length) && decide ((ds.length : Int) ≤ b)) = true := h
    rw [Bool.and_eq_true, decide_eq_true_iff, decide_eq_true_iff] at h
    exact ⟨ds, rfl, h.1, h.2⟩
  | _ => exact absurd h (by intro z; cases z)
theorem okT_2 {a b : PyData} (h : okT (.tuple [a, b]) = true) : okT a = true ∧ okT b = true := by
  have h : (okT a && (okT b && true)) = true := h
  rw [Bool.and_true, Bool.and_eq_true] at h
  exact h
theorem okT_3 {a b c : PyData} (h : okT (.tuple [a, b, c]) = true) : okT a = true ∧ okT b = true ∧ okT c = true := by
  have h : (okT a && (okT b && (okT c && true))) = true := h
  rw [Bool.and_true, Bool.and_eq_true, Bool.and_eq_true] at h
  exact h
theorem dd2 {H : Hp} {v : V} {a b : PyData} (h : Dd H v (.tuple [a, b])) : ∃ p x y, v = .ref p ∧ H p = some (.tup [x, y]) ∧ Dd H x a ∧ Dd H y b := by
  obtain ⟨p, xs, rfl, e, A⟩ := h.tupD
  cases A with
  | cons h1 t1 => cases t1 with
    | cons h2 t2 => cases t2; exact ⟨p, _, _, rfl, e, h1, h2⟩
theorem dd3 {H : Hp} {v : V} {a b c : PyData} (h : Dd H v (.tuple [a, b, c])) : ∃ p x y z, v = .ref p ∧ H p = some (.tup [x, y, z]) ∧ Dd H x a ∧ Dd H y b ∧ Dd H z c := by
  obtain ⟨p, xs, rfl, e, A⟩ := h.tupD
  cases A with
  | cons h1 t1 => cases t1 with
    | cons h2 t2 => cases t2 with
      | cons h3 t3 => cases t3; exact ⟨p, _, _, _, rfl, e, h1, h2, h3⟩
/-- a kind as it is told -/
def kindB (d : PyData) : Bool := match d with | .tuple [a, b] => isNameB a && isAmongB b ["open", "closed"] | _ => false
/-- the text at the head -/
def nameOf (d : PyData) : Str := match d with | .tuple (.str x :: _) => x | _ => Str.empty
def kindsB (d : PyData) : Bool := match d with | .tuple ds => decide (1 ≤ ds.length) && decide (ds.length ≤ 8) && ds.all kindB && decide (ds.map nameOf).Nodup | _ => false
/-- a maker as it is told, the kinds' names known -/
def makerB (ks : List Str) (d : PyData) : Bool := match d with | .tuple [a, .tuple ns, k] => isNameB a && decide (ns.length ≤ 3) && ns.all (fun n => isAmongB n ks) && isAmongB k ks | _ => false
def makersB (ks : List Str) (d : PyData) : Bool := match d with | .tuple ds => decide (ds.length ≤ 24) && ds.all (makerB ks) && decide (ds.map nameOf).Nodup | _ => false

section
variable {P : Program} {w : World} {K : PySem.W.Frag} {mg : Str → Option Value} {base : Heap}

def spKind : Sp := fun vs H Q _ => ∃ (v : V) (d : PyData), vs = [v] ∧ Dd H v d ∧ okT d = true ∧ ∀ H', Same H H' → Q (.bl (kindB d)) H'
theorem kindB_no {d : PyData} (h : isTupB d 2 2 = false) : kindB d = false := by
  cases d with
  | tuple ds =>
    match ds with
    | [a, b] => exact absurd (show isTupB (.tuple [a, b]) 2 2 = true from rfl) (by rw [h]; intro z; cases z)
    | [] => rfl
    | [_] => rfl
    | _ :: _ :: _ :: _ => rfl
  | _ => rfl
theorem sc_is_kind_told : FnScope ["value"] ["value"] (defScope s_is_kind_told) := ⟨rfl, rfl, rfl, by decide +kernel, rfl, by decide +kernel, by decide +kernel⟩
theorem ok_is_kind_told (D : Df K mg "is_kind_told" s_is_kind_told) (B : Bi mg) (C : Cn mg) (G1 : Gd P w K mg base CX0 1 "is_tuple" ["value", "least", "most"] spTup) (G2 : Gd P w K mg base CX0 1 "is_name" ["value"] spName) (G3 : Gd P w K mg base CX0 1 "is_among" ["value", "texts"] (spAmong K)) : Gd P w K mg base CX0 2 "is_kind_told" ["value"] spKind := by
  refine gd_of D (fun _ _ _ _ _ _ us hl => match us, hl with | [_], _ => rfl) fun f fd F => ?_
  refine fun_q F sc_is_kind_told (fun vs H Q E h => by obtain ⟨v, d, rfl, _⟩ := h; rfl) (fun cdv A outer s H vs Q E hr hq h => ?_)
  obtain ⟨v, d, rfl, hd, ok, k⟩ := h
  refine ⟨_, (pss_one (ps_ret (pe_and (pe_g G1 hr hq (pa_cons (pv 0) (pa_cons pe_int (pa_cons pe_int pa_nil)))) (pe_and (pe_g G2 hr hq (pa_cons (pe_ix ix_tup (pv 0) pe_int (fun _ _ => rfl)) pa_nil)) (pe_one (pe_g G3 hr hq (pa_cons (pe_ix ix_tup (pv 0) pe_int (fun _ _ => rfl)) (pa_cons (pe_tup (pa_cons pe_str (pa_cons pe_str pa_nil))) pa_nil)))))))), ?_⟩
  walk_at "rd"
  refine ⟨v, d, 2, 2, rfl, hd, fun H1 s1 => ⟨_, rfl, ?_⟩⟩
  cases e : isTupB d 2 2 with
  | false =>
    refine iteF ?_
    have q := k H1 s1
    rw [kindB_no e] at q
    exact q
  | true =>
    obtain ⟨a, b, rfl⟩ := tupB_2 e
    obtain ⟨oka, okb⟩ := okT_2 ok
    obtain ⟨p, x, y, rfl, hp, ha, hb⟩ := dd2 hd
    refine iteT ?_
    walk_at "rd"
    refine ⟨p, _, 0, x, rfl, rfl, SqT.of (s1 _ _ hp), rfl, ?_⟩
    refine ⟨x, a, rfl, ha.mono s1, oka, fun H2 s2 => ⟨_, rfl, ?_⟩⟩
    cases en : isNameB a with
    | false =>
      refine iteF ?_
      have q : Q (.bl (isNameB a && isAmongB b ["open", "closed"])) H2 := k H2 (s1.trans s2)
      rw [en] at q
      exact q
    | true =>
      refine iteT ?_
      walk_at "rd"
      refine ⟨p, _, 1, y, rfl, rfl, SqT.of (s2 _ _ (s1 _ _ hp)), rfl, ?_⟩
      walk_at "rd"
      intro t ht
      walk_at "rd"
      have s3 := same_new ht (.tup [.str "open", .str "closed"])
      refine ⟨y, b, t, ["open", "closed"], rfl, hb.mono (s1.trans (s2.trans s3)), .inr (SqT.of upd_same), fun H4 s4 => ?_⟩
      have q : Q (.bl (isNameB a && isAmongB b ["open", "closed"])) H4 := k H4 (s1.trans (s2.trans (s3.trans s4)))
      rw [en] at q
      exact q

def spKinds : Sp := fun vs H Q _ => ∃ (v : V) (d : PyData), vs = [v] ∧ Dd H v d ∧ okT d = true ∧ ∀ H', Same H H' → Q (.bl (kindsB d)) H'
theorem kindsB_no {d : PyData} (h : isTupB d 1 8 = false) : kindsB d = false := by
  cases d with
  | tuple ds =>
    have h : (decide ((1 : Int) ≤ ds.length) && decide ((ds.length : Int) ≤ 8)) = false := h
    show (decide (1 ≤ ds.length) && decide (ds.length ≤ 8) && _ && _) = false
    have e : (decide (1 ≤ ds.length) && decide (ds.length ≤ 8)) = false := by
      rw [← h]
      congr 1 <;> exact decide_eq_decide.mpr (by omega)
    rw [e]
    rfl
  | _ => rfl
theorem kindB_pair {d : PyData} (h : kindB d = true) : ∃ (x : Str) (b : PyData), d = .tuple [.str x, b] ∧ nameS x = true ∧ isAmongB b ["open", "closed"] = true := by
  cases d with
  | tuple ds =>
    match ds, h with
    | [a, b], h =>
      have h : (isNameB a && isAmongB b ["open", "closed"]) = true := h
      rw [Bool.and_eq_true] at h
      cases a with
      | str x => exact ⟨x, b, rfl, h.1, h.2⟩
      | _ => exact absurd h.1 (by intro z; cases z)
    | [], h => exact absurd h (by intro z; cases z)
    | [_], h => exact absurd h (by intro z; cases z)
    | _ :: _ :: _ :: _, h => exact absurd h (by intro z; cases z)
  | _ => exact absurd h (by intro z; cases z)
theorem sc_are_kinds_told : FnScope ["value", "told", "name", "word"] ["value"] (defScope s_are_kinds_told) := ⟨rfl, rfl, rfl, by decide +kernel, rfl, by decide +kernel, by decide +kernel⟩
theorem ok_are_kinds_told (D : Df K mg "are_kinds_told" s_are_kinds_told) (B : Bi mg) (C : Cn mg) (G1 : Gd P w K mg base CX0 1 "is_tuple" ["value", "least", "most"] spTup) (G2 : Gd P w K mg base CX0 1 "is_name" ["value"] spName) (G3 : Gd P w K mg base CX0 1 "is_among" ["value", "texts"] (spAmong K)) (G4 : Gd P w K mg base CX0 1 "are_unlike" ["texts"] (spUnlike K)) (G5 : Gd P w K mg base CX0 2 "is_kind_told" ["value"] spKind) : Gd P w K mg base CX0 3 "are_kinds_told" ["value"] spKinds := by
  refine gd_of D (fun _ _ _ _ _ _ us hl => match us, hl with | [_], _ => rfl) fun f fd F => ?_
  refine fun_q F sc_are_kinds_told (fun vs H Q E h => by obtain ⟨v, d, rfl, _⟩ := h; rfl) (fun cdv A outer s H vs Q E hr hq h => ?_)
  obtain ⟨v, d, rfl, hd, ok, k⟩ := h
  refine ⟨_, (pss_cons (ps_if (PW.pt (pw_or (pt_not (pt_val (pe_g (G1.mono (by decide)) hr hq (pa_cons (pv 0) (pa_cons pe_int (pa_cons (pe_cn (by rfl) C.MOST_KINDS) pa_nil)))))) (pw_or1 (pt_not (pt_val (pe_callB (cr_all rfl) (by rfl) B.all (by decide +kernel) (pa_cons (pe_lc (own := [("told", 1)]) (g := (gName 1)) (tt := tYes) rfl sc_are_kinds_told.nd (pi_tup (pv 0)) (blkOk_by (own := [("told", 1)]) (N := ["value", "told", "name", "word"]) (sc := defScope s_are_kinds_told) (by decide +kernel)) (fun _ _ _ _ _ => (pg_name (i := 1) sc_are_kinds_told.nd rfl (Or.inl rfl))) (fun _ _ _ _ _ => pts_nil) (fun _ _ _ _ _ => (pe_g G5 hr hq (pa_cons (pv 1) pa_nil)))) pa_nil))))))) (pss_one (ps_ret pe_bl)) pss_nil)
      (pss_one (ps_ret (pe_g (G4.mono (by decide)) hr hq (pa_cons (pe_lc (own := [("name", 2), ("word", 3)]) (g := (gTup K 2 (gCons (gName 2) (gCons (gName 3) gNil)))) (tt := tYes) rfl sc_are_kinds_told.nd (pi_tup (pv 0)) (blkOk_by (own := [("name", 2), ("word", 3)]) (N := ["value", "told", "name", "word"]) (sc := defScope s_are_kinds_told) (by decide +kernel)) (fun _ _ _ _ _ => (pg_tup rfl (pgs_cons (pg_name (i := 2) sc_are_kinds_told.nd rfl (Or.inl rfl)) (pgs_cons (pg_name (i := 3) sc_are_kinds_told.nd rfl (Or.inl rfl)) pgs_nil)))) (fun _ _ _ _ _ => pts_nil) (fun _ _ _ _ _ => (pv 2))) pa_nil))))), ?_⟩
  walk_at "rd"
  refine ⟨v, d, 1, 8, rfl, hd, fun H1 s1 => ⟨_, rfl, ?_⟩⟩
  cases e : isTupB d 1 8 with
  | false =>
    refine iteT ?_
    have q := k H1 s1
    rw [kindsB_no e] at q
    exact q
  | true =>
    obtain ⟨ds, rfl, l1, l8⟩ := tupB_n e
    obtain ⟨p, xs, rfl, hp, A⟩ := hd.tupD
    have lx := A.length
    refine iteF ?_
    walk_at "rd"
    refine ⟨⟨_, SqT.of (s1 _ _ hp)⟩, fun D hD => ?_⟩
    refine lc_vals walk_tup (fun i => ds[i]?.map fun d => V.bl (kindB d)) hD (by rw [lx, sizeLine_eq]; omega) (fun H s => SqT.of (s _ _ (s1 _ _ hp))) (fun i y H2 H3 K1 K0 hi s2 hy k1 k0 => ?_) (fun H2 s2 e2 => ?_)
    · obtain ⟨rfl, ey⟩ := hy
      obtain ⟨d, ed, hd⟩ := A.get ey
      refine ⟨rfl, ?_⟩
      walk_at "rd"
      refine ⟨y, d, rfl, hd.mono (s1.trans s2), okTs_at ok ed, fun H4 s4 => k1 _ _ (by rw [ed]; rfl) s4⟩
    · rw [lx, range_map' (fun d => V.bl (kindB d)) ds] at e2
      have e3 : (ds.map fun d => V.bl (kindB d)) = (ds.map kindB).map V.bl := by rw [List.map_map]; rfl
      rw [e3] at e2
      walk_at "rd"
      refine ⟨D, _, rfl, SqL.of e2, ?_⟩
      refine ⟨_, rfl, ?_⟩
      cases ea : (ds.map kindB).all id with
      | false =>
        refine iteT ?_
        have q := k H2 (s1.trans s2)
        have e4 : kindsB (.tuple ds) = false := by
          show (decide (1 ≤ ds.length) && decide (ds.length ≤ 8) && ds.all kindB && _) = false
          rw [List.all_map] at ea
          rw [show ds.all kindB = false from ea]
          simp
        rw [e4] at q
        exact q
      | true =>
        have eb : ds.all kindB = true := by rw [List.all_map] at ea; exact ea
        refine iteF ?_
        walk_at "rd"
        refine ⟨⟨_, SqT.of (s2 _ _ (s1 _ _ hp))⟩, fun D2 hD2 => ?_⟩
        refine lc_vals walk_tup (fun i => ds[i]?.map fun d => V.str (nameOf d)) hD2 (by rw [lx, sizeLine_eq]; omega) (fun H s => SqT.of (s _ _ (s2 _ _ (s1 _ _ hp)))) (fun i y H3 H4 K1 K0 hi s3 hy k1 k0 => ?_) (fun H3 s3 e5 => ?_)
        · obtain ⟨rfl, ey⟩ := hy
          obtain ⟨d, ed, hd⟩ := A.get ey
          have kd : kindB d = true := List.all_eq_true.mp eb d (List.mem_of_getElem? ed)
          obtain ⟨x, b, rfl, _, _⟩ := kindB_pair kd
          obtain ⟨q, vx, vb, rfl, hq2, hx, hb⟩ := (hd.mono (s1.trans (s2.trans s3))) |> dd2
          obtain rfl := hx.strD
          refine ⟨q, _, rfl, SqT.of hq2, rfl, _, _, rfl, _, _, rfl, rfl, rfl, ?_⟩
          refine ⟨_, rfl, ?_⟩
          exact k1 _ _ (by rw [ed]; rfl) (Same.refl _)
        · rw [lx, range_map' (fun d => V.str (nameOf d)) ds] at e5
          have e6 : (ds.map fun d => V.str (nameOf d)) = (ds.map nameOf).map V.str := by rw [List.map_map]; rfl
          rw [e6] at e5
          refine ⟨D2, _, rfl, SqL.of e5, by rw [List.length_map]; omega, fun H5 s5 => ?_⟩
          have q := k H5 (s1.trans (s2.trans (s3.trans s5)))
          have e7 : kindsB (.tuple ds) = decide (ds.map nameOf).Nodup := by
            show (decide (1 ≤ ds.length) && decide (ds.length ≤ 8) && ds.all kindB && decide (ds.map nameOf).Nodup) = _
            rw [eb, decide_eq_true (by omega : 1 ≤ ds.length), decide_eq_true (by omega : ds.length ≤ 8)]
            simp
          rw [e7] at q
          exact q

end

section
variable {P : Program} {w : World} {K : PySem.W.Frag} {mg : Str → Option Value} {base : Heap}

/-- is_maker_told(value, kinds), the kinds' names in a list -/
def spMaker (K : PySem.W.Frag) : Sp := fun vs H Q _ => ∃ (v : V) (d : PyData) (t : Addr) (ks : List Str), vs = [v, .ref t] ∧ Dd H v d ∧ okT d = true ∧ SqL K H t (ks.map V.str) ∧ ∀ H', Same H H' → Q (.bl (makerB ks d)) H'
theorem makerB_no {ks : List Str} {d : PyData} (h : isTupB d 3 3 = false) : makerB ks d = false := by
  cases d with
  | tuple ds =>
    match ds with
    | [a, b, c] => exact absurd (show isTupB (.tuple [a, b, c]) 3 3 = true from rfl) (by rw [h]; intro z; cases z)
    | [] => simp [makerB]
    | [_] => simp [makerB]
    | [_, _] => simp [makerB]
    | _ :: _ :: _ :: _ :: _ => simp [makerB]
  | _ => rfl
theorem makerB_3 {ks : List Str} {a b c : PyData} : makerB ks (.tuple [a, b, c]) = (isNameB a && (isTupB b 0 3 && ((match b with | .tuple ns => ns.all (fun n => isAmongB n ks) | _ => false) && isAmongB c ks))) := by
  cases b with
  | tuple ns =>
    show (isNameB a && decide (ns.length ≤ 3) && ns.all (fun n => isAmongB n ks) && isAmongB c ks) = (isNameB a && ((decide ((0 : Int) ≤ ns.length) && decide ((ns.length : Int) ≤ 3)) && (ns.all (fun n => isAmongB n ks) && isAmongB c ks)))
    have e1 : decide ((ns.length : Int) ≤ 3) = decide (ns.length ≤ 3) := decide_eq_decide.mpr (by omega)
    rw [decide_eq_true (show (0 : Int) ≤ ns.length by omega), e1]
    simp only [Bool.true_and, Bool.and_assoc]
  | _ => simp [makerB, isTupB]
theorem sc_is_maker_told : FnScope ["value", "kinds", "name", "needs", "kind", "need"] ["value", "kinds"] (defScope s_is_maker_told) := ⟨rfl, rfl, rfl, by decide +kernel, rfl, by decide +kernel, by decide +kernel⟩
theorem ok_is_maker_told (D : Df K mg "is_maker_told" s_is_maker_told) (B : Bi mg) (C : Cn mg) (G1 : Gd P w K mg base CX0 1 "is_tuple" ["value", "least", "most"] spTup) (G2 : Gd P w K mg base CX0 1 "is_name" ["value"] spName) (G3 : Gd P w K mg base CX0 1 "is_among" ["value", "texts"] (spAmong K)) : Gd P w K mg base CX0 2 "is_maker_told" ["value", "kinds"] (spMaker K) := by
  refine gd_of D (fun _ _ _ _ _ _ us hl => match us, hl with | [_, _], _ => rfl) fun f fd F => ?_
  refine fun_q F sc_is_maker_told (fun vs H Q E h => by obtain ⟨v, d, t, ks, rfl, _⟩ := h; rfl) (fun cdv A outer s H vs Q E hr hq h => ?_)
  obtain ⟨v, d, t, ks, rfl, hd, ok, hk, k⟩ := h
  refine ⟨_, (pss_cons (ps_if (pt_not (pt_val (pe_g G1 hr hq (pa_cons (pv 0) (pa_cons pe_int (pa_cons pe_int pa_nil)))))) (pss_one (ps_ret pe_bl)) pss_nil)
      (pss_cons (ps_asg (pv 0) (pg_tup rfl (pgs_cons (pg_name (i := 2) sc_is_maker_told.nd rfl (Or.inl rfl)) (pgs_cons (pg_name (i := 3) sc_is_maker_told.nd rfl (Or.inl rfl)) (pgs_cons (pg_name (i := 4) sc_is_maker_told.nd rfl (Or.inl rfl)) pgs_nil)))))
      (pss_cons (ps_if (PW.pt (pw_or (pt_not (pt_val (pe_g G2 hr hq (pa_cons (pv 2) pa_nil)))) (pw_or1 (pt_not (pt_val (pe_g G1 hr hq (pa_cons (pv 3) (pa_cons pe_int (pa_cons (pe_cn (by rfl) C.MOST_NEEDS) pa_nil))))))))) (pss_one (ps_ret pe_bl)) pss_nil)
      (pss_one (ps_ret (pe_and (pe_callB (cr_all rfl) (by rfl) B.all (by decide +kernel) (pa_cons (pe_lc (own := [("need", 5)]) (g := (gName 5)) (tt := tYes) rfl sc_is_maker_told.nd (pi_tup (pv 3)) (blkOk_by (own := [("need", 5)]) (N := ["value", "kinds", "name", "needs", "kind", "need"]) (sc := defScope s_is_maker_told) (by decide +kernel)) (fun _ _ _ _ _ => (pg_name (i := 5) sc_is_maker_told.nd rfl (Or.inl rfl))) (fun _ _ _ _ _ => pts_nil) (fun _ _ _ _ _ => (pe_g G3 hr hq (pa_cons (pv 5) (pa_cons (pv 1) pa_nil))))) pa_nil)) (pe_one (pe_g G3 hr hq (pa_cons (pv 4) (pa_cons (pv 1) pa_nil)))))))))), ?_⟩
  walk_at "rd"
  refine ⟨v, d, 3, 3, rfl, hd, fun H1 s1 => ⟨_, rfl, ?_⟩⟩
  cases e : isTupB d 3 3 with
  | false =>
    refine iteT ?_
    have q := k H1 s1
    rw [makerB_no e] at q
    exact q
  | true =>
    obtain ⟨a, b, c, rfl⟩ := tupB_3 e
    obtain ⟨oka, okb, okc⟩ := okT_3 ok
    obtain ⟨p, x, y, z, rfl, hp, ha, hb, hc⟩ := dd3 hd
    refine iteF ?_
    rw [makerB_3] at k
    walk_at "rd"
    refine ⟨p, _, rfl, SqT.of (s1 _ _ hp), rfl, _, _, rfl, _, _, rfl, _, _, rfl, rfl, ?_⟩
    walk_at "rd"
    refine ⟨x, a, rfl, ha.mono s1, oka, fun H2 s2 => ⟨_, rfl, ?_⟩⟩
    have s12 := s1.trans s2
    cases en : isNameB a with
    | false =>
      refine iteT ?_
      have q := k H2 s12
      rw [en] at q
      exact q
    | true =>
      rw [en, Bool.true_and] at k
      refine iteF ?_
      walk_at "rd"
      refine ⟨y, b, 0, 3, rfl, hb.mono s12, fun H3 s3 => ⟨_, rfl, ?_⟩⟩
      have s13 := s12.trans s3
      cases eb : isTupB b 0 3 with
      | false =>
        refine iteT ?_
        have q := k H3 s13
        rw [eb] at q
        exact q
      | true =>
        rw [eb, Bool.true_and] at k
        obtain ⟨ns, rfl, l0, l3⟩ := tupB_n eb
        have k : ∀ H', Same H H' → Q (.bl (ns.all (fun d => isAmongB d ks) && isAmongB c ks)) H' := k
        obtain ⟨r, xs, rfl, hr', A⟩ := hb.tupD
        have lx := A.length
        refine iteF ?_
        walk_at "rd"
        refine ⟨⟨_, SqT.of (s13 _ _ hr')⟩, fun D hD => ?_⟩
        refine lc_vals walk_tup (fun i => ns[i]?.map fun d => V.bl (isAmongB d ks)) hD (by rw [lx, sizeLine_eq]; omega) (fun H s => SqT.of (s _ _ (s13 _ _ hr'))) (fun i y H4 H5 K1 K0 hi s4 hy k1 k0 => ?_) (fun H4 s4 e4 => ?_)
        · obtain ⟨rfl, ey⟩ := hy
          obtain ⟨d, ed, hd⟩ := A.get ey
          refine ⟨rfl, ?_⟩
          walk_at "rd"
          have s14 := s13.trans s4
          refine ⟨y, d, t, ks, rfl, hd.mono s14, .inl (s14.seq hk), fun H6 s6 => k1 _ _ (by rw [ed]; rfl) s6⟩
        · rw [lx, range_map' (fun d => V.bl (isAmongB d ks)) ns] at e4
          have e5 : (ns.map fun d => V.bl (isAmongB d ks)) = (ns.map fun d => isAmongB d ks).map V.bl := by rw [List.map_map]; rfl
          rw [e5] at e4
          walk_at "rd"
          refine ⟨D, _, rfl, SqL.of e4, ?_⟩
          refine ⟨_, rfl, ?_⟩
          have s14 := s13.trans s4
          have ea : ((ns.map fun d => isAmongB d ks).all id) = ns.all (fun d => isAmongB d ks) := by rw [List.all_map]; rfl
          rw [ea]
          cases eq : ns.all (fun d => isAmongB d ks) with
          | false =>
            refine iteF ?_
            have q := k H4 s14
            rw [eq] at q
            exact q
          | true =>
            rw [eq, Bool.true_and] at k
            refine iteT ?_
            walk_at "rd"
            refine ⟨z, c, t, ks, rfl, hc.mono s14, .inl (s14.seq hk), fun H6 s6 => ?_⟩
            exact k H6 (s14.trans s6)

def spMakers (K : PySem.W.Frag) : Sp := fun vs H Q _ => ∃ (v : V) (d : PyData) (t : Addr) (ks : List Str), vs = [v, .ref t] ∧ Dd H v d ∧ okT d = true ∧ SqL K H t (ks.map V.str) ∧ ∀ H', Same H H' → Q (.bl (makersB ks d)) H'
theorem makersB_no {ks : List Str} {d : PyData} (h : isTupB d 0 24 = false) : makersB ks d = false := by
  cases d with
  | tuple ds =>
    have h : (decide ((0 : Int) ≤ ds.length) && decide ((ds.length : Int) ≤ 24)) = false := h
    show (decide (ds.length ≤ 24) && _ && _) = false
    rw [decide_eq_true (show (0 : Int) ≤ ds.length by omega), Bool.true_and] at h
    have e : decide (ds.length ≤ 24) = false := h ▸ decide_eq_decide.mpr (by omega)
    rw [e]
    rfl
  | _ => rfl
theorem makerB_of {ks : List Str} {d : PyData} (h : makerB ks d = true) : ∃ (x : Str) (ns : List PyData) (k : Str), d = .tuple [.str x, .tuple ns, .str k] ∧ nameS x = true ∧ ns.length ≤ 3 ∧ ns.all (fun n => isAmongB n ks) = true ∧ k ∈ ks := by
  cases e : isTupB d 3 3 with
  | false => rw [makerB_no e] at h; cases h
  | true =>
    obtain ⟨a, b, c, rfl⟩ := tupB_3 e
    rw [makerB_3] at h
    simp only [Bool.and_eq_true] at h
    obtain ⟨h1, h2, h3, h4⟩ := h
    obtain ⟨ns, rfl, _, l3⟩ := tupB_n h2
    cases a with
    | str x =>
      cases c with
      | str k => exact ⟨x, ns, k, rfl, h1, by omega, h3, of_decide_eq_true h4⟩
      | _ => exact absurd h4 (by intro z; cases z)
    | _ => exact absurd h1 (by intro z; cases z)
theorem sc_are_makers_told : FnScope ["value", "kinds", "told", "name", "needs", "kind"] ["value", "kinds"] (defScope s_are_makers_told) := ⟨rfl, rfl, rfl, by decide +kernel, rfl, by decide +kernel, by decide +kernel⟩
theorem ok_are_makers_told (D : Df K mg "are_makers_told" s_are_makers_told) (B : Bi mg) (C : Cn mg) (G1 : Gd P w K mg base CX0 1 "is_tuple" ["value", "least", "most"] spTup) (G2 : Gd P w K mg base CX0 1 "is_name" ["value"] spName) (G3 : Gd P w K mg base CX0 1 "is_among" ["value", "texts"] (spAmong K)) (G4 : Gd P w K mg base CX0 1 "are_unlike" ["texts"] (spUnlike K)) (G5 : Gd P w K mg base CX0 2 "is_maker_told" ["value", "kinds"] (spMaker K)) : Gd P w K mg base CX0 3 "are_makers_told" ["value", "kinds"] (spMakers K) := by
  refine gd_of D (fun _ _ _ _ _ _ us hl => match us, hl with | [_, _], _ => rfl) fun f fd F => ?_
  refine fun_q F sc_are_makers_told (fun vs H Q E h => by obtain ⟨v, d, t, ks, rfl, _⟩ := h; rfl) (fun cdv A outer s H vs Q E hr hq h => ?_)
  obtain ⟨v, d, t, ks, rfl, hd, ok, hk, k⟩ := h
  refine ⟨_, (pss_cons (ps_if (PW.pt (pw_or (pt_not (pt_val (pe_g (G1.mono (by decide)) hr hq (pa_cons (pv 0) (pa_cons pe_int (pa_cons (pe_cn (by rfl) C.MOST_MAKERS) pa_nil)))))) (pw_or1 (pt_not (pt_val (pe_callB (cr_all rfl) (by rfl) B.all (by decide +kernel) (pa_cons (pe_lc (own := [("told", 2)]) (g := (gName 2)) (tt := tYes) rfl sc_are_makers_told.nd (pi_tup (pv 0)) (blkOk_by (own := [("told", 2)]) (N := ["value", "kinds", "told", "name", "needs", "kind"]) (sc := defScope s_are_makers_told) (by decide +kernel)) (fun _ _ _ _ _ => (pg_name (i := 2) sc_are_makers_told.nd rfl (Or.inl rfl))) (fun _ _ _ _ _ => pts_nil) (fun _ _ _ _ _ => (pe_g G5 hr hq (pa_cons (pv 2) (pa_cons (pv 1) pa_nil))))) pa_nil))))))) (pss_one (ps_ret pe_bl)) pss_nil)
      (pss_one (ps_ret (pe_g (G4.mono (by decide)) hr hq (pa_cons (pe_lc (own := [("name", 3), ("needs", 4), ("kind", 5)]) (g := (gTup K 3 (gCons (gName 3) (gCons (gName 4) (gCons (gName 5) gNil))))) (tt := tYes) rfl sc_are_makers_told.nd (pi_tup (pv 0)) (blkOk_by (own := [("name", 3), ("needs", 4), ("kind", 5)]) (N := ["value", "kinds", "told", "name", "needs", "kind"]) (sc := defScope s_are_makers_told) (by decide +kernel)) (fun _ _ _ _ _ => (pg_tup rfl (pgs_cons (pg_name (i := 3) sc_are_makers_told.nd rfl (Or.inl rfl)) (pgs_cons (pg_name (i := 4) sc_are_makers_told.nd rfl (Or.inl rfl)) (pgs_cons (pg_name (i := 5) sc_are_makers_told.nd rfl (Or.inl rfl)) pgs_nil))))) (fun _ _ _ _ _ => pts_nil) (fun _ _ _ _ _ => (pv 3))) pa_nil))))), ?_⟩
  walk_at "rd"
  refine ⟨v, d, 0, 24, rfl, hd, fun H1 s1 => ⟨_, rfl, ?_⟩⟩
  cases e : isTupB d 0 24 with
  | false =>
    refine iteT ?_
    have q := k H1 s1
    rw [makersB_no e] at q
    exact q
  | true =>
    obtain ⟨ds, rfl, l1, l8⟩ := tupB_n e
    obtain ⟨p, xs, rfl, hp, A⟩ := hd.tupD
    have lx := A.length
    refine iteF ?_
    walk_at "rd"
    refine ⟨⟨_, SqT.of (s1 _ _ hp)⟩, fun D hD => ?_⟩
    refine lc_vals walk_tup (fun i => ds[i]?.map fun d => V.bl (makerB ks d)) hD (by rw [lx, sizeLine_eq]; omega) (fun H s => SqT.of (s _ _ (s1 _ _ hp))) (fun i y H2 H3 K1 K0 hi s2 hy k1 k0 => ?_) (fun H2 s2 e2 => ?_)
    · obtain ⟨rfl, ey⟩ := hy
      obtain ⟨d, ed, hd⟩ := A.get ey
      refine ⟨rfl, ?_⟩
      walk_at "rd"
      refine ⟨y, d, t, ks, rfl, hd.mono (s1.trans s2), okTs_at ok ed, (s1.trans s2).seq hk, fun H4 s4 => k1 _ _ (by rw [ed]; rfl) s4⟩
    · rw [lx, range_map' (fun d => V.bl (makerB ks d)) ds] at e2
      have e3 : (ds.map fun d => V.bl (makerB ks d)) = (ds.map (makerB ks)).map V.bl := by rw [List.map_map]; rfl
      rw [e3] at e2
      walk_at "rd"
      refine ⟨D, _, rfl, SqL.of e2, ?_⟩
      refine ⟨_, rfl, ?_⟩
      cases ea : (ds.map (makerB ks)).all id with
      | false =>
        refine iteT ?_
        have q := k H2 (s1.trans s2)
        have e4 : makersB ks (.tuple ds) = false := by
          show (decide (ds.length ≤ 24) && ds.all (makerB ks) && _) = false
          rw [List.all_map] at ea
          rw [show ds.all (makerB ks) = false from ea]
          simp
        rw [e4] at q
        exact q
      | true =>
        have eb : ds.all (makerB ks) = true := by rw [List.all_map] at ea; exact ea
        refine iteF ?_
        walk_at "rd"
        refine ⟨⟨_, SqT.of (s2 _ _ (s1 _ _ hp))⟩, fun D2 hD2 => ?_⟩
        refine lc_vals walk_tup (fun i => ds[i]?.map fun d => V.str (nameOf d)) hD2 (by rw [lx, sizeLine_eq]; omega) (fun H s => SqT.of (s _ _ (s2 _ _ (s1 _ _ hp)))) (fun i y H3 H4 K1 K0 hi s3 hy k1 k0 => ?_) (fun H3 s3 e5 => ?_)
        · obtain ⟨rfl, ey⟩ := hy
          obtain ⟨d, ed, hd⟩ := A.get ey
          have kd : makerB ks d = true := List.all_eq_true.mp eb d (List.mem_of_getElem? ed)
          obtain ⟨x, b, c, rfl, _⟩ := makerB_of kd
          obtain ⟨q, vx, vb, vc, rfl, hq2, hx, hb, hc⟩ := (hd.mono (s1.trans (s2.trans s3))) |> dd3
          obtain rfl := hx.strD
          refine ⟨q, _, rfl, SqT.of hq2, rfl, _, _, rfl, _, _, rfl, _, _, rfl, rfl, rfl, ?_⟩
          refine ⟨_, rfl, ?_⟩
          exact k1 _ _ (by rw [ed]; rfl) (Same.refl _)
        · rw [lx, range_map' (fun d => V.str (nameOf d)) ds] at e5
          have e6 : (ds.map fun d => V.str (nameOf d)) = (ds.map nameOf).map V.str := by rw [List.map_map]; rfl
          rw [e6] at e5
          refine ⟨D2, _, rfl, SqL.of e5, by rw [List.length_map]; omega, fun H5 s5 => ?_⟩
          have q := k H5 (s1.trans (s2.trans (s3.trans s5)))
          have e7 : makersB ks (.tuple ds) = decide (ds.map nameOf).Nodup := by
            show (decide (ds.length ≤ 24) && ds.all (makerB ks) && decide (ds.map nameOf).Nodup) = _
            rw [eb, decide_eq_true (by omega : ds.length ≤ 24)]
            simp
          rw [e7] at q
          exact q

end

section
variable {X : Cx} {K : PySem.W.Frag}
theorem ix_tupK (h : X.K = K) : IxR X (rIxT K) := h ▸ ix_tup
theorem ix_listK (h : X.K = K) : IxR X (rIxL K) := h ▸ ix_list
theorem pi_tupK {tg e : Expr} {te : TE} (h : X.K = K) (he : PE X e te) : PI X tg e (iTup K te) := h ▸ pi_tup he
theorem pi_listK {tg e : Expr} {te : TE} (h : X.K = K) (he : PE X e te) : PI X tg e (iList K te) := h ▸ pi_list he
theorem op_in_seqK (h : X.K = K) : OpR X (compareOp .In) (rIn K false) := h ▸ op_in_seq
theorem cr_allK (h : X.K = K) (hc : X.calm = true) : CallR X (.builtin "all") (rAll K) := h ▸ cr_all hc
theorem op_catTK (h : X.K = K) : OpR X (binaryOp .Add) (rCatT K) := h ▸ op_catT
end

theorem nodup_at {α : Type} {l : List α} (h : l.Nodup) {i j : Nat} {a : α} (hi : l[i]? = some a) (hj : l[j]? = some a) : i = j := by
  obtain ⟨i1, i2⟩ := List.getElem?_eq_some_iff.mp hi
  obtain ⟨j1, j2⟩ := List.getElem?_eq_some_iff.mp hj
  have p := List.pairwise_iff_getElem.mp h
  rcases Nat.lt_trichotomy i j with c | c | c
  · exact absurd (i2.trans j2.symm) (p i j i1 j1 c)
  · exact c
  · exact absurd (j2.trans i2.symm) (p j i j1 i1 c)
def wordOf (d : PyData) : Str := match d with | .tuple [_, .str b] => b | _ => Str.empty
def strD (d : PyData) : Str := match d with | .str x => x | _ => Str.empty
def needsOf (d : PyData) : List Str := match d with | .tuple [_, .tuple ns, _] => ns.map strD | _ => []
def kindOf (d : PyData) : Str := match d with | .tuple [_, _, .str k] => k | _ => Str.empty
/-- the dict of some names -/
def dic (ns : List Str) (S : Str → Bool) : List (Key × V) := ns.map fun x => (Sum.inr x, V.bl (S x))
theorem dic_get {S : Str → Bool} {x : Str} : ∀ {ns : List Str}, x ∈ ns → valV (dic ns S) (Sum.inr x) = some (.bl (S x))
  | [], h => by cases h
  | y :: ns, h => by
    by_cases e : y = x
    · subst e
      exact valV_pos rfl
    · have h2 : x ∈ ns := (List.mem_cons.mp h).resolve_left fun z => e z.symm
      exact (valV_neg (r := dic ns S) (fun z => e (Sum.inr.inj z))).trans (dic_get h2)
theorem dic_any {S : Str → Bool} {x : Str} {ns : List Str} : ((dic ns S).any fun kv => decide (kv.1 = Sum.inr x)) = decide (x ∈ ns) := by
  unfold dic
  rw [List.any_map, Bool.eq_iff_iff, List.any_eq_true, decide_eq_true_iff]
  constructor
  · rintro ⟨y, hy, e⟩
    have e := of_decide_eq_true e
    exact (Sum.inr.inj e) ▸ hy
  · exact fun h => ⟨x, h, decide_eq_true rfl⟩
theorem dic_put {S : Str → Bool} {x : Str} {b : Bool} {ns : List Str} (h : x ∈ ns) : putK (dic ns S) (Sum.inr x) (.bl b) = dic ns (fun y => if y = x then b else S y) := by
  unfold putK
  rw [dic_any, if_pos (decide_eq_true h)]
  unfold dic
  rw [List.map_map]
  refine List.map_congr_left fun y _ => ?_
  show (if (Sum.inr y : Key) = Sum.inr x then ((Sum.inr y : Key), V.bl b) else (Sum.inr y, V.bl (S y))) = (Sum.inr y, V.bl (if y = x then b else S y))
  by_cases e : y = x
  · subst e; simp
  · rw [if_neg (fun z => e (Sum.inr.inj z)), if_neg e]
theorem put_new {kvs : List (Key × V)} {k : Key} {v : V} (h : ∀ p ∈ kvs, p.1 ≠ k) : putK kvs k v = kvs ++ [(k, v)] := by
  unfold putK
  rw [if_neg]
  intro z
  obtain ⟨p, hp, e⟩ := List.any_eq_true.mp z
  exact h p hp (of_decide_eq_true e)
/-- {k: v for .. in t}, keys and values told ahead, the keys unlike -/
theorem dc_vals {K : PySem.W.Frag} {a : Addr} {xs : List V} {g : TG} {tt : TT} {tk tv : TE} {vs : List Nat} {σ : L2.St} {H1 : Hp} {D : Addr} {Qd : Hp → Prop}
    (f : Nat → Key × V) (hD : H1 D = none) (lz : xs.length ≤ sizeLine) (hG : ∀ H, Same H1 H → SqT K H a xs) (inj : ∀ i j, i < j → j < xs.length → (f i).1 ≠ (f j).1)
    (hs : ∀ i x H (M : V → V → Hp → Prop) (M0 : Hp → Prop), xs[i]? = some x → Same H1 H → (∀ H4, Same H H4 → M (kV (f i).1) (f i).2 H4) →
      g x (wipe σ vs) H fun σ2 H2 => wipe σ2 vs = wipe σ vs ∧ tt σ2 H2 fun b H3 => if b = true then tk σ2 H3 fun y H4 => tv σ2 H4 fun z H5 => M y z H5 else M0 H3)
    (hd : ∀ H, Same H1 H → H D = some (.dK ((List.range xs.length).map f)) → Qd H) :
    ∃ W : Nat → Nat → Hp → Prop, (∃ m, W 0 m (upd H1 D (.dK []))) ∧ ∀ i m H, W i m H →
      ((Itt K a).stop i H ∧ Qd H) ∨ ((Itt K a).go i H ∧ ∃ Nx : Hp → Prop, (∀ H', Nx H' → ∃ m', m' < m ∧ W (i + 1) m' H') ∧ ∀ x H', (Itt K a).yld i H x H' → g x (wipe σ vs) H' fun σ2 H2 => wipe σ2 vs = wipe σ vs ∧ tt σ2 H2 fun b H3 =>
        if b = true then tk σ2 H3 fun y H4 => tv σ2 H4 fun z H5 => ∃ kvs k, y = kV k ∧ H5 D = some (.dK kvs) ∧ kvs.length < sizeLine ∧ Nx (upd H5 D (.dK (putK kvs k z))) else Nx H3) := by
  refine dc_tup (fun i H => Same H1 H ∧ H D = some (.dK ((List.range i).map f))) ⟨same_new hD _, upd_same⟩ (fun i H _ p => hG H p.1) (fun i x H ex p => ?_) (fun H p => hd H p.1 p.2)
  obtain ⟨s1, e1⟩ := p
  have hi : i < xs.length := (List.getElem?_eq_some_iff.mp ex).1
  refine hs i x H _ _ ex s1 fun H4 s4 => ?_
  refine ⟨_, _, rfl, s4 _ _ e1, by rw [List.length_map, List.length_range]; omega, same_put (s1.trans s4) hD, ?_⟩
  rw [upd_same, put_new, List.range_succ, List.map_append]
  · rfl
  · intro p hp
    obtain ⟨j, hj, rfl⟩ := List.mem_map.mp hp
    exact inj j i (List.mem_range.mp hj) hi
theorem range_getD {α β : Type} (g : α → β) (e : α) : ∀ xs : List α, (List.range xs.length).map (fun i => g (xs[i]?.getD e)) = xs.map g
  | [] => rfl
  | x :: xs => by
    rw [List.length_cons, List.range_succ_eq_map, List.map_cons, List.map_cons, List.map_map, ← range_getD g e xs]
    rfl
/-- one maker's turn -/
def stepM (S : Str → Bool) (m : PyData) : Str → Bool := if (needsOf m).all S = true then fun y => if y = kindOf m then true else S y else S
def roundsM (md : List PyData) : Nat → (Str → Bool) → Str → Bool
  | 0, S => S
  | n + 1, S => md.foldl stepM (roundsM md n S)
def S0 (kd : List PyData) (y : Str) : Bool := kd.any fun d => decide (nameOf d = y) && decide (wordOf d = "open")
def haveB (kd md : List PyData) : Bool := (kd.map nameOf).all (roundsM md kd.length (S0 kd))
theorem S0_at {kd : List PyData} (nd : (kd.map nameOf).Nodup) {d : PyData} (h : d ∈ kd) : S0 kd (nameOf d) = decide (wordOf d = "open") := by
  unfold S0
  rw [Bool.eq_iff_iff, List.any_eq_true, decide_eq_true_iff]
  constructor
  · rintro ⟨e, he, q⟩
    rw [Bool.and_eq_true, decide_eq_true_iff, decide_eq_true_iff] at q
    have : e = d := by
      obtain ⟨i, hi, rfl⟩ := List.getElem_of_mem he
      obtain ⟨j, hj, rfl⟩ := List.getElem_of_mem h
      have := nodup_at nd (i := i) (j := j) (a := nameOf kd[j]) (by rw [List.getElem?_map, List.getElem?_eq_getElem hi, Option.map_some, q.1]) (by rw [List.getElem?_map, List.getElem?_eq_getElem hj, Option.map_some])
      subst this
      rfl
    exact this ▸ q.2
  · exact fun q => ⟨d, h, by rw [decide_eq_true q]; simp⟩
theorem kindsB_parts {ds : List PyData} (h : kindsB (.tuple ds) = true) : 1 ≤ ds.length ∧ ds.length ≤ 8 ∧ (∀ d ∈ ds, kindB d = true) ∧ (ds.map nameOf).Nodup := by
  have h : (decide (1 ≤ ds.length) && decide (ds.length ≤ 8) && ds.all kindB && decide (ds.map nameOf).Nodup) = true := h
  simp only [Bool.and_eq_true, decide_eq_true_iff] at h
  exact ⟨h.1.1.1, h.1.1.2, List.all_eq_true.mp h.1.2, h.2⟩
theorem makersB_parts {ks : List Str} {ds : List PyData} (h : makersB ks (.tuple ds) = true) : ds.length ≤ 24 ∧ (∀ d ∈ ds, makerB ks d = true) ∧ (ds.map nameOf).Nodup := by
  have h : (decide (ds.length ≤ 24) && ds.all (makerB ks) && decide (ds.map nameOf).Nodup) = true := h
  simp only [Bool.and_eq_true, decide_eq_true_iff] at h
  exact ⟨h.1.1, List.all_eq_true.mp h.1.2, h.2⟩
theorem among_str {d : PyData} {ks : List Str} (h : isAmongB d ks = true) : ∃ x, d = .str x ∧ x ∈ ks := by
  cases d with
  | str x => exact ⟨x, rfl, of_decide_eq_true h⟩
  | _ => exact absurd h (by intro z; cases z)
theorem dec_str (a b : Str) : decide (V.str a = V.str b) = decide (a = b) := decide_eq_decide.mpr ⟨fun z => by injection z, fun z => by rw [z]⟩

section
variable {P : Program} {w : World} {K : PySem.W.Frag} {mg : Str → Option Value} {base : Heap}

/-- have_terms(kinds, makers), for kinds and makers as told -/
def spHave : Sp := fun vs H Q _ => ∃ (u v : V) (kd md : List PyData), vs = [u, v] ∧ Dd H u (.tuple kd) ∧ Dd H v (.tuple md) ∧ kindsB (.tuple kd) = true ∧ makersB (kd.map nameOf) (.tuple md) = true ∧ ∀ H', Same H H' → Q (.bl (haveB kd md)) H'
theorem sc_have_terms : FnScope ["kinds", "makers", "filled", "name", "word", "_", "needs", "kind", "need"] ["kinds", "makers"] (defScope s_have_terms) := ⟨rfl, rfl, rfl, by decide +kernel, rfl, by decide +kernel, by decide +kernel⟩
theorem ok_have_terms (D : Df K mg "have_terms" s_have_terms) (B : Bi mg) : Gd P w K mg base CX0 1 "have_terms" ["kinds", "makers"] spHave := by
  refine gd_of D (fun _ _ _ _ _ _ us hl => match us, hl with | [_, _], _ => rfl) fun f fd F => ?_
  refine fun_q F sc_have_terms (fun vs H Q E h => by obtain ⟨u, v, kd, md, rfl, _⟩ := h; rfl) (fun cdv A outer s H vs Q E hr hq h => ?_)
  obtain ⟨u, v, kd, md, rfl, hk, hm, k1, k2, k⟩ := h
  refine ⟨_, (pss_cons (ps_set (i := 2) sc_have_terms.nd rfl (Or.inr rfl) (pe_dc (own := [("name", 3), ("word", 4)]) (g := (gTup K 2 (gCons (gName 3) (gCons (gName 4) gNil)))) (tt := tYes) rfl sc_have_terms.nd (pi_tup (pv 0)) (blkOk_by (own := [("name", 3), ("word", 4)]) (N := ["kinds", "makers", "filled", "name", "word", "_", "needs", "kind", "need"]) (sc := defScope s_have_terms) (by decide +kernel)) (fun _ _ _ _ _ => (pg_tup rfl (pgs_cons (pg_name (i := 3) sc_have_terms.nd rfl (Or.inl rfl)) (pgs_cons (pg_name (i := 4) sc_have_terms.nd rfl (Or.inl rfl)) pgs_nil)))) (fun _ _ _ _ _ => pts_nil) (fun _ _ _ _ _ => (pv 3)) (fun _ _ _ _ _ => (pe_cmpR op_eq (pv 4) pe_str (nomark _)))))
      (pss_cons (ps_for PassesOwn.never rfl (pi_tup (pv 0)) (pg_name (i := 5) sc_have_terms.nd rfl (Or.inl rfl)) (pss_one (ps_for PassesOwn.never rfl (pi_tup (pv 1)) (pg_tup rfl (pgs_cons (pg_name (i := 3) sc_have_terms.nd rfl (Or.inl rfl)) (pgs_cons (pg_name (i := 6) sc_have_terms.nd rfl (Or.inl rfl)) (pgs_cons (pg_name (i := 7) sc_have_terms.nd rfl (Or.inl rfl)) pgs_nil)))) (pss_one (ps_if (pt_val (pe_callB (cr_all rfl) (by rfl) B.all (by decide +kernel) (pa_cons (pe_lc (own := [("need", 8)]) (g := (gName 8)) (tt := tYes) rfl sc_have_terms.nd (pi_tup (pv 6)) (blkOk_by (own := [("need", 8)]) (N := ["kinds", "makers", "filled", "name", "word", "_", "needs", "kind", "need"]) (sc := defScope s_have_terms) (by decide +kernel)) (fun _ _ _ _ _ => (pg_name (i := 8) sc_have_terms.nd rfl (Or.inl rfl))) (fun _ _ _ _ _ => pts_nil) (fun _ _ _ _ _ => (pe_dget (hu_of hr) (pv 2) (pv 8) (fun _ _ => rfl)))) pa_nil))) (pss_one (ps_dput (hu_of hr) (pv 2) (pv 7) pe_bl rfl)) pss_nil)))))
      (pss_one (ps_ret (pe_callB (cr_all rfl) (by rfl) B.all (by decide +kernel) (pa_cons (pe_listVals rfl B.list (pv 2)) pa_nil)))))), ?_⟩
  obtain ⟨ka, kx, rfl, hka, KA⟩ := hk.tupD
  obtain ⟨ma, mx, rfl, hma, MA⟩ := hm.tupD
  obtain ⟨l1, l8, kb, knd⟩ := kindsB_parts k1
  obtain ⟨l24, mb, mnd⟩ := makersB_parts k2
  have lk := KA.length
  have lm := MA.length
  walk_at "rd"
  refine ⟨⟨_, SqT.of hka⟩, fun D hD => ?_⟩
  have gk : ∀ {i : Nat} {y : V} {H' : Hp}, kx[i]? = some y → Same H H' → ∃ q x b vb, kd[i]? = some (.tuple [.str x, .str b]) ∧ y = .ref q ∧ H' q = some (.tup [.str x, vb]) ∧ vb = .str b := fun {i y H'} e s => by
    obtain ⟨d, ed, hd⟩ := KA.get e
    obtain ⟨x, b, rfl, _, hb⟩ := kindB_pair (kb d (List.mem_of_getElem? ed))
    obtain ⟨b, rfl, _⟩ := among_str hb
    obtain ⟨q, vx, vb, rfl, hq2, hx, hb⟩ := dd2 (hd.mono s)
    obtain rfl := hx.strD
    exact ⟨q, x, b, vb, ed, rfl, hq2, hb.strD⟩
  refine dc_vals (fun i => (Sum.inr (nameOf (kd[i]?.getD .none)), V.bl (decide (wordOf (kd[i]?.getD .none) = "open")))) hD (by rw [lk, sizeLine_eq]; omega) (fun H s => SqT.of (s _ _ hka)) (fun i j hij hj e => ?_) (fun i y H2 M M0 ey s2 k4 => ?_) (fun H2 s2 e2 => ?_)
  · rw [lk] at hj
    have e := Sum.inr.inj e
    have hi : i < kd.length := by omega
    rw [List.getElem?_eq_getElem hi, List.getElem?_eq_getElem hj] at e
    have := nodup_at knd (i := i) (j := j) (a := nameOf kd[j]) (by rw [List.getElem?_map, List.getElem?_eq_getElem hi, Option.map_some]; exact congrArg some e) (by rw [List.getElem?_map, List.getElem?_eq_getElem hj, Option.map_some])
    omega
  · obtain ⟨q, x, b, vb, ed, rfl, hq2, rfl⟩ := gk ey s2
    refine ⟨q, _, rfl, SqT.of hq2, rfl, _, _, rfl, _, _, rfl, rfl, rfl, ?_⟩
    walk_at "rd"
    have k5 := k4 H2 (Same.refl _)
    rw [ed] at k5
    rw [dec_str]
    exact k5
  · have e3 : (List.range kx.length).map (fun i => ((Sum.inr (nameOf (kd[i]?.getD .none)) : Key), V.bl (decide (wordOf (kd[i]?.getD .none) = "open")))) = dic (kd.map nameOf) (S0 kd) := by
      rw [lk, range_getD (fun d => ((Sum.inr (nameOf d) : Key), V.bl (decide (wordOf d = "open")))) .none kd]
      unfold dic
      rw [List.map_map]
      refine List.map_congr_left fun d hd => ?_
      show _ = ((Sum.inr (nameOf d) : Key), V.bl (S0 kd (nameOf d)))
      rw [S0_at knd hd]
    rw [e3] at e2
    walk_at "rd"
    refine ⟨⟨_, SqT.of (s2 _ _ hka)⟩, ?_⟩
    refine for_it walk_tup (fun i σ H3 => (∃ n u e k', σ = [some (.ref ka), some (.ref ma), some (.ref D), n, none, u, e, k', none]) ∧ Same H H3 ∧ H3 D = some (.dK (dic (kd.map nameOf) (roundsM md i (S0 kd)))))
      ⟨⟨_, _, _, _, rfl⟩, s2, e2⟩ (fun i σ H3 _ p => SqT.of (p.2.1 _ _ hka)) (fun i y σ H3 H4 hi p hy => ?_) (fun σ H3 p => ?_)
    · obtain ⟨rfl, _⟩ := hy
      obtain ⟨⟨n, u, e, k', rfl⟩, s3, e3⟩ := p
      walk_at "rd"
      refine ⟨⟨_, SqT.of (s3 _ _ hma)⟩, ?_⟩
      refine for_it walk_tup (fun j σ H5 => (∃ n u e k', σ = [some (.ref ka), some (.ref ma), some (.ref D), n, none, u, e, k', none]) ∧ Same H H5 ∧ H5 D = some (.dK (dic (kd.map nameOf) ((md.take j).foldl stepM (roundsM md i (S0 kd))))))
        ⟨⟨_, _, _, _, rfl⟩, s3, by rw [List.take_zero]; exact e3⟩ (fun j σ H5 _ p => SqT.of (p.2.1 _ _ hma)) (fun j y σ H5 H6 hj p hy => ?_) (fun σ H5 p => ?_)
      · obtain ⟨rfl, ey⟩ := hy
        obtain ⟨⟨n, u, e, k', rfl⟩, s5, e5⟩ := p
        obtain ⟨m, em, hm⟩ := MA.get ey
        obtain ⟨x, ns, kk, rfl, _, l3, hns, hkk⟩ := makerB_of (mb m (List.mem_of_getElem? em))
        obtain ⟨q, vx, vn, vk, rfl, hq5, hx, hn, hk5⟩ := dd3 (hm.mono s5)
        obtain rfl := hx.strD
        obtain rfl := hk5.strD
        obtain ⟨na, nx, rfl, hna, NA⟩ := hn.tupD
        have ln := NA.length
        have et : (md.take (j + 1)).foldl stepM (roundsM md i (S0 kd)) = stepM ((md.take j).foldl stepM (roundsM md i (S0 kd))) (.tuple [.str x, .tuple ns, .str kk]) := by
          rw [List.take_add_one, em, List.foldl_append]
          rfl
        rw [et]
        generalize (md.take j).foldl stepM (roundsM md i (S0 kd)) = S at e5 ⊢
        refine ⟨q, _, rfl, SqT.of hq5, rfl, _, _, rfl, _, _, rfl, _, _, rfl, rfl, ?_⟩
        walk_at "rd"
        refine ⟨⟨_, SqT.of hna⟩, fun D2 hD2 => ?_⟩
        refine lc_vals walk_tup (fun i => ns[i]?.map fun n => V.bl (S (strD n))) hD2 (by rw [ln, sizeLine_eq]; omega) (fun H s => SqT.of (s _ _ hna)) (fun i y H7 H8 K1 K0 hi s7 hy k1 k0 => ?_) (fun H7 s7 e7 => ?_)
        · obtain ⟨rfl, ey⟩ := hy
          obtain ⟨d, ed, hd⟩ := NA.get ey
          obtain ⟨z, rfl, hz⟩ := among_str (List.all_eq_true.mp hns d (List.mem_of_getElem? ed))
          obtain rfl := hd.strD
          refine ⟨rfl, ?_⟩
          walk_at "rd"
          refine ⟨D, _, rfl, ?_, k1 _ _ (by rw [ed]; rfl) (Same.refl _)⟩
          have dg := DGet.k (k := Sum.inr z) (s7 _ _ e5)
          rw [dic_get hz] at dg
          exact dg
        · rw [ln, range_map' (fun n => V.bl (S (strD n))) ns] at e7
          have e8 : (ns.map fun n => V.bl (S (strD n))) = (ns.map fun n => S (strD n)).map V.bl := by rw [List.map_map]; rfl
          rw [e8] at e7
          walk_at "rd"
          refine ⟨D2, _, rfl, SqL.of e7, ?_⟩
          refine ⟨_, rfl, ?_⟩
          have ea : ((ns.map fun n => S (strD n)).all id) = (needsOf (.tuple [.str x, .tuple ns, .str kk])).all S := by
            show _ = (ns.map strD).all S
            rw [List.all_map, List.all_map]
            rfl
          rw [ea]
          have s57 := s5.trans s7
          have e9 := s7 _ _ e5
          cases eb : (needsOf (.tuple [.str x, .tuple ns, .str kk])).all S with
          | true =>
            have es : stepM S (.tuple [.str x, .tuple ns, .str kk]) = fun y => if y = kk then true else S y := if_pos eb
            rw [es]
            refine iteT ?_
            walk_at "rd"
            refine ⟨D, _, rfl, DPut.k (k := Sum.inr kk) e9 (by unfold dic; rw [List.length_map, List.length_map, sizeLine_eq]; omega), ⟨_, _, _, _, rfl⟩, same_put s57 hD, ?_⟩
            rw [upd_same, dic_put hkk]
          | false =>
            have es : stepM S (.tuple [.str x, .tuple ns, .str kk]) = S := if_neg (by rw [eb]; exact Bool.false_ne_true)
            rw [es]
            refine iteF ?_
            exact ⟨⟨_, _, _, _, rfl⟩, s57, e9⟩
      · obtain ⟨⟨n, u, e, k', rfl⟩, s5, e5⟩ := p
        refine ⟨⟨_, _, _, _, rfl⟩, s5, ?_⟩
        rw [lm, List.take_length] at e5
        exact e5
    · obtain ⟨⟨n, u, e, k', rfl⟩, s3, e3⟩ := p
      rw [lk] at e3
      walk_at "rd"
      refine ⟨D, _, rfl, e3, by unfold dic; rw [List.length_map, List.length_map, sizeLine_eq]; omega, fun p hp => ?_⟩
      walk_at "rd"
      have e4 : (dic (kd.map nameOf) (roundsM md kd.length (S0 kd))).map (·.2) = ((kd.map nameOf).map (roundsM md kd.length (S0 kd))).map V.bl := by
        simp only [dic, List.map_map]
        rfl
      rw [e4]
      refine ⟨p, _, rfl, SqL.of upd_same, ?_⟩
      have e5 : (((kd.map nameOf).map (roundsM md kd.length (S0 kd))).all id) = haveB kd md := by rw [List.all_map]; rfl
      rw [e5]
      exact k _ (same_put s3 (s3.free hp))

end

section
variable {P : Program} {w : World} {K : PySem.W.Frag} {mg : Str → Option Value} {base : Heap}

def namesOf (k : PyData) : List Str := match k with | .tuple kd => kd.map nameOf | _ => []
def have2 (k m : PyData) : Bool := match k, m with | .tuple kd, .tuple md => haveB kd md | _, _ => false
/-- a signature -/
def sigB (d : PyData) : Bool := match d with | .tuple [k, m] => kindsB k && (makersB (namesOf k) m && have2 k m) | _ => false
theorem sigB_no {d : PyData} (h : isTupB d 2 2 = false) : sigB d = false := by
  cases d with
  | tuple ds =>
    match ds with
    | [a, b] => exact absurd (show isTupB (.tuple [a, b]) 2 2 = true from rfl) (by rw [h]; intro z; cases z)
    | [] => rfl
    | [_] => rfl
    | _ :: _ :: _ :: _ => rfl
  | _ => rfl
theorem kindsB_tup {k : PyData} (h : kindsB k = true) : ∃ kd, k = .tuple kd := by
  cases k with
  | tuple kd => exact ⟨kd, rfl⟩
  | _ => exact absurd h (by intro z; cases z)
theorem makersB_tup {ks : List Str} {m : PyData} (h : makersB ks m = true) : ∃ md, m = .tuple md := by
  cases m with
  | tuple md => exact ⟨md, rfl⟩
  | _ => exact absurd h (by intro z; cases z)
theorem sigB_of {d : PyData} (h : sigB d = true) : ∃ kd md, d = .tuple [.tuple kd, .tuple md] ∧ kindsB (.tuple kd) = true ∧ makersB (kd.map nameOf) (.tuple md) = true ∧ haveB kd md = true := by
  cases e : isTupB d 2 2 with
  | false => rw [sigB_no e] at h; cases h
  | true =>
    obtain ⟨k, m, rfl⟩ := tupB_2 e
    have h : (kindsB k && (makersB (namesOf k) m && have2 k m)) = true := h
    simp only [Bool.and_eq_true] at h
    obtain ⟨h1, h2, h3⟩ := h
    obtain ⟨kd, rfl⟩ := kindsB_tup h1
    obtain ⟨md, rfl⟩ := makersB_tup h2
    exact ⟨kd, md, rfl, h1, h2, h3⟩
/-- a kind at its place, as it stands in the heap -/
theorem kind_at {H : Hp} {kx : List V} {kd : List PyData} (A : DdA H kx kd) (kb : ∀ d ∈ kd, kindB d = true) {i : Nat} {y : V} (e : kx[i]? = some y) :
    ∃ q x b, kd[i]? = some (.tuple [.str x, .str b]) ∧ y = .ref q ∧ H q = some (.tup [.str x, .str b]) ∧ (b = "open" ∨ b = "closed") := by
  obtain ⟨d, ed, hd⟩ := A.get e
  obtain ⟨x, b, rfl, _, hb⟩ := kindB_pair (kb d (List.mem_of_getElem? ed))
  have hb0 := hb
  obtain ⟨b, rfl, hmem⟩ := among_str hb0
  obtain ⟨q, vx, vb, rfl, hq2, hx, hy⟩ := dd2 hd
  obtain rfl := hx.strD
  obtain rfl := hy.strD
  refine ⟨q, x, b, ed, rfl, hq2, ?_⟩
  rcases List.mem_cons.mp hmem with z | z
  · exact .inl z
  · exact .inr (List.mem_singleton.mp z)
def spSig : Sp := fun vs H Q _ => ∃ (v : V) (d : PyData), vs = [v] ∧ Dd H v d ∧ okT d = true ∧ ∀ H', Same H H' → Q (.bl (sigB d)) H'

theorem sc_is_signature : FnScope ["value", "kinds", "makers", "name", "word"] ["value"] (defScope s_is_signature) := ⟨rfl, rfl, rfl, by decide +kernel, rfl, by decide +kernel, by decide +kernel⟩
theorem okF_is_signature {f : Addr} {fd : FuncData} (F : Fun K "is_signature" "is_signature" s_is_signature f fd)  (B : Bi mg) (G1 : Gd P w K mg base CX0 1 "is_tuple" ["value", "least", "most"] spTup) (G2 : Gd P w K mg base CX0 3 "are_kinds_told" ["value"] spKinds) (G3 : Gd P w K mg base CX0 3 "are_makers_told" ["value", "kinds"] (spMakers K)) (G4 : Gd P w K mg base CX0 1 "have_terms" ["kinds", "makers"] spHave) : Fn P w K mg base CX0 4 f fd ["value"] spSig := by
  refine fun_q F sc_is_signature (fun vs H Q E h => by obtain ⟨v, d, rfl, _⟩ := h; rfl) (fun cdv A outer s H vs Q E hr hq h => ?_)
  obtain ⟨v, d, rfl, hd, ok, k⟩ := h
  refine ⟨_, (pss_cons (ps_if (pt_not (pt_val (pe_g (G1.mono (by decide)) hr hq (pa_cons (pv 0) (pa_cons pe_int (pa_cons pe_int pa_nil)))))) (pss_one (ps_ret pe_bl)) pss_nil)
      (pss_cons (ps_asg (pv 0) (pg_tup rfl (pgs_cons (pg_name (i := 1) sc_is_signature.nd rfl (Or.inl rfl)) (pgs_cons (pg_name (i := 2) sc_is_signature.nd rfl (Or.inl rfl)) pgs_nil))))
      (pss_cons (ps_if (pt_not (pt_val (pe_g G2 hr hq (pa_cons (pv 1) pa_nil)))) (pss_one (ps_ret pe_bl)) pss_nil)
      (pss_one (ps_ret (pe_and (pe_g G3 hr hq (pa_cons (pv 2) (pa_cons (pe_lc (own := [("name", 3), ("word", 4)]) (g := (gTup K 2 (gCons (gName 3) (gCons (gName 4) gNil)))) (tt := tYes) rfl sc_is_signature.nd (pi_tup (pv 1)) (blkOk_by (own := [("name", 3), ("word", 4)]) (N := ["value", "kinds", "makers", "name", "word"]) (sc := defScope s_is_signature) (by decide +kernel)) (fun _ _ _ _ _ => (pg_tup rfl (pgs_cons (pg_name (i := 3) sc_is_signature.nd rfl (Or.inl rfl)) (pgs_cons (pg_name (i := 4) sc_is_signature.nd rfl (Or.inl rfl)) pgs_nil)))) (fun _ _ _ _ _ => pts_nil) (fun _ _ _ _ _ => (pv 3))) pa_nil))) (pe_one (pe_g (G4.mono (by decide)) hr hq (pa_cons (pv 1) (pa_cons (pv 2) pa_nil)))))))))), ?_⟩
  walk_at "rd"
  refine ⟨v, d, 2, 2, rfl, hd, fun H1 s1 => ⟨_, rfl, ?_⟩⟩
  cases e : isTupB d 2 2 with
  | false =>
    refine iteT ?_
    have q := k H1 s1
    rw [sigB_no e] at q
    exact q
  | true =>
    obtain ⟨a, b, rfl⟩ := tupB_2 e
    obtain ⟨oka, okb⟩ := okT_2 ok
    obtain ⟨p, x, y, rfl, hp, ha, hb⟩ := dd2 hd
    have k : ∀ H', Same H H' → Q (.bl (kindsB a && (makersB (namesOf a) b && have2 a b))) H' := k
    refine iteF ?_
    walk_at "rd"
    refine ⟨p, _, rfl, SqT.of (s1 _ _ hp), rfl, _, _, rfl, _, _, rfl, rfl, ?_⟩
    walk_at "rd"
    refine ⟨x, a, rfl, ha.mono s1, oka, fun H2 s2 => ⟨_, rfl, ?_⟩⟩
    have s12 := s1.trans s2
    cases ek : kindsB a with
    | false =>
      refine iteT ?_
      have q := k H2 s12
      rw [ek] at q
      exact q
    | true =>
      rw [ek, Bool.true_and] at k
      obtain ⟨kd, rfl⟩ := kindsB_tup ek
      obtain ⟨l1, l8, kb, knd⟩ := kindsB_parts ek
      obtain ⟨ka, kx, rfl, hka, KA⟩ := ha.tupD
      have lk := KA.length
      refine iteF ?_
      walk_at "rd"
      refine ⟨⟨_, SqT.of (s12 _ _ hka)⟩, fun D hD => ?_⟩
      refine lc_vals walk_tup (fun i => kd[i]?.map fun d => V.str (nameOf d)) hD (by rw [lk, sizeLine_eq]; omega) (fun H s => SqT.of (s _ _ (s12 _ _ hka))) (fun i y H3 H4 K1 K0 hi s3 hy k1 k0 => ?_) (fun H3 s3 e3 => ?_)
      · obtain ⟨rfl, ey⟩ := hy
        obtain ⟨q, x, b, ed, rfl, hq2, _⟩ := kind_at (KA.mono (s12.trans s3)) kb ey
        refine ⟨q, _, rfl, SqT.of hq2, rfl, _, _, rfl, _, _, rfl, rfl, rfl, ?_⟩
        refine ⟨_, rfl, ?_⟩
        exact k1 _ _ (by rw [ed]; rfl) (Same.refl _)
      · rw [lk, range_map' (fun d => V.str (nameOf d)) kd] at e3
        have e4 : (kd.map fun d => V.str (nameOf d)) = (kd.map nameOf).map V.str := by rw [List.map_map]; rfl
        rw [e4] at e3
        have s13 := s12.trans s3
        refine ⟨y, b, D, _, rfl, hb.mono s13, okb, SqL.of e3, fun H5 s5 => ?_⟩
        refine ⟨_, rfl, ?_⟩
        have s15 := s13.trans s5
        cases em : makersB (kd.map nameOf) b with
        | false =>
          refine iteF ?_
          have q : Q (.bl (makersB (kd.map nameOf) b && have2 (.tuple kd) b)) H5 := k H5 s15
          rw [em] at q
          exact q
        | true =>
          obtain ⟨md, rfl⟩ := makersB_tup em
          refine iteT ?_
          walk_at "rd"
          refine ⟨_, _, kd, md, rfl, ha.mono s15, hb.mono s15, ek, em, fun H6 s6 => ?_⟩
          have q : Q (.bl (makersB (kd.map nameOf) (.tuple md) && haveB kd md)) H6 := k H6 (s15.trans s6)
          rw [em] at q
          exact q
theorem ok_is_signature (D : Df K mg "is_signature" s_is_signature) (B : Bi mg) (G1 : Gd P w K mg base CX0 1 "is_tuple" ["value", "least", "most"] spTup) (G2 : Gd P w K mg base CX0 3 "are_kinds_told" ["value"] spKinds) (G3 : Gd P w K mg base CX0 3 "are_makers_told" ["value", "kinds"] (spMakers K)) (G4 : Gd P w K mg base CX0 1 "have_terms" ["kinds", "makers"] spHave) : Gd P w K mg base CX0 4 "is_signature" ["value"] spSig := gd_of D (fun _ _ _ _ _ _ us hl => match us, hl with | [_], _ => rfl) fun _ _ F => okF_is_signature F B G1 G2 G3 G4

def spCheckSig : Sp := fun vs H Q _ => ∃ (v : V) (d : PyData), vs = [v] ∧ Dd H v d ∧ okT d = true ∧ sigB d = true ∧ ∀ H', Same H H' → Q .non H'

theorem sc_check_signature : FnScope ["signature"] ["signature"] (defScope s_check_signature) := ⟨rfl, rfl, rfl, by decide +kernel, rfl, by decide +kernel, by decide +kernel⟩
theorem ok_check_signature (D : Df K mg "check_signature" s_check_signature) (G1 : Gd P w K mg base CX0 4 "is_signature" ["value"] spSig) : Gd P w K mg base CX0 5 "check_signature" ["signature"] spCheckSig := by
  refine gd_of D (fun _ _ _ _ _ _ us hl => match us, hl with | [_], _ => rfl) fun f fd F => ?_
  refine fun_q F sc_check_signature (fun vs H Q E h => by obtain ⟨v, d, rfl, _⟩ := h; rfl) (fun cdv A outer s H vs Q E hr hq h => ?_)
  obtain ⟨v, d, rfl, hd, ok, sg, k⟩ := h
  refine ⟨_, (pss_one (ps_if (pt_not (pt_val (pe_g G1 hr hq (pa_cons (pv 0) pa_nil)))) (pss_one ps_never) pss_nil)), ?_⟩
  walk_at "rd"
  refine ⟨v, d, rfl, hd, ok, fun H1 s1 => ⟨_, rfl, ?_⟩⟩
  rw [sg]
  refine iteF ?_
  exact k H1 s1

/-- kind_names(signature): a new list of the names -/
def spNames : Sp := fun vs H Q _ => ∃ (v : V) (kd : List PyData) (m : PyData), vs = [v] ∧ Dd H v (.tuple [.tuple kd, m]) ∧ kindsB (.tuple kd) = true ∧ ∀ p H', H p = none → Same H H' → H' p = some (.lst ((kd.map nameOf).map V.str)) → Q (.ref p) H'

theorem sc_kind_names : FnScope ["signature", "name", "word"] ["signature"] (defScope s_kind_names) := ⟨rfl, rfl, rfl, by decide +kernel, rfl, by decide +kernel, by decide +kernel⟩
theorem ok_kind_names (D : Df K mg "kind_names" s_kind_names) : Gd P w K mg base CX0 1 "kind_names" ["signature"] spNames := by
  refine gd_of D (fun _ _ _ _ _ _ us hl => match us, hl with | [_], _ => rfl) fun f fd F => ?_
  refine fun_q F sc_kind_names (fun vs H Q E h => by obtain ⟨v, kd, m, rfl, _⟩ := h; rfl) (fun cdv A outer s H vs Q E hr hq h => ?_)
  obtain ⟨v, kd, m, rfl, hd, ek, k⟩ := h
  obtain ⟨p, x, y, rfl, hp, ha, hb⟩ := dd2 hd
  obtain ⟨l1, l8, kb, knd⟩ := kindsB_parts ek
  obtain ⟨ka, kx, rfl, hka, KA⟩ := ha.tupD
  have lk := KA.length
  refine ⟨_, (pss_one (ps_ret (pe_lc (own := [("name", 1), ("word", 2)]) (g := (gTup K 2 (gCons (gName 1) (gCons (gName 2) gNil)))) (tt := tYes) rfl sc_kind_names.nd (pi_tup (pe_ix ix_tup (pv 0) pe_int (fun _ _ => rfl))) (blkOk_by (own := [("name", 1), ("word", 2)]) (N := ["signature", "name", "word"]) (sc := defScope s_kind_names) (by decide +kernel)) (fun _ _ _ _ _ => (pg_tup rfl (pgs_cons (pg_name (i := 1) sc_kind_names.nd rfl (Or.inl rfl)) (pgs_cons (pg_name (i := 2) sc_kind_names.nd rfl (Or.inl rfl)) pgs_nil)))) (fun _ _ _ _ _ => pts_nil) (fun _ _ _ _ _ => (pv 1))))), ?_⟩
  walk_at "rd"
  refine ⟨⟨_, SqT.of hka⟩, fun D hD => ?_⟩
  refine lc_vals walk_tup (fun i => kd[i]?.map fun d => V.str (nameOf d)) hD (by rw [lk, sizeLine_eq]; omega) (fun H s => SqT.of (s _ _ hka)) (fun i y H3 H4 K1 K0 hi s3 hy k1 k0 => ?_) (fun H3 s3 e3 => ?_)
  · obtain ⟨rfl, ey⟩ := hy
    obtain ⟨q, x, b, ed, rfl, hq2, _⟩ := kind_at (KA.mono s3) kb ey
    refine ⟨q, _, rfl, SqT.of hq2, rfl, _, _, rfl, _, _, rfl, rfl, rfl, ?_⟩
    refine ⟨_, rfl, ?_⟩
    exact k1 _ _ (by rw [ed]; rfl) (Same.refl _)
  · rw [lk, range_map' (fun d => V.str (nameOf d)) kd] at e3
    have e4 : (kd.map fun d => V.str (nameOf d)) = (kd.map nameOf).map V.str := by rw [List.map_map]; rfl
    rw [e4] at e3
    exact k D H3 hD s3 e3

/-- check_kind(signature, kind), one of its kinds -/
def spCheckKind : Sp := fun vs H Q _ => ∃ (v : V) (kd : List PyData) (m : PyData) (x : Str), vs = [v, .str x] ∧ Dd H v (.tuple [.tuple kd, m]) ∧ kindsB (.tuple kd) = true ∧ x ∈ kd.map nameOf ∧ ∀ H', Same H H' → Q .non H'

theorem sc_check_kind : FnScope ["signature", "kind"] ["signature", "kind"] (defScope s_check_kind) := ⟨rfl, rfl, rfl, by decide +kernel, rfl, by decide +kernel, by decide +kernel⟩
theorem ok_check_kind (D : Df K mg "check_kind" s_check_kind) (G1 : Gd P w K mg base CX0 1 "is_among" ["value", "texts"] (spAmong K)) (G2 : Gd P w K mg base CX0 1 "kind_names" ["signature"] spNames) : Gd P w K mg base CX0 2 "check_kind" ["signature", "kind"] spCheckKind := by
  refine gd_of D (fun _ _ _ _ _ _ us hl => match us, hl with | [_, _], _ => rfl) fun f fd F => ?_
  refine fun_q F sc_check_kind (fun vs H Q E h => by obtain ⟨v, kd, m, x, rfl, _⟩ := h; rfl) (fun cdv A outer s H vs Q E hr hq h => ?_)
  obtain ⟨v, kd, m, x, rfl, hd, ek, hx, k⟩ := h
  refine ⟨_, (pss_one (ps_if (pt_not (pt_val (pe_g G1 hr hq (pa_cons (pv 1) (pa_cons (pe_g G2 hr hq (pa_cons (pv 0) pa_nil)) pa_nil))))) (pss_one ps_never) pss_nil)), ?_⟩
  walk_at "rd"
  refine ⟨v, kd, m, rfl, hd, ek, fun p H1 hp s1 e1 => ?_⟩
  refine ⟨_, .str x, p, _, rfl, .str x, .inl (SqL.of e1), fun H2 s2 => ⟨_, rfl, ?_⟩⟩
  rw [show isAmongB (.str x) (kd.map nameOf) = true from decide_eq_true hx]
  refine iteF ?_
  exact k H2 (s1.trans s2)

end

/-- a dict comprehension over any walk -/
theorem dc_it {J : It} {n : Nat} {G : Hp → Prop} {Y : Nat → Hp → V → Hp → Prop} (w : Walk J n G Y) {g : TG} {tt : TT} {tk tv : TE} {vs : List Nat} {σ : L2.St} {H1 : Hp} {D : Addr} {Qd : Hp → Prop} (Pv : Nat → Hp → Prop)
    (h0 : Pv 0 (upd H1 D (.dK []))) (hG : ∀ i H, i ≤ n → Pv i H → G H)
    (hs : ∀ i x H H', i < n → Pv i H → Y i H x H' → g x (wipe σ vs) H' fun σ2 H2 => wipe σ2 vs = wipe σ vs ∧ tt σ2 H2 fun b H3 =>
      if b = true then tk σ2 H3 fun y H4 => tv σ2 H4 fun z H5 => ∃ kvs k, y = kV k ∧ H5 D = some (.dK kvs) ∧ kvs.length < sizeLine ∧ Pv (i + 1) (upd H5 D (.dK (putK kvs k z))) else Pv (i + 1) H3)
    (hd : ∀ H, Pv n H → Qd H) :
    ∃ W : Nat → Nat → Hp → Prop, (∃ m, W 0 m (upd H1 D (.dK []))) ∧ ∀ i m H, W i m H →
      (J.stop i H ∧ Qd H) ∨ (J.go i H ∧ ∃ Nx : Hp → Prop, (∀ H', Nx H' → ∃ m', m' < m ∧ W (i + 1) m' H') ∧ ∀ x H', J.yld i H x H' → g x (wipe σ vs) H' fun σ2 H2 => wipe σ2 vs = wipe σ vs ∧ tt σ2 H2 fun b H3 =>
        if b = true then tk σ2 H3 fun y H4 => tv σ2 H4 fun z H5 => ∃ kvs k, y = kV k ∧ H5 D = some (.dK kvs) ∧ kvs.length < sizeLine ∧ Nx (upd H5 D (.dK (putK kvs k z))) else Nx H3) := by
  refine ⟨fun i m H => m = n - i ∧ i ≤ n ∧ Pv i H, ⟨n, by omega, Nat.zero_le _, h0⟩, fun i m H ⟨em, le, p⟩ => ?_⟩
  have q := hG i H le p
  rcases Nat.lt_or_ge i n with lt | ge
  · exact .inr ⟨w.goes i H lt q, Pv (i + 1), fun H' p' => ⟨n - (i + 1), by omega, rfl, lt, p'⟩, fun x H' y => hs i x H H' lt p (w.yields i H x H' lt q y)⟩
  · obtain rfl : i = n := by omega
    exact .inl ⟨w.stops H q, hd H p⟩
def retE : Stmt → Option Expr
  | .Return (some e) _ => some e
  | _ => none
def compS : Option Expr → Scope
  | some (.DictComp _ _ _ sc _) => sc
  | some (.ListComp _ _ sc _) => sc
  | _ => default
/-- the scope of the comprehension that the i-th statement of a def returns -/
def retS (i : Nat) (st : Stmt) : Scope := compS ((defBody st)[i]?.bind retE)
/-- one maker in a list of them: its name and the kinds it needs -/
def MkAt (H : Hp) (y : V) (m : PyData) : Prop := ∃ (t : Addr) (nv : V) (na : Addr), y = .ref t ∧ H t = some (.tup [.str (nameOf m), .ref na]) ∧ H na = some (.tup ((needsOf m).map V.str))
inductive MkL (H : Hp) : List V → List PyData → Prop
  | nil : MkL H [] []
  | cons {y : V} {ys : List V} {m : PyData} {ms : List PyData} : MkAt H y m → MkL H ys ms → MkL H (y :: ys) (m :: ms)
theorem MkAt.mono {H H' : Hp} {y : V} {m : PyData} (s : ∀ b o, H b = some o → (∃ xs, o = .tup xs) → H' b = some o) (h : MkAt H y m) : MkAt H' y m :=
  let ⟨t, nv, na, e, e1, e2⟩ := h
  ⟨t, nv, na, e, s _ _ e1 ⟨_, rfl⟩, s _ _ e2 ⟨_, rfl⟩⟩
theorem MkL.mono {H H' : Hp} (s : ∀ b o, H b = some o → (∃ xs, o = .tup xs) → H' b = some o) : ∀ {ys : List V} {ms : List PyData}, MkL H ys ms → MkL H' ys ms
  | _, _, .nil => .nil
  | _, _, .cons h t => .cons (h.mono s) (t.mono s)
theorem MkL.snoc {H : Hp} : ∀ {ys : List V} {ms : List PyData} {y : V} {m : PyData}, MkL H ys ms → MkAt H y m → MkL H (ys ++ [y]) (ms ++ [m])
  | _, _, _, _, .nil, h => .cons h .nil
  | _, _, _, _, .cons h t, h2 => .cons h (t.snoc h2)
theorem MkL.len {H : Hp} : ∀ {ys : List V} {ms : List PyData}, MkL H ys ms → ys.length = ms.length
  | _, _, .nil => rfl
  | _, _, .cons _ t => congrArg Nat.succ t.len
theorem MkL.get {H : Hp} : ∀ {ys : List V} {ms : List PyData} {i : Nat} {y : V}, MkL H ys ms → ys[i]? = some y → ∃ m, ms[i]? = some m ∧ MkAt H y m
  | _, _, _, _, .nil, e => by simp at e
  | _, _, 0, _, .cons h _, e => by
    simp only [List.getElem?_cons_zero, Option.some.injEq] at e
    subst e
    exact ⟨_, rfl, h⟩
  | _, _, i + 1, _, .cons _ t, e => t.get (i := i) (by simpa using e)
/-- the makers of a kind -/
def ofKind (md : List PyData) (x : Str) : List PyData := md.filter fun m => decide (kindOf m = x)
/-- D holds for each of the names the list of its makers -/
def MkD (H : Hp) (D : Addr) (ns : List Str) (md : List PyData) : Prop :=
  ∃ L : Str → Addr, H D = some (.dK (ns.map fun x => (Sum.inr x, V.ref (L x)))) ∧ ∀ x ∈ ns, ∃ ys, H (L x) = some (.lst ys) ∧ MkL H ys (ofKind md x)
theorem ofKind_take {md : List PyData} {x : Str} {j : Nat} {m : PyData} (e : md[j]? = some m) : ofKind (md.take (j + 1)) x = if kindOf m = x then ofKind (md.take j) x ++ [m] else ofKind (md.take j) x := by
  unfold ofKind
  rw [List.take_add_one, e, List.filter_append]
  by_cases c : kindOf m = x
  · simp [c]
  · simp [c]
/-- a maker at its place, as it stands in the heap -/
theorem maker_at {H : Hp} {mx : List V} {md : List PyData} {ks : List Str} (A : DdA H mx md) (mb : ∀ d ∈ md, makerB ks d = true) {i : Nat} {y : V} (e : mx[i]? = some y) :
    ∃ q x ns k na, md[i]? = some (.tuple [.str x, .tuple ns, .str k]) ∧ y = .ref q ∧ H q = some (.tup [.str x, .ref na, .str k]) ∧ H na = some (.tup ((ns.map strD).map V.str)) ∧ ns.length ≤ 3 ∧ (∀ n ∈ ns.map strD, n ∈ ks) ∧ k ∈ ks := by
  obtain ⟨m, em, hm⟩ := A.get e
  obtain ⟨x, ns, kk, rfl, _, l3, hns, hkk⟩ := makerB_of (mb m (List.mem_of_getElem? em))
  obtain ⟨q, vx, vn, vk, rfl, hq, hx, hn, hk⟩ := dd3 hm
  obtain rfl := hx.strD
  obtain rfl := hk.strD
  obtain ⟨na, nx, rfl, hna, NA⟩ := hn.tupD
  have al := List.all_eq_true.mp hns
  have en : ns = (ns.map strD).map PyData.str := by
    rw [List.map_map]
    refine (List.map_id ns).symm.trans (List.map_congr_left fun n hn => ?_)
    obtain ⟨z, rfl, _⟩ := among_str (al n hn)
    rfl
  rw [en] at NA
  obtain rfl := NA.strs
  refine ⟨q, x, ns, kk, na, em, rfl, hq, hna, l3, fun n hn => ?_, hkk⟩
  obtain ⟨d, hd, rfl⟩ := List.mem_map.mp hn
  obtain ⟨z, rfl, hz⟩ := among_str (al d hd)
  exact hz

section
variable {P : Program} {w : World} {K : PySem.W.Frag} {mg : Str → Option Value} {base : Heap}

/-- makers_by_kind(signature): a new dict -/
def spMakersBy : Sp := fun vs H Q _ => ∃ (v : V) (kd md : List PyData), vs = [v] ∧ Dd H v (.tuple [.tuple kd, .tuple md]) ∧ kindsB (.tuple kd) = true ∧ makersB (kd.map nameOf) (.tuple md) = true ∧
  ∀ p H', H p = none → Same H H' → MkD H' p (kd.map nameOf) md → Q (.ref p) H'

theorem sc_makers_by_kind : FnScope ["signature", "names", "maker", "needs", "kind", "name"] ["signature"] (defScope s_makers_by_kind) := ⟨rfl, rfl, rfl, by decide +kernel, rfl, by decide +kernel, by decide +kernel⟩
theorem ok_makers_by_kind (D : Df K mg "makers_by_kind" s_makers_by_kind) (G1 : Gd P w K mg base CX0 1 "kind_names" ["signature"] spNames) : Gd P w K mg base CX0 2 "makers_by_kind" ["signature"] spMakersBy := by
  refine gd_of D (fun _ _ _ _ _ _ us hl => match us, hl with | [_], _ => rfl) fun f fd F => ?_
  refine fun_q F sc_makers_by_kind (fun vs H Q E h => by obtain ⟨v, kd, m, rfl, _⟩ := h; rfl) (fun cdv A outer s H vs Q E hr hq h => ?_)
  obtain ⟨v, kd, md, rfl, hd, ek, em, k⟩ := h
  obtain ⟨p, x, y, rfl, hp, ha, hb⟩ := dd2 hd
  obtain ⟨l1, l8, kb, knd⟩ := kindsB_parts ek
  obtain ⟨l24, mb, mnd⟩ := makersB_parts em
  obtain ⟨ma, mx, rfl, hma, MA⟩ := hb.tupD
  have lm := MA.length
  refine ⟨_, (pss_cons (ps_set (i := 1) sc_makers_by_kind.nd rfl (Or.inl rfl) (pe_g G1 hr hq (pa_cons (pv 0) pa_nil)))
      (pss_one (ps_ret (pe_dc (own := [("name", 5)]) (g := (gName 5)) (tt := tYes) rfl sc_makers_by_kind.nd (pi_list (pv 1)) (blkOk_by (own := [("name", 5)]) (N := ["signature", "names", "maker", "needs", "kind", "name"]) (sc := defScope s_makers_by_kind) (by decide +kernel)) (fun _ _ _ _ _ => (pg_name (i := 5) sc_makers_by_kind.nd rfl (Or.inr rfl))) (fun _ _ _ _ _ => pts_nil) (fun _ _ _ _ _ => (pv 5)) (fun _ _ _ _ _ => (pe_lc (own := [("maker", 2), ("needs", 3), ("kind", 4)]) (g := (gTup K 3 (gCons (gName 2) (gCons (gName 3) (gCons (gName 4) gNil))))) rfl sc_makers_by_kind.nd (pi_tupK (K := K) rfl (pe_ix (ix_tupK (K := K) rfl) (pv 0) pe_int (fun _ _ => rfl))) (blkOk_by (own := [("maker", 2), ("needs", 3), ("kind", 4)]) (N := ["signature", "names", "maker", "needs", "kind", "name"]) (sc := relS (retS 1 s_makers_by_kind) (defScope s_makers_by_kind)) (by decide +kernel)) (fun _ _ _ _ _ => (pg_tup rfl (pgs_cons (pg_name (i := 2) sc_makers_by_kind.nd rfl (Or.inl rfl)) (pgs_cons (pg_name (i := 3) sc_makers_by_kind.nd rfl (Or.inl rfl)) (pgs_cons (pg_name (i := 4) sc_makers_by_kind.nd rfl (Or.inl rfl)) pgs_nil))))) (fun _ _ _ _ _ => (pts_one (pt_cmpR op_eq (pv 4) (pv 5) (nomark _)))) (fun _ _ _ _ _ => (pe_tup (pa_cons (pv 2) (pa_cons (pv 3) pa_nil)))))))))), ?_⟩
  walk_at "rd"
  refine ⟨_, kd, _, rfl, hd, ek, fun t H1 ht s1 e1 => ?_⟩
  walk_at "rd"
  refine ⟨⟨_, SqL.of e1⟩, fun D hD => ?_⟩
  have ne : t ≠ D := ne_of_none e1 hD
  refine dc_it walk_list (fun i H2 => Same H1 H2 ∧ ∃ L : Str → Addr, H2 D = some (.dK (((kd.map nameOf).take i).map fun x => (Sum.inr x, V.ref (L x)))) ∧ ∀ x ∈ (kd.map nameOf).take i, L x ≠ D ∧ ∃ ys, H2 (L x) = some (.lst ys) ∧ MkL H2 ys (ofKind md x))
    ⟨same_new hD _, fun _ => D, upd_same, fun x hx => by rw [List.take_zero] at hx; cases hx⟩ (fun i H2 _ p => SqL.of (p.1 _ _ e1)) (fun i y H2p H2 hi p hy => ?_) (fun H2 p => ?_)
  · obtain ⟨rfl, ey⟩ := hy
    obtain ⟨s2, L, e2, hL⟩ := p
    rw [List.getElem?_map] at ey
    obtain ⟨nm, en, rfl⟩ := Option.map_eq_some_iff.mp ey
    refine ⟨rfl, ?_⟩
    walk_at "rd"
    have s12 := s1.trans s2
    refine ⟨p, _, 1, _, rfl, rfl, SqT.of (s12 _ _ hp), rfl, ?_⟩
    refine ⟨ma, rfl, ⟨_, SqT.of (s12 _ _ hma)⟩, fun D2 hD2 => ?_⟩
    have n2 : D ≠ D2 := ne_of_none e2 hD2
    have nmk : nm ∈ kd.map nameOf := List.mem_of_getElem? en
    refine lc_it walk_tup (fun j H4 => Same H2 H4 ∧ ∃ ys, H4 D2 = some (.lst ys) ∧ MkL H4 ys (ofKind (md.take j) nm) ∧ ys.length ≤ j)
      ⟨same_new hD2 _, [], upd_same, (by rw [List.take_zero]; exact .nil), Nat.le_refl _⟩ (fun j H4 _ p => SqT.of (p.1 _ _ (s12 _ _ hma))) (fun j y H4p H4 hj p hy => ?_) (fun H4 p => ?_)
    · obtain ⟨rfl, ey⟩ := hy
      obtain ⟨s4, ys, e4, M, lz⟩ := p
      obtain ⟨q, x, nds, kk, na, em, rfl, hq4, hna, l3, hns, hkk⟩ := maker_at (MA.mono (s12.trans s4)) mb ey
      refine ⟨q, _, rfl, SqT.of hq4, rfl, _, _, rfl, _, _, rfl, _, _, rfl, rfl, rfl, ?_⟩
      walk_at "rd"
      have ek0 : kindOf (.tuple [.str x, .tuple nds, .str kk]) = kk := rfl
      rw [dec_str]
      by_cases c : kk = nm
      · rw [decide_eq_true c]
        walk_at "rd"
        intro T hT
        have nT : D2 ≠ T := ne_of_none e4 hT
        refine ⟨ys, by rw [upd_ne nT]; exact e4, by rw [sizeLine_eq]; omega, same_put (same_put s4 (s4.free hT)) hD2, ys ++ [.ref T], upd_same, ?_, by rw [List.length_append]; exact Nat.succ_le_succ lz⟩
        rw [ofKind_take em, if_pos (ek0.trans c)]
        have mono : ∀ b o, H4 b = some o → (∃ xs, o = .tup xs) → (upd (upd H4 T (.tup [.str x, .ref na])) D2 (.lst (ys ++ [.ref T]))) b = some o := fun b o e ⟨xs, eo⟩ => by
          have nb : b ≠ D2 := fun z => by rw [z, e4, eo] at e; cases e
          rw [upd_ne nb, upd_ne (ne_of_none e hT)]
          exact e
        refine (M.mono mono).snoc ⟨T, .non, na, rfl, by rw [upd_ne nT.symm]; exact upd_same, ?_⟩
        exact mono _ _ hna ⟨_, rfl⟩
      · rw [decide_eq_false c]
        refine ⟨s4, ys, e4, ?_, by omega⟩
        rw [ofKind_take em, if_neg (fun z => c (ek0.symm.trans z))]
        exact M
    · obtain ⟨s4, ys, e4, M, lz⟩ := p
      rw [lm, List.take_length] at M
      have s14 := s2.trans s4
      have e5 := s4 _ _ e2
      have nm0 : ∀ q ∈ ((kd.map nameOf).take i).map (fun x => ((Sum.inr x : Key), V.ref (L x))), q.1 ≠ Sum.inr nm := fun q hq e => by
        obtain ⟨x, hx, rfl⟩ := List.mem_map.mp hq
        have e : x = nm := Sum.inr.inj e
        subst e
        obtain ⟨j, hj⟩ := List.mem_iff_getElem?.mp hx
        have hji : j < i := by
          have := (List.getElem?_eq_some_iff.mp hj).1
          rw [List.length_take] at this
          omega
        rw [List.getElem?_take_of_lt hji] at hj
        exact absurd (nodup_at knd hj en) (by omega)
      have nmL : nm ∉ (kd.map nameOf).take i := fun z => nm0 _ (List.mem_map.mpr ⟨nm, z, rfl⟩) rfl
      refine ⟨_, Sum.inr nm, rfl, e5, by rw [List.length_map, List.length_take, List.length_map, sizeLine_eq]; omega, same_put s14 hD, fun x => if x = nm then D2 else L x, ?_, fun x hx => ?_⟩
      · rw [upd_same, put_new nm0, List.take_add_one, en, List.map_append]
        have e7 : ((kd.map nameOf).take i).map (fun x => ((Sum.inr x : Key), V.ref (if x = nm then D2 else L x))) = ((kd.map nameOf).take i).map (fun x => ((Sum.inr x : Key), V.ref (L x))) :=
          List.map_congr_left fun x hx => by rw [if_neg (fun z : x = nm => nmL (z ▸ hx))]
        rw [e7]
        simp
      · have mono : ∀ b o, H4 b = some o → (∃ xs, o = .tup xs) → (upd H4 D (.dK (putK (((kd.map nameOf).take i).map fun x => ((Sum.inr x : Key), V.ref (L x))) (Sum.inr nm) (.ref D2)))) b = some o := fun b o e ⟨xs, eo⟩ => by
          have nb : b ≠ D := fun z => by rw [z, e5, eo] at e; cases e
          rw [upd_ne nb]
          exact e
        by_cases c : x = nm
        · subst c
          dsimp only
          rw [if_pos rfl]
          exact ⟨n2.symm, ys, by rw [upd_ne n2.symm]; exact e4, M.mono mono⟩
        · dsimp only
          rw [if_neg c]
          rw [List.take_add_one, en, List.mem_append] at hx
          have hx : x ∈ (kd.map nameOf).take i := hx.resolve_right fun z => c (List.mem_singleton.mp z)
          obtain ⟨nL, zs, e6, M6⟩ := hL x hx
          refine ⟨nL, zs, by rw [upd_ne nL]; exact s4 _ _ e6, (M6.mono fun b o e _ => s4 _ _ e).mono mono⟩
  · obtain ⟨s2, L, e2, hL⟩ := p
    rw [List.length_map, List.take_length] at e2 hL
    exact k D H2 (s1.free hD) (s1.trans s2) ⟨L, e2, fun x hx => (hL x hx).2⟩

end

section
variable {P : Program} {w : World} {K : PySem.W.Frag} {mg : Str → Option Value} {base : Heap}

theorem sc_lis_name : FnScope ["thing", "sign"] ["thing"] (defScope s_lis_name) := ⟨rfl, rfl, rfl, by decide +kernel, rfl, by decide +kernel, by decide +kernel⟩
theorem ok_lis_name (D : Df K mg "_law_is_name" s_lis_name) (B : Bi mg) : Gd P w K mg base CX0 1 "_law_is_name" ["thing"] spName := by
  refine gd_of D (fun _ _ _ _ _ _ us hl => match us, hl with | [_], _ => rfl) fun f fd F => ?_
  refine fun_q F sc_lis_name (fun vs H Q E h => by obtain ⟨v, d, rfl, _⟩ := h; rfl) (fun cdv A outer s H vs Q E hr hq h => ?_)
  obtain ⟨v, d, rfl, hd, ok, k⟩ := h
  refine ⟨_, (pss_cons (ps_if (PW.pt (pw_or (pt_not (pt_val (pe_callB call_isi (by rfl) B.isinstance (by decide +kernel) (pa_cons (pv 0) (pa_cons (pe_bltn (v := V.ty "str") (by rfl) B.str (by decide +kernel) rfl) pa_nil))))) (pw_or (pt_not (pt_chain op_le op_le pe_int (pe_callB call_len_str (by rfl) B.len (by decide +kernel) (pa_cons (pv 0) pa_nil)) pe_int)) (pw_or1 (pt_cmpR op_notIn_sign (pe_ix ix_str (pv 0) pe_int (fun _ _ => rfl)) pe_str (by rfl)))))) (pss_one (ps_ret pe_bl)) pss_nil)
      (pss_one (ps_ret (pe_callB (cr_all rfl) (by rfl) B.all (by decide +kernel) (pa_cons (pe_lc (own := [("sign", 1)]) (g := (gName 1)) (tt := tYes) rfl sc_lis_name.nd (pi_str (pv 0)) (blkOk_by (own := [("sign", 1)]) (N := ["thing", "sign"]) (sc := defScope s_lis_name) (by decide +kernel)) (fun _ _ _ _ _ => (pg_name (i := 1) sc_lis_name.nd rfl (Or.inl rfl))) (fun _ _ _ _ _ => pts_nil) (fun _ _ _ _ _ => (pe_cmpR op_in_sign (pv 1) pe_str (by rfl)))) pa_nil))))), ?_⟩
  walk_at "rd"
  refine ⟨_, V.ty _, _, _, _, rfl, ClsV.ty _, Dd.ty hd, kit_ty (kit_str d), ?_⟩
  refine ⟨_, rfl, ?_⟩
  cases d with
  | str x =>
    obtain rfl := hd.strD
    have q : Q (.bl (nameS x)) H := k H (Same.refl H)
    have ok : x.length ≤ 100000 := of_decide_eq_true ok
    have lz : x.length ≤ sizeLine := by rw [sizeLine_eq]; omega
    refine iteF ?_
    walk_at "rd"
    refine ite2 (fun c1 => ?_) (fun c1 => ?_)
    · walk_at "rd"
      refine ite2 (fun c2 => ?_) (fun c2 => ?_)
      · walk_at "rd"
        have e2 : nameS x = false := by
          unfold nameS
          have : ¬ ((x.length : Int) ≤ 12) := fun z => by simp [z] at c2
          have : decide (x.length ≤ 12) = false := decide_eq_false (by omega)
          rw [this]; simp
        rw [e2] at q
        exact iteT q
      · walk_at "rd"
        have c1' : 1 ≤ x.length := by have := of_decide_eq_true c1; omega
        have c2' : x.length ≤ 12 := by
          have : ((x.length : Int) ≤ 12) := Classical.byContradiction fun z => c2 (by simp [z])
          omega
        obtain ⟨c, r, ec⟩ : ∃ c r, x.cps.toList = c :: r := by
          cases e : x.cps.toList with
          | nil => exact absurd (show x.cps.toList.length = 0 by rw [e]; rfl) (by rw [Array.length_toList]; exact Nat.ne_of_gt c1')
          | cons c r => exact ⟨c, r, rfl⟩
        refine ⟨_, _, c, rfl, rfl, lz, by rw [ec]; exact atI_nat (j := 0) (xs := c :: r) rfl, ?_⟩
        refine ⟨_, _, rfl, rfl, ?_⟩
        have eq : nameS x = (decide (c ∈ letters.cps.toList) && x.cps.toList.all (fun c => decide (c ∈ signs.cps.toList))) := by
          unfold nameS
          rw [decide_eq_true c1', decide_eq_true c2', ec]
          rfl
        rw [eq] at q
        refine ⟨_, rfl, ?_⟩
        refine ite2 (fun c3 => ?_) (fun c3 => ?_)
        · have c3' : decide (c ∈ letters.cps.toList) = false := by
            cases e : decide (c ∈ letters.cps.toList) with
            | false => rfl
            | true =>
              have c3 : (!decide (c ∈ letters.cps.toList)) = true := c3
              rw [e] at c3
              cases c3
          rw [c3'] at q
          exact q
        · have c3' : decide (c ∈ letters.cps.toList) = true := by
            cases e : decide (c ∈ letters.cps.toList) with
            | true => rfl
            | false =>
              have c3 : ¬ (!decide (c ∈ letters.cps.toList)) = true := c3
              rw [e] at c3
              exact absurd rfl c3
          walk_at "rd"
          refine fun D hD => ?_
          refine lc_vals walk_str (fun i => x.cps.toList[i]?.map fun c => V.bl (decide (c ∈ signs.cps.toList))) hD lz (fun _ _ => trivial) (fun i y H1 H2 K1 K0 hi s1 hy k1 k0 => ?_) (fun H1 s1 e1 => ?_)
          · obtain ⟨rfl, d, ed, rfl⟩ := hy
            refine ⟨rfl, ?_⟩
            walk_at "rd"
            exact k1 _ _ (by rw [Array.getElem?_toList, ed]; rfl) (Same.refl _)
          · have e2 : (List.range x.cps.size).filterMap (fun i => x.cps.toList[i]?.map fun c => V.bl (decide (c ∈ signs.cps.toList))) = (x.cps.toList.map fun c => decide (c ∈ signs.cps.toList)).map V.bl := by
              rw [← Array.length_toList, range_map', List.map_map]
              rfl
            rw [e2] at e1
            walk_at "rd"
            refine ⟨D, _, rfl, SqL.of e1, ?_⟩
            have e3 : ((x.cps.toList.map fun c => decide (c ∈ signs.cps.toList)).all id) = x.cps.toList.all (fun c => decide (c ∈ signs.cps.toList)) := by rw [List.all_map]; rfl
            have q : Q (.bl (nameS x)) H1 := k H1 s1
            rw [eq, c3'] at q
            rw [e3]
            exact q
    · walk_at "rd"
      have e2 : nameS x = false := by
        unfold nameS
        have : ¬ ((1 : Int) ≤ x.length) := fun z => c1 (decide_eq_true z)
        have : decide (1 ≤ x.length) = false := decide_eq_false (by omega)
        rw [this]; simp
      rw [e2] at q
      refine iteT ?_
      walk_at "rd"
      exact iteT q
  | _ => exact iteT (k H (Same.refl H))

theorem sc_is_pair : FnScope ["thing", "few"] ["thing", "few"] (defScope s_is_pair) := ⟨rfl, rfl, rfl, by decide +kernel, rfl, by decide +kernel, by decide +kernel⟩
def spPair : Sp := fun vs H Q _ => ∃ (v : V) (d : PyData) (a : Int), vs = [v, .int a] ∧ Dd H v d ∧ ∀ H', Same H H' → Q (.bl (isTupB d a a)) H'

theorem ok_is_pair (D : Df K mg "_law_is_pair" s_is_pair) (B : Bi mg) : Gd P w K mg base CX0 1 "_law_is_pair" ["thing", "few"] spPair := by
  refine gd_of D (fun _ _ _ _ _ _ us hl => match us, hl with | [_, _], _ => rfl) fun f fd F => ?_
  refine fun_q F sc_is_pair (fun vs H Q E h => by obtain ⟨v, d, a, rfl, _⟩ := h; rfl) (fun cdv A outer s H vs Q E hr hq h => ?_)
  obtain ⟨v, d, a, rfl, hd, k⟩ := h
  refine ⟨_, (pss_one (ps_ret (pe_and (pe_callB call_isi (by rfl) B.isinstance (by decide +kernel) (pa_cons (pv 0) (pa_cons (pe_bltn (v := V.ty "tuple") (by rfl) B.tuple (by decide +kernel) rfl) pa_nil))) (pe_one (pe_cmpR op_eq (pe_callB call_len_seq (by rfl) B.len (by decide +kernel) (pa_cons (pv 0) pa_nil)) (pv 1) (nomark _)))))), ?_⟩
  walk_at "rd"
  refine ⟨_, V.ty _, _, _, _, rfl, ClsV.ty _, Dd.ty hd, kit_ty (kit_tup d), ?_⟩
  refine ⟨_, rfl, ?_⟩
  cases d with
  | tuple ds =>
    obtain ⟨t, xs, rfl, e, A⟩ := hd.tupD
    have el : xs.length = ds.length := A.length
    refine iteT ?_
    walk_at "rd"
    refine ⟨t, xs, rfl, .inr (SqT.of e), ?_⟩
    walk_at "rd"
    have q : Q (.bl (decide (a ≤ ds.length) && decide ((ds.length : Int) ≤ a))) H := k H (Same.refl H)
    rw [el]
    have e1 : decide (V.int (ds.length : Nat) = V.int a) = (decide (a ≤ ds.length) && decide ((ds.length : Int) ≤ a)) := by
      rw [Bool.eq_iff_iff, Bool.and_eq_true, decide_eq_true_iff, decide_eq_true_iff, decide_eq_true_iff]
      exact ⟨fun z => by injection z with z; omega, fun z => by rw [show (ds.length : Int) = a by omega]⟩
    rw [e1]
    exact q
  | _ => exact iteF (k H (Same.refl H))

end

section
variable {P : Program} {w : World} {K : PySem.W.Frag} {mg : Str → Option Value} {base : Heap}

/-- a whole number -/
def wholeB (d : PyData) : Bool := isInt d && !isBool d
theorem isInt_of {d : PyData} (h : wholeB d = true) : ∃ i, d = .int i := by
  cases d with
  | int i => exact ⟨i, rfl⟩
  | _ => exact absurd h (by intro z; cases z)
def spWhole : Sp := fun vs H Q _ => ∃ (v : V) (d : PyData), vs = [v] ∧ Dd H v d ∧ ∀ H', Same H H' → Q (.bl (wholeB d)) H'

theorem sc_is_whole : FnScope ["value"] ["value"] (defScope s_is_whole) := ⟨rfl, rfl, rfl, by decide +kernel, rfl, by decide +kernel, by decide +kernel⟩
theorem ok_is_whole (D : Df K mg "is_whole" s_is_whole) (B : Bi mg) : Gd P w K mg base CX0 1 "is_whole" ["value"] spWhole := by
  refine gd_of D (fun _ _ _ _ _ _ us hl => match us, hl with | [_], _ => rfl) fun f fd F => ?_
  refine fun_q F sc_is_whole (fun vs H Q E h => by obtain ⟨v, d, rfl, _⟩ := h; rfl) (fun cdv A outer s H vs Q E hr hq h => ?_)
  obtain ⟨v, d, rfl, hd, k⟩ := h
  refine ⟨_, (pss_one (ps_ret (pe_and (pe_callB call_isi (by rfl) B.isinstance (by decide +kernel) (pa_cons (pv 0) (pa_cons (pe_bltn (v := V.ty "int") (by rfl) B.int (by decide +kernel) rfl) pa_nil))) (pe_one (pe_not (pe_callB call_isi (by rfl) B.isinstance (by decide +kernel) (pa_cons (pv 0) (pa_cons (pe_bltn (v := V.ty "bool") (by rfl) B.bool (by decide +kernel) rfl) pa_nil)))))))), ?_⟩
  walk_at "rd"
  refine ⟨_, V.ty _, _, _, _, rfl, ClsV.ty _, Dd.ty hd, kit_ty (kit_int d), ?_⟩
  refine ⟨_, rfl, ?_⟩
  have q : Q (.bl (isInt d && !isBool d)) H := k H (Same.refl H)
  cases e : isInt d with
  | false =>
    rw [e] at q
    exact iteF q
  | true =>
    rw [e] at q
    refine iteT ?_
    walk_at "rd"
    refine ⟨_, V.ty _, _, _, _, rfl, ClsV.ty _, Dd.ty hd, kit_ty (kit_bool d), ?_⟩
    exact ⟨_, rfl, q⟩

theorem sc_lis_whole : FnScope ["thing"] ["thing"] (defScope s_lis_whole) := ⟨rfl, rfl, rfl, by decide +kernel, rfl, by decide +kernel, by decide +kernel⟩
theorem ok_lis_whole (D : Df K mg "_law_is_whole" s_lis_whole) (B : Bi mg) : Gd P w K mg base CX0 1 "_law_is_whole" ["thing"] spWhole := by
  refine gd_of D (fun _ _ _ _ _ _ us hl => match us, hl with | [_], _ => rfl) fun f fd F => ?_
  refine fun_q F sc_lis_whole (fun vs H Q E h => by obtain ⟨v, d, rfl, _⟩ := h; rfl) (fun cdv A outer s H vs Q E hr hq h => ?_)
  obtain ⟨v, d, rfl, hd, k⟩ := h
  refine ⟨_, (pss_one (ps_ret (pe_and (pe_callB call_isi (by rfl) B.isinstance (by decide +kernel) (pa_cons (pv 0) (pa_cons (pe_bltn (v := V.ty "int") (by rfl) B.int (by decide +kernel) rfl) pa_nil))) (pe_one (pe_not (pe_callB call_isi (by rfl) B.isinstance (by decide +kernel) (pa_cons (pv 0) (pa_cons (pe_bltn (v := V.ty "bool") (by rfl) B.bool (by decide +kernel) rfl) pa_nil)))))))), ?_⟩
  walk_at "rd"
  refine ⟨_, V.ty _, _, _, _, rfl, ClsV.ty _, Dd.ty hd, kit_ty (kit_int d), ?_⟩
  refine ⟨_, rfl, ?_⟩
  have q : Q (.bl (isInt d && !isBool d)) H := k H (Same.refl H)
  cases e : isInt d with
  | false =>
    rw [e] at q
    exact iteF q
  | true =>
    rw [e] at q
    refine iteT ?_
    walk_at "rd"
    refine ⟨_, V.ty _, _, _, _, rfl, ClsV.ty _, Dd.ty hd, kit_ty (kit_bool d), ?_⟩
    exact ⟨_, rfl, q⟩

/-- a stranger of a kind -/
def strangerB (x : Str) (d : PyData) : Bool := match d with | .tuple [.str h, .str k, .int n] => decide (h = "#") && (decide (k = x) && decide (1 ≤ n)) | _ => false
def spStranger : Sp := fun vs H Q _ => ∃ (v : V) (d : PyData) (x : Str), vs = [.str x, v] ∧ Dd H v d ∧ ∀ H', Same H H' → Q (.bl (strangerB x d)) H'
theorem among_1 {d : PyData} {x : Str} : isAmongB d [x] = true ↔ d = .str x := by
  cases d with
  | str y => exact ⟨fun h => by rw [List.mem_singleton.mp (of_decide_eq_true h)], fun h => by cases h; exact decide_eq_true (List.mem_singleton_self x)⟩
  | _ => exact ⟨fun h => absurd h (by intro z; cases z), fun h => by cases h⟩

theorem sc_is_stranger : FnScope ["kind", "value"] ["kind", "value"] (defScope s_is_stranger) := ⟨rfl, rfl, rfl, by decide +kernel, rfl, by decide +kernel, by decide +kernel⟩
theorem ok_is_stranger (D : Df K mg "is_stranger" s_is_stranger) (G1 : Gd P w K mg base CX0 1 "is_tuple" ["value", "least", "most"] spTup) (G2 : Gd P w K mg base CX0 1 "is_among" ["value", "texts"] (spAmong K)) (G3 : Gd P w K mg base CX0 1 "is_whole" ["value"] spWhole) : Gd P w K mg base CX0 2 "is_stranger" ["kind", "value"] spStranger := by
  refine gd_of D (fun _ _ _ _ _ _ us hl => match us, hl with | [_, _], _ => rfl) fun f fd F => ?_
  refine fun_q F sc_is_stranger (fun vs H Q E h => by obtain ⟨v, d, x, rfl, _⟩ := h; rfl) (fun cdv A outer s H vs Q E hr hq h => ?_)
  obtain ⟨v, d, x, rfl, hd, k⟩ := h
  refine ⟨_, (pss_cons (ps_if (PW.pt (pw_or (pt_not (pt_val (pe_g G1 hr hq (pa_cons (pv 1) (pa_cons pe_int (pa_cons pe_int pa_nil)))))) (pw_or (pt_not (pt_val (pe_g G2 hr hq (pa_cons (pe_ix ix_tup (pv 1) pe_int (fun _ _ => rfl)) (pa_cons (pe_tup (pa_cons pe_str pa_nil)) pa_nil))))) (pw_or1 (pt_not (pt_val (pe_g G2 hr hq (pa_cons (pe_ix ix_tup (pv 1) pe_int (fun _ _ => rfl)) (pa_cons (pe_tup (pa_cons (pv 0) pa_nil)) pa_nil))))))))) (pss_one (ps_ret pe_bl)) pss_nil)
      (pss_one (ps_ret (pe_and (pe_g G3 hr hq (pa_cons (pe_ix ix_tup (pv 1) pe_int (fun _ _ => rfl)) pa_nil)) (pe_one (pe_cmpR op_ge (pe_ix ix_tup (pv 1) pe_int (fun _ _ => rfl)) pe_int (nomark _))))))), ?_⟩
  walk_at "rd"
  refine ⟨v, d, 3, 3, rfl, hd, fun H1 s1 => ⟨_, rfl, ?_⟩⟩
  cases e1 : isTupB d 3 3 with
  | false =>
    have z : strangerB x d = false := by
      cases c : strangerB x d with
      | false => rfl
      | true =>
        unfold strangerB at c
        split at c
        · cases e1
        · cases c
    refine iteT (iteT ?_)
    rw [← z]
    exact k H1 s1
  | true =>
  obtain ⟨a, b, c, rfl⟩ := tupB_3 e1
  obtain ⟨p, va, vb, vc, rfl, hp, ha, hb, hc⟩ := dd3 hd
  refine iteF ?_
  refine ⟨_, rfl, ?_⟩
  refine ⟨p, _, 0, _, rfl, rfl, SqT.of (s1 _ _ hp), rfl, ?_⟩
  refine ⟨by show 1 ≤ sizeLine; rw [sizeLine_eq]; decide, fun t ht => ?_⟩
  have s2 := s1.trans (same_new ht (.tup [.str "#"]))
  refine ⟨va, a, t, ["#"], rfl, ha.mono s2, .inr (SqT.of upd_same), fun H3 s3 => ⟨_, rfl, ?_⟩⟩
  have s13 := s2.trans s3
  have no : ∀ {H' : Hp}, (a = .str "#" → b = .str x → False) → Same H H' → Q (.bl false) H' := fun {H'} n s => by
    have q := k H' s
    rw [show strangerB x (.tuple [a, b, c]) = false from ?_] at q
    · exact q
    · cases e : strangerB x (.tuple [a, b, c]) with
      | false => rfl
      | true =>
        unfold strangerB at e
        split at e
        · rename_i h k n eq
          cases eq
          rw [Bool.and_eq_true, Bool.and_eq_true, decide_eq_true_iff, decide_eq_true_iff] at e
          exact (n (by rw [e.1]) (by rw [e.2.1])).elim
        · cases e
  cases ea : isAmongB a ["#"] with
  | false =>
    refine iteT (iteT (no (fun z _ => ?_) s13))
    rw [among_1.mpr z] at ea
    cases ea
  | true =>
  refine iteF ⟨_, rfl, ?_⟩
  refine ⟨p, _, 1, _, rfl, rfl, SqT.of (s13 _ _ hp), rfl, ?_⟩
  refine ⟨_, rfl, by show 1 ≤ sizeLine; rw [sizeLine_eq]; decide, fun t2 ht2 => ?_⟩
  have s4 := s13.trans (same_new ht2 (.tup [.str x]))
  refine ⟨vb, b, t2, [x], rfl, hb.mono s4, .inr (SqT.of upd_same), fun H5 s5 => ⟨_, rfl, ?_⟩⟩
  have s15 := s4.trans s5
  cases eb : isAmongB b [x] with
  | false =>
    refine iteT (no (fun _ z => ?_) s15)
    rw [among_1.mpr z] at eb
    cases eb
  | true =>
  obtain rfl := among_1.mp ea
  obtain rfl := among_1.mp eb
  refine iteF ⟨_, rfl, ?_⟩
  refine ⟨p, _, 2, _, rfl, rfl, SqT.of (s15 _ _ hp), rfl, vc, c, rfl, hc.mono s15, fun H6 s6 => ⟨_, rfl, ?_⟩⟩
  have s16 := s15.trans s6
  have q := k H6 s16
  cases ew : wholeB c with
  | false =>
    rw [show strangerB x (.tuple [.str "#", .str x, c]) = false from ?_] at q
    · exact iteF q
    · cases c with
      | int n => cases ew
      | _ => rfl
  | true =>
  obtain ⟨n, rfl⟩ := isInt_of ew
  cases hc
  refine iteT ⟨_, rfl, p, _, 2, _, rfl, rfl, SqT.of (s16 _ _ hp), rfl, ?_⟩
  walk_at "rd"
  rw [show strangerB x (.tuple [.str "#", .str x, .int n]) = decide (1 ≤ n) from ?_] at q
  · exact q
  · show (decide (("#" : Str) = "#") && (decide (x = x) && decide (1 ≤ n))) = _
    simp

end

section
variable {P : Program} {w : World} {K : PySem.W.Frag} {mg : Str → Option Value} {base : Heap}

/-- a variable -/
def variableB (d : PyData) : Bool := match d with | .tuple [.str h, .str n] => decide (h = "?") && nameS n | _ => false
def spVariable : Sp := fun vs H Q _ => ∃ (v : V) (d : PyData), vs = [v] ∧ Dd H v d ∧ okT d = true ∧ ∀ H', Same H H' → Q (.bl (variableB d)) H'

theorem sc_is_variable : FnScope ["value"] ["value"] (defScope s_is_variable) := ⟨rfl, rfl, rfl, by decide +kernel, rfl, by decide +kernel, by decide +kernel⟩
theorem ok_is_variable (D : Df K mg "is_variable" s_is_variable) (G1 : Gd P w K mg base CX0 1 "is_tuple" ["value", "least", "most"] spTup) (G2 : Gd P w K mg base CX0 1 "is_among" ["value", "texts"] (spAmong K)) (G3 : Gd P w K mg base CX0 1 "is_name" ["value"] spName) : Gd P w K mg base CX0 2 "is_variable" ["value"] spVariable := by
  refine gd_of D (fun _ _ _ _ _ _ us hl => match us, hl with | [_], _ => rfl) fun f fd F => ?_
  refine fun_q F sc_is_variable (fun vs H Q E h => by obtain ⟨v, d, rfl, _⟩ := h; rfl) (fun cdv A outer s H vs Q E hr hq h => ?_)
  obtain ⟨v, d, rfl, hd, ok, k⟩ := h
  refine ⟨_, (pss_one (ps_ret (pe_and (pe_g G1 hr hq (pa_cons (pv 0) (pa_cons pe_int (pa_cons pe_int pa_nil)))) (pe_and (pe_g G2 hr hq (pa_cons (pe_ix ix_tup (pv 0) pe_int (fun _ _ => rfl)) (pa_cons (pe_tup (pa_cons pe_str pa_nil)) pa_nil))) (pe_one (pe_g G3 hr hq (pa_cons (pe_ix ix_tup (pv 0) pe_int (fun _ _ => rfl)) pa_nil))))))), ?_⟩
  walk_at "rd"
  refine ⟨v, d, 2, 2, rfl, hd, fun H1 s1 => ⟨_, rfl, ?_⟩⟩
  cases e1 : isTupB d 2 2 with
  | false =>
    have z : variableB d = false := by
      cases c : variableB d with
      | false => rfl
      | true =>
        unfold variableB at c
        split at c
        · cases e1
        · cases c
    refine iteF ?_
    rw [← z]
    exact k H1 s1
  | true =>
  obtain ⟨a, b, rfl⟩ := tupB_2 e1
  obtain ⟨p, va, vb, rfl, hp, ha, hb⟩ := dd2 hd
  obtain ⟨oa, ob⟩ := okT_2 ok
  refine iteT ⟨_, rfl, ?_⟩
  refine ⟨p, _, 0, _, rfl, rfl, SqT.of (s1 _ _ hp), rfl, ?_⟩
  refine ⟨by show 1 ≤ sizeLine; rw [sizeLine_eq]; decide, fun t ht => ?_⟩
  have s2 := s1.trans (same_new ht (.tup [.str "?"]))
  refine ⟨va, a, t, ["?"], rfl, ha.mono s2, .inr (SqT.of upd_same), fun H3 s3 => ⟨_, rfl, ?_⟩⟩
  have s13 := s2.trans s3
  cases ea : isAmongB a ["?"] with
  | false =>
    refine iteF ?_
    have q := k H3 s13
    rw [show variableB (.tuple [a, b]) = false from ?_] at q
    · exact q
    · cases e : variableB (.tuple [a, b]) with
      | false => rfl
      | true =>
        unfold variableB at e
        split at e
        · rename_i h n eq
          cases eq
          rw [Bool.and_eq_true, decide_eq_true_iff] at e
          rw [e.1] at ea
          rw [among_1.mpr rfl] at ea
          cases ea
        · cases e
  | true =>
  obtain rfl := among_1.mp ea
  refine iteT ⟨_, rfl, p, _, 1, _, rfl, rfl, SqT.of (s13 _ _ hp), rfl, vb, b, rfl, hb.mono s13, ob, fun H4 s4 => ?_⟩
  have q := k H4 (s13.trans s4)
  rw [show variableB (.tuple [.str "?", b]) = isNameB b from ?_] at q
  · exact q
  · cases b <;> simp [variableB, isNameB]

/-- the names of the open kinds -/
def openN (kd : List PyData) : List Str := (kd.filter fun d => decide (wordOf d = "open")).map nameOf
theorem openN_take {kd : List PyData} {i : Nat} {d : PyData} (e : kd[i]? = some d) : openN (kd.take (i + 1)) = if wordOf d = "open" then openN (kd.take i) ++ [nameOf d] else openN (kd.take i) := by
  unfold openN
  rw [List.take_add_one, e, List.filter_append]
  by_cases c : wordOf d = "open"
  · simp [c]
  · simp [c]
theorem openN_mem {kd : List PyData} {x : Str} : decide (x ∈ openN kd) = S0 kd x := by
  rw [Bool.eq_iff_iff, decide_eq_true_iff]
  unfold openN S0
  rw [List.any_eq_true, List.mem_map]
  constructor
  · rintro ⟨d, hd, rfl⟩
    rw [List.mem_filter] at hd
    exact ⟨d, hd.1, by rw [hd.2]; simp⟩
  · rintro ⟨d, hd, e⟩
    rw [Bool.and_eq_true, decide_eq_true_iff] at e
    exact ⟨d, List.mem_filter.mpr ⟨hd, e.2⟩, e.1⟩
def spOpenK : Sp := fun vs H Q _ => ∃ (v : V) (kd : List PyData) (m : PyData), vs = [v] ∧ Dd H v (.tuple [.tuple kd, m]) ∧ kindsB (.tuple kd) = true ∧ ∀ p H', H p = none → Same H H' → H' p = some (.lst ((openN kd).map V.str)) → Q (.ref p) H'

theorem sc_open_kinds : FnScope ["signature", "name", "word"] ["signature"] (defScope s_open_kinds) := ⟨rfl, rfl, rfl, by decide +kernel, rfl, by decide +kernel, by decide +kernel⟩
theorem ok_open_kinds (D : Df K mg "open_kinds" s_open_kinds) : Gd P w K mg base CX0 1 "open_kinds" ["signature"] spOpenK := by
  refine gd_of D (fun _ _ _ _ _ _ us hl => match us, hl with | [_], _ => rfl) fun f fd F => ?_
  refine fun_q F sc_open_kinds (fun vs H Q E h => by obtain ⟨v, kd, m, rfl, _⟩ := h; rfl) (fun cdv A outer s H vs Q E hr hq h => ?_)
  obtain ⟨v, kd, m, rfl, hd, ek, k⟩ := h
  obtain ⟨p, x, y, rfl, hp, ha, hb⟩ := dd2 hd
  obtain ⟨l1, l8, kb, knd⟩ := kindsB_parts ek
  obtain ⟨ka, kx, rfl, hka, KA⟩ := ha.tupD
  have lk := KA.length
  refine ⟨_, (pss_one (ps_ret (pe_lc (own := [("name", 1), ("word", 2)]) (g := (gTup K 2 (gCons (gName 1) (gCons (gName 2) gNil)))) rfl sc_open_kinds.nd (pi_tup (pe_ix ix_tup (pv 0) pe_int (fun _ _ => rfl))) (blkOk_by (own := [("name", 1), ("word", 2)]) (N := ["signature", "name", "word"]) (sc := defScope s_open_kinds) (by decide +kernel)) (fun _ _ _ _ _ => (pg_tup rfl (pgs_cons (pg_name (i := 1) sc_open_kinds.nd rfl (Or.inl rfl)) (pgs_cons (pg_name (i := 2) sc_open_kinds.nd rfl (Or.inl rfl)) pgs_nil)))) (fun _ _ _ _ _ => (pts_one (pt_cmpR op_eq (pv 2) pe_str (nomark _)))) (fun _ _ _ _ _ => (pv 1))))), ?_⟩
  walk_at "rd"
  refine ⟨⟨_, SqT.of hka⟩, fun D hD => ?_⟩
  refine lc_it walk_tup (fun i H2 => Same H H2 ∧ H2 D = some (.lst ((openN (kd.take i)).map V.str))) ⟨same_new hD _, upd_same⟩ (fun i H2 _ p => SqT.of (p.1 _ _ hka)) (fun i y H2p H2 hi p hy => ?_) (fun H2 p => ?_)
  · obtain ⟨rfl, ey⟩ := hy
    obtain ⟨s2, e2⟩ := p
    obtain ⟨q, x, b, ed, rfl, hq2, _⟩ := kind_at (KA.mono s2) kb ey
    refine ⟨q, _, rfl, SqT.of hq2, rfl, _, _, rfl, _, _, rfl, rfl, rfl, ?_⟩
    walk_at "rd"
    rw [dec_str, openN_take ed]
    show if decide (b = "open") = true then _ else _
    by_cases c : b = "open"
    · rw [if_pos (decide_eq_true c), if_pos (show wordOf (.tuple [.str x, .str b]) = "open" from c)]
      walk_at "rd"
      have lo : (openN (kd.take i)).length ≤ 8 := by
        unfold openN
        have h1 := List.length_filter_le (fun d => decide (wordOf d = "open")) (kd.take i)
        have h2 := List.length_take_le i kd
        rw [List.length_map]
        omega
      refine ⟨_, e2, by rw [sizeLine_eq, List.length_map]; omega, same_put s2 hD, ?_⟩
      rw [upd_same, List.map_append]
      rfl
    · rw [if_neg (by simpa using c), if_neg (show ¬ wordOf (.tuple [.str x, .str b]) = "open" from c)]
      exact ⟨s2, e2⟩
  · obtain ⟨s2, e2⟩ := p
    rw [lk, List.take_length] at e2
    exact k D H2 hD s2 e2

end

section
variable {P : Program} {w : World} {K : PySem.W.Frag} {mg : Str → Option Value} {base : Heap}

/-- what makers_by_name tells: to each name what it needs, and its kind -/
def MbN (H : Hp) (D : Addr) (md : List PyData) : Prop :=
  ∃ L : Str → Addr, H D = some (.dK (md.map fun m => ((Sum.inr (nameOf m) : Key), V.ref (L (nameOf m))))) ∧ ∀ m ∈ md, ∃ na, H (L (nameOf m)) = some (.tup [.ref na, .str (kindOf m)]) ∧ H na = some (.tup ((needsOf m).map V.str))
theorem MbN.mono {H H' : Hp} {D : Addr} {md : List PyData} (s : Same H H') (h : MbN H D md) : MbN H' D md :=
  let ⟨L, e, a⟩ := h
  ⟨L, s _ _ e, fun m hm => let ⟨na, e1, e2⟩ := a m hm; ⟨na, s _ _ e1, s _ _ e2⟩⟩
/-- the maker of this name -/
def findM (md : List PyData) (h : Str) : Option PyData := md.find? fun m => decide (nameOf m = h)
theorem findM_val {md : List PyData} {h : Str} {L : Str → Addr} : valV (md.map fun m => ((Sum.inr (nameOf m) : Key), V.ref (L (nameOf m)))) (Sum.inr h) = (findM md h).map fun m => V.ref (L (nameOf m)) := by
  unfold findM
  induction md with
  | nil => rfl
  | cons m ms ih =>
    rw [List.map_cons, List.find?_cons]
    by_cases c : nameOf m = h
    · rw [valV_pos (by rw [c]), decide_eq_true c]
      rfl
    · rw [valV_neg (fun z => c (Sum.inr.inj z)), decide_eq_false c]
      exact ih
theorem findM_mem {md : List PyData} {h : Str} {m : PyData} (e : findM md h = some m) : m ∈ md ∧ nameOf m = h := ⟨List.mem_of_find?_eq_some e, by have := List.find?_some e; simpa using this⟩
theorem findM_no {md : List PyData} {h : Str} (e : findM md h = none) : h ∉ md.map nameOf := fun z => by
  obtain ⟨m, hm, rfl⟩ := List.mem_map.mp z
  have := List.find?_eq_none.mp e m hm
  simp at this
def spMbN : Sp := fun vs H Q _ => ∃ (v : V) (kd md : List PyData), vs = [v] ∧ Dd H v (.tuple [.tuple kd, .tuple md]) ∧ makersB (kd.map nameOf) (.tuple md) = true ∧
  ∀ p H', H p = none → Same H H' → MbN H' p md → Q (.ref p) H'

theorem sc_makers_by_name : FnScope ["signature", "name", "needs", "kind"] ["signature"] (defScope s_makers_by_name) := ⟨rfl, rfl, rfl, by decide +kernel, rfl, by decide +kernel, by decide +kernel⟩
theorem ok_makers_by_name (D : Df K mg "makers_by_name" s_makers_by_name) : Gd P w K mg base CX0 1 "makers_by_name" ["signature"] spMbN := by
  refine gd_of D (fun _ _ _ _ _ _ us hl => match us, hl with | [_], _ => rfl) fun f fd F => ?_
  refine fun_q F sc_makers_by_name (fun vs H Q E h => by obtain ⟨v, kd, m, rfl, _⟩ := h; rfl) (fun cdv A outer s H vs Q E hr hq h => ?_)
  obtain ⟨v, kd, md, rfl, hd, em, k⟩ := h
  obtain ⟨p, x, y, rfl, hp, ha, hb⟩ := dd2 hd
  obtain ⟨l24, mb, mnd⟩ := makersB_parts em
  obtain ⟨ma, mx, rfl, hma, MA⟩ := hb.tupD
  have lm := MA.length
  refine ⟨_, (pss_one (ps_ret (pe_dc (own := [("name", 1), ("needs", 2), ("kind", 3)]) (g := (gTup K 3 (gCons (gName 1) (gCons (gName 2) (gCons (gName 3) gNil))))) (tt := tYes) rfl sc_makers_by_name.nd (pi_tup (pe_ix ix_tup (pv 0) pe_int (fun _ _ => rfl))) (blkOk_by (own := [("name", 1), ("needs", 2), ("kind", 3)]) (N := ["signature", "name", "needs", "kind"]) (sc := defScope s_makers_by_name) (by decide +kernel)) (fun _ _ _ _ _ => (pg_tup rfl (pgs_cons (pg_name (i := 1) sc_makers_by_name.nd rfl (Or.inl rfl)) (pgs_cons (pg_name (i := 2) sc_makers_by_name.nd rfl (Or.inl rfl)) (pgs_cons (pg_name (i := 3) sc_makers_by_name.nd rfl (Or.inl rfl)) pgs_nil))))) (fun _ _ _ _ _ => pts_nil) (fun _ _ _ _ _ => (pv 1)) (fun _ _ _ _ _ => (pe_tup (pa_cons (pv 2) (pa_cons (pv 3) pa_nil))))))), ?_⟩
  walk_at "rd"
  refine ⟨⟨_, SqT.of hma⟩, fun D hD => ?_⟩
  refine dc_it walk_tup (fun i H2 => Same H H2 ∧ ∃ L : Str → Addr, H2 D = some (.dK ((md.take i).map fun m => ((Sum.inr (nameOf m) : Key), V.ref (L (nameOf m))))) ∧ ∀ m ∈ md.take i, L (nameOf m) ≠ D ∧ ∃ na, H2 (L (nameOf m)) = some (.tup [.ref na, .str (kindOf m)]) ∧ H2 na = some (.tup ((needsOf m).map V.str)))
    ⟨same_new hD _, fun _ => D, by rw [List.take_zero]; exact upd_same, fun m hm => by rw [List.take_zero] at hm; cases hm⟩ (fun i H2 _ p => SqT.of (p.1 _ _ hma)) (fun i y H2p H2 hi p hy => ?_) (fun H2 p => ?_)
  · obtain ⟨rfl, ey⟩ := hy
    obtain ⟨s2, L, e2, hL⟩ := p
    obtain ⟨q, x, ns, kk, na, em, rfl, hq, hna, l3, hns, hkk⟩ := maker_at (MA.mono s2) mb ey
    refine ⟨q, _, rfl, SqT.of hq, rfl, _, _, rfl, _, _, rfl, _, _, rfl, rfl, rfl, ?_⟩
    walk_at "rd"
    refine fun T hT => ?_
    have nT : D ≠ T := ne_of_none e2 hT
    have s3 : Same H2 (upd H2 T (.tup [.ref na, .str kk])) := same_new hT _
    have fresh : x ∉ (md.take i).map nameOf := fun z => by
      obtain ⟨j, hj⟩ := List.mem_iff_getElem?.mp z
      have hji : j < i := by
        have := (List.getElem?_eq_some_iff.mp hj).1
        rw [List.length_map, List.length_take] at this
        omega
      rw [List.getElem?_map, List.getElem?_take_of_lt hji, ← List.getElem?_map] at hj
      exact absurd (nodup_at mnd hj (by rw [List.getElem?_map, em]; rfl)) (by omega)
    have new0 : ∀ q ∈ (md.take i).map (fun m => ((Sum.inr (nameOf m) : Key), V.ref (L (nameOf m)))), q.1 ≠ Sum.inr x := fun q hq e => by
      obtain ⟨m, hm, rfl⟩ := List.mem_map.mp hq
      exact fresh (List.mem_map.mpr ⟨m, hm, Sum.inr.inj e⟩)
    refine ⟨_, Sum.inr x, rfl, by rw [upd_ne nT]; exact e2, by rw [List.length_map, List.length_take, sizeLine_eq]; omega, same_put (s2.trans s3) hD, fun z => if z = x then T else L z, ?_, fun m hm => ?_⟩
    · rw [upd_same, put_new new0, List.take_add_one, em, List.map_append]
      have e7 : (md.take i).map (fun m => ((Sum.inr (nameOf m) : Key), V.ref (if nameOf m = x then T else L (nameOf m)))) = (md.take i).map (fun m => ((Sum.inr (nameOf m) : Key), V.ref (L (nameOf m)))) :=
        List.map_congr_left fun m hm => by rw [if_neg (fun z : nameOf m = x => fresh (z ▸ List.mem_map.mpr ⟨m, hm, rfl⟩))]
      rw [e7]
      show some (HO.dK (_ ++ [((Sum.inr x : Key), V.ref T)])) = some (HO.dK (_ ++ [((Sum.inr x : Key), V.ref (if x = x then T else L x))]))
      rw [if_pos rfl]
    · have keep : ∀ b xs, upd H2 T (.tup [.ref na, .str kk]) b = some (.tup xs) → ∀ o, upd (upd H2 T (.tup [.ref na, .str kk])) D (.dK o) b = some (.tup xs) := fun b xs e o => by
        have nb : b ≠ D := fun z => by rw [z, upd_ne nT, e2] at e; cases e
        rw [upd_ne nb]
        exact e
      rw [List.take_add_one, em, List.mem_append] at hm
      rcases hm with hm | hm
      · have c : nameOf m ≠ x := fun z => fresh (z ▸ List.mem_map.mpr ⟨m, hm, rfl⟩)
        dsimp only
        rw [if_neg c]
        obtain ⟨nL, nb, f1, f2⟩ := hL m hm
        exact ⟨nL, nb, keep _ _ (s3 _ _ f1) _, keep _ _ (s3 _ _ f2) _⟩
      · have hm : m ∈ [PyData.tuple [.str x, .tuple ns, .str kk]] := hm
        rw [List.mem_singleton] at hm
        subst hm
        have eT : (if x = x then T else L x) = T := if_pos rfl
        dsimp only [nameOf, kindOf, needsOf]
        rw [eT]
        exact ⟨nT.symm, na, keep _ _ upd_same _, keep _ _ (s3 _ _ hna) _⟩
  · obtain ⟨s2, L, e2, hL⟩ := p
    rw [lm, List.take_length] at e2 hL
    exact k D H2 hD s2 ⟨L, e2, fun m hm => (hL m hm).2⟩

/-- is_among(v, d), d a dict of makers -/
def spAmongD : Sp := fun vs H Q _ => ∃ (v : V) (d : PyData) (t : Addr) (md : List PyData), vs = [v, .ref t] ∧ Dd H v d ∧ MbN H t md ∧ ∀ H', Same H H' → Q (.bl (isAmongB d (md.map nameOf))) H'

theorem ok_is_amongD (D : Df K mg "is_among" s_is_among) (B : Bi mg) : Gd P w K mg base CX0 1 "is_among" ["value", "texts"] spAmongD := by
  refine gd_of D (fun _ _ _ _ _ _ us hl => match us, hl with | [_, _], _ => rfl) fun f fd F => ?_
  refine fun_q F sc_is_among (fun vs H Q E h => by obtain ⟨v, d, t, xs, rfl, _⟩ := h; rfl) (fun cdv A outer s H vs Q E hr hq h => ?_)
  obtain ⟨v, d, t, md, rfl, hd, hs, k⟩ := h
  refine ⟨_, (pss_one (ps_ret (pe_and (pe_callB call_isi (by rfl) B.isinstance (by decide +kernel) (pa_cons (pv 0) (pa_cons (pe_bltn (v := V.ty "str") (by rfl) B.str (by decide +kernel) rfl) pa_nil))) (pe_one (pe_cmp (pc_din (hu_of hr) (pv 0) (pv 1)) rfl))))), ?_⟩
  walk_at "rd"
  refine ⟨_, V.ty _, _, _, _, rfl, ClsV.ty _, Dd.ty hd, kit_ty (kit_str d), ?_⟩
  refine ⟨_, rfl, ?_⟩
  cases d with
  | str x =>
    obtain rfl := hd.strD
    refine iteT ?_
    walk_at "rd"
    obtain ⟨L, e, _⟩ := hs
    refine ⟨t, _, rfl, DGet.k (k := Sum.inr x) e, ?_⟩
    have q := k H (Same.refl H)
    rw [findM_val]
    rw [show isAmongB (.str x) (md.map nameOf) = ((findM md x).map fun m => V.ref (L (nameOf m))).isSome from ?_] at q
    · exact q
    · show decide (x ∈ md.map nameOf) = _
      cases c : findM md x with
      | none => exact decide_eq_false (findM_no c)
      | some m => exact decide_eq_true (List.mem_map.mpr ⟨m, findM_mem c⟩)
  | _ => exact iteF (k H (Same.refl H))

/-- a maker of this kind, with so many parts as it needs -/
def madeB (md : List PyData) (x : Str) (d : PyData) : Option (List Str × List PyData) := match d with
  | .tuple (.str h :: ps) => (findM md h).bind fun m => if kindOf m = x ∧ ps.length = (needsOf m).length then some (needsOf m, ps) else none
  | _ => none
def spMade : Sp := fun vs H Q _ => ∃ (D : Addr) (md : List PyData) (x : Str) (v : V) (d : PyData), vs = [.ref D, .str x, v] ∧ MbN H D md ∧ md.length ≤ 24 ∧ (∀ m ∈ md, (needsOf m).length ≤ 3) ∧ Dd H v d ∧ ∀ H', Same H H' → Q (.bl (madeB md x d).isSome) H'

theorem sc_is_made : FnScope ["makers", "kind", "value", "needs", "made"] ["makers", "kind", "value"] (defScope s_is_made) := ⟨rfl, rfl, rfl, by decide +kernel, rfl, by decide +kernel, by decide +kernel⟩
theorem un0 {k : Nat} {A : Around} (r : Room k A) : A.units < cLine := by have := r.un; omega

theorem ok_is_made (D : Df K mg "is_made" s_is_made) (B : Bi mg) (G1 : Gd P w K mg base CX0 1 "is_among" ["value", "texts"] spAmongD) : Gd P w K mg base CX0 2 "is_made" ["makers", "kind", "value"] spMade := by
  refine gd_of D (fun _ _ _ _ _ _ us hl => match us, hl with | [_, _, _], _ => rfl) fun f fd F => ?_
  refine fun_q F sc_is_made (fun vs H Q E h => by obtain ⟨D, md, x, v, d, rfl, _⟩ := h; rfl) (fun cdv A outer s H vs Q E hr hq h => ?_)
  obtain ⟨D, md, x, v, d, rfl, M, l24, l3, hd, k⟩ := h
  refine ⟨_, (pss_cons (ps_if (PW.pt (pw_or (pt_not (pt_val (pe_callB call_isi (by rfl) B.isinstance (by decide +kernel) (pa_cons (pv 2) (pa_cons (pe_bltn (v := V.ty "tuple") (by rfl) B.tuple (by decide +kernel) rfl) pa_nil))))) (pw_or (pt_cmpR (op_eqE (un0 hr)) (pv 2) (pe_tup pa_nil) (nomark _)) (pw_or1 (pt_not (pt_val (pe_g G1 hr hq (pa_cons (pe_ix ix_tup (pv 2) pe_int (fun _ _ => rfl)) (pa_cons (pv 0) pa_nil))))))))) (pss_one (ps_ret pe_bl)) pss_nil)
      (pss_cons (ps_asg (pe_dget (hu_of hr) (pv 0) (pe_ix ix_tup (pv 2) pe_int (fun _ _ => rfl)) (fun _ _ => rfl)) (pg_tup rfl (pgs_cons (pg_name (i := 3) sc_is_made.nd rfl (Or.inl rfl)) (pgs_cons (pg_name (i := 4) sc_is_made.nd rfl (Or.inl rfl)) pgs_nil))))
      (pss_one (ps_ret (pe_and (pe_cmpR op_eq (pv 4) (pv 1) (nomark _)) (pe_one (pe_cmpR op_eq (pe_callB call_len_seq (by rfl) B.len (by decide +kernel) (pa_cons (pv 2) pa_nil)) (pe_op op_add pe_int (pe_callB call_len_seq (by rfl) B.len (by decide +kernel) (pa_cons (pv 3) pa_nil))) (nomark _)))))))), ?_⟩
  walk_at "rd"
  refine ⟨_, V.ty _, _, _, _, rfl, ClsV.ty _, Dd.ty hd, kit_ty (kit_tup d), ?_⟩
  refine ⟨_, rfl, ?_⟩
  cases d with
  | tuple ds =>
    obtain ⟨t, xs, rfl, e, A⟩ := hd.tupD
    have la := A.length
    refine iteF ⟨_, rfl, ?_⟩
    refine ⟨Nat.zero_le _, fun t0 ht0 => ?_⟩
    have s1 : Same H (upd H t0 (.tup [])) := same_new ht0 _
    refine ⟨t, t0, xs, rfl, rfl, SqT.of (s1 _ _ e), SqT.of upd_same, ?_⟩
    cases A with
    | nil => exact ⟨_, rfl, iteT (iteT (k _ s1))⟩
    | @cons v0 vs0 d0 ds0 h0 A0 =>
    refine ⟨_, rfl, iteF ⟨_, rfl, ?_⟩⟩
    generalize upd H t0 (.tup []) = H1 at s1 ⊢
    refine ⟨t, _, 0, _, rfl, rfl, SqT.of (s1 _ _ e), atI_nat (j := 0) rfl, ?_⟩
    refine ⟨_, rfl, v0, d0, D, md, rfl, h0.mono s1, M.mono s1, fun H2 s2 => ⟨_, rfl, ?_⟩⟩
    have s12 := s1.trans s2
    cases c : isAmongB d0 (md.map nameOf) with
    | false =>
      refine iteT ?_
      have q := k H2 s12
      rw [show madeB md x (.tuple (d0 :: ds0)) = none from ?_] at q
      · exact q
      · cases d0 with
        | str h =>
          have c : decide (h ∈ md.map nameOf) = false := c
          show (findM md h).bind _ = none
          cases f : findM md h with
          | none => rfl
          | some m =>
            have := findM_mem f
            rw [decide_eq_true (List.mem_map.mpr ⟨m, this⟩)] at c
            cases c
        | _ => rfl
    | true =>
    obtain ⟨h, rfl, hm⟩ := among_str c
    cases h0
    obtain ⟨m, fm⟩ : ∃ m, findM md h = some m := by
      cases f : findM md h with
      | none => exact absurd hm (findM_no f)
      | some m => exact ⟨m, rfl⟩
    obtain ⟨mm, rfl⟩ := findM_mem fm
    obtain ⟨L, eD, aD⟩ := M.mono s12
    obtain ⟨na, g1, g2⟩ := aD m mm
    refine iteF ?_
    have dg := DGet.k (k := Sum.inr (nameOf m)) eD
    rw [findM_val, fm] at dg
    refine ⟨_, rfl, _, rfl, t, _, 0, _, rfl, rfl, SqT.of (s12 _ _ e), atI_nat (j := 0) rfl, ?_⟩
    refine ⟨D, _, rfl, dg, ?_⟩
    refine ⟨L (nameOf m), _, rfl, SqT.of g1, rfl, _, _, rfl, _, _, rfl, rfl, ?_⟩
    have q := k H2 s12
    refine ⟨_, rfl, _, rfl, rfl, _, rfl, ?_⟩
    rw [dec_str]
    have e9 : madeB md x (.tuple (.str (nameOf m) :: ds0)) = if kindOf m = x ∧ ds0.length = (needsOf m).length then some (needsOf m, ds0) else none := by
      show (findM md (nameOf m)).bind _ = _
      rw [fm]
      rfl
    rw [e9] at q
    by_cases ck : kindOf m = x
    · rw [decide_eq_true ck]
      refine iteT ⟨_, rfl, t, _, rfl, .inr (SqT.of (s12 _ _ e)), ?_⟩
      refine ⟨_, rfl, na, _, rfl, .inr (SqT.of g2), ?_⟩
      walk_at "rd"
      have l0 : vs0.length = ds0.length := by simpa using la
      rw [show (if kindOf m = x ∧ ds0.length = (needsOf m).length then some (needsOf m, ds0) else none).isSome = decide (V.int ((V.str (nameOf m) :: vs0).length : Nat) = V.int (1 + ((List.map V.str (needsOf m)).length : Nat))) from ?_] at q
      · exact q
      · rw [List.length_cons, List.length_map, l0]
        by_cases cl : ds0.length = (needsOf m).length
        · rw [if_pos ⟨ck, cl⟩]
          refine (decide_eq_true ?_).symm
          rw [cl]
          congr 1
          omega
        · rw [if_neg fun z => cl z.2]
          refine (decide_eq_false fun z => cl ?_).symm
          injection z with z
          omega
    · rw [decide_eq_false ck]
      refine iteF ?_
      rw [if_neg fun z => ck z.1] at q
      exact q
  | _ => exact iteT (iteT (k H (Same.refl H)))

end

mutual
/-- a closed term of a kind -/
def tmB (kd md : List PyData) : PyData → Str → Bool
  | .tuple ds, x => (S0 kd x && strangerB x (.tuple ds)) || tmH kd md ds x
  | _, _ => false
def tmH (kd md : List PyData) : List PyData → Str → Bool
  | .str h :: ps, x => match findM md h with
    | some m => decide (kindOf m = x) && tmL kd md ps (needsOf m)
    | none => false
  | _, _ => false
def tmL (kd md : List PyData) : List PyData → List Str → Bool
  | [], [] => true
  | d :: ds, n :: ns => tmB kd md d n && tmL kd md ds ns
  | _, _ => false
end
mutual
/-- how much there is of a tuple -/
def psz : PyData → Nat
  | .tuple ds => 1 + pszs ds
  | _ => 1
def pszs : List PyData → Nat
  | [] => 0
  | d :: ds => psz d + pszs ds
end
theorem psz_pos (d : PyData) : 1 ≤ psz d := by cases d <;> simp [psz] <;> omega
theorem tmL_len {kd md : List PyData} : ∀ {ps : List PyData} {ns : List Str}, tmL kd md ps ns = true → ps.length = ns.length
  | [], [], _ => rfl
  | d :: ds, n :: ns, h => by
    rw [tmL, Bool.and_eq_true] at h
    exact congrArg Nat.succ (tmL_len h.2)
  | [], _ :: _, h => by rw [tmL] at h; cases h; all_goals (intros; simp_all)
  | _ :: _, [], h => by rw [tmL] at h; cases h; all_goals (intros; simp_all)
theorem tmL_all {kd md : List PyData} : ∀ {ps : List PyData} {ns : List Str}, ps.length = ns.length → tmL kd md ps ns = (ns.zip ps).all fun q => tmB kd md q.2 q.1
  | [], [], _ => by rw [tmL]; rfl
  | d :: ds, n :: ns, h => by
    rw [tmL, tmL_all (by simpa using h)]
    rfl
  | [], _ :: _, h => by cases h
  | _ :: _, [], h => by cases h
theorem tmB_made {kd md : List PyData} {d : PyData} {x : Str} {ns : List Str} {ps : List PyData} (h : madeB md x d = some (ns, ps)) (n : (S0 kd x && strangerB x d) = false) : ps.length = ns.length ∧ tmB kd md d x = (ns.zip ps).all (fun q => tmB kd md q.2 q.1) ∧ psz d = 2 + pszs ps := by
  unfold madeB at h
  split at h
  · rename_i h0 ps0
    obtain ⟨m, fm, e⟩ := Option.bind_eq_some_iff.mp h
    split at e
    · rename_i c
      injection e with e
      injection e with e1 e2
      subst e1 e2
      refine ⟨c.2, ?_, ?_⟩
      · rw [tmB, n, Bool.false_or, tmH, fm, ← tmL_all c.2]
        dsimp only
        rw [decide_eq_true c.1, Bool.true_and]
      · rw [psz, pszs, psz]
        · omega
        · intros; simp_all
    · cases e
  · cases h
theorem tmB_not {kd md : List PyData} {d : PyData} {x : Str} (h : madeB md x d = none) (n : (S0 kd x && strangerB x d) = false) : tmB kd md d x = false := by
  cases d with
  | tuple ds =>
    rw [tmB, n, Bool.false_or]
    cases ds with
    | nil => rfl
    | cons a ps =>
      cases a with
      | str h0 =>
        rw [tmH]
        cases fm : findM md h0 with
        | none => rfl
        | some m =>
          dsimp only
          cases e : tmL kd md ps (needsOf m) with
          | false => rw [Bool.and_false]
          | true =>
            have l := tmL_len e
            have h : (findM md h0).bind _ = none := h
            rw [fm] at h
            by_cases c : kindOf m = x
            · have h : (if kindOf m = x ∧ ps.length = (needsOf m).length then some (needsOf m, ps) else none) = none := h
              rw [if_pos ⟨c, l⟩] at h
              cases h
            · rw [decide_eq_false c]; rfl
      | _ => rfl
  | _ => rfl
theorem tmB_strange {kd md : List PyData} {d : PyData} {x : Str} (h : (S0 kd x && strangerB x d) = true) : tmB kd md d x = true := by
  cases d with
  | tuple ds => rw [tmB, h]; rfl
  | _ =>
    rw [Bool.and_eq_true] at h
    exact absurd h.2 (by intro z; cases z)
/-- what waits, as it stands in the heap: H0 holds the data -/
inductive PL (H0 H : Hp) : List V → List (Str × PyData) → Prop
  | nil : PL H0 H [] []
  | cons {t : Addr} {k : Str} {y : V} {d : PyData} {vs : List V} {qs : List (Str × PyData)} : H t = some (.tup [.str k, y]) → Dd H0 y d → PL H0 H vs qs → PL H0 H (.ref t :: vs) ((k, d) :: qs)
theorem PL.mono {H0 H H' : Hp} (s : ∀ b xs, H b = some (.tup xs) → H' b = some (.tup xs)) : ∀ {vs : List V} {qs : List (Str × PyData)}, PL H0 H vs qs → PL H0 H' vs qs
  | _, _, .nil => .nil
  | _, _, .cons e h t => .cons (s _ _ e) h (t.mono s)
theorem PL.len {H0 H : Hp} : ∀ {vs : List V} {qs : List (Str × PyData)}, PL H0 H vs qs → vs.length = qs.length
  | _, _, .nil => rfl
  | _, _, .cons _ _ t => congrArg Nat.succ t.len
theorem PL.app {H0 H : Hp} : ∀ {vs ws : List V} {qs rs : List (Str × PyData)}, PL H0 H vs qs → PL H0 H ws rs → PL H0 H (vs ++ ws) (qs ++ rs)
  | _, _, _, _, .nil, h => h
  | _, _, _, _, .cons e h t, h2 => .cons e h (t.app h2)
theorem PL.last {H0 H : Hp} : ∀ {vs : List V} {qs : List (Str × PyData)}, PL H0 H vs qs → qs ≠ [] → ∃ vs' t qs' k y d, vs = vs' ++ [.ref t] ∧ qs = qs' ++ [(k, d)] ∧ PL H0 H vs' qs' ∧ H t = some (.tup [.str k, y]) ∧ Dd H0 y d
  | _, _, .nil, h => absurd rfl h
  | _, _, .cons (k := k) (y := y) (d := d) e h .nil, _ => ⟨[], _, [], k, y, d, rfl, rfl, .nil, e, h⟩
  | _, _, .cons e h (.cons e2 h2 r), _ => by
    obtain ⟨vs', t, qs', k, y, d, h1, h2, h3, h4, h5⟩ := (PL.cons e2 h2 r).last (by simp)
    exact ⟨_ :: vs', t, _ :: qs', k, y, d, by rw [h1]; rfl, by rw [h2]; rfl, .cons e h h3, h4, h5⟩
/-- pairs of a zip -/
theorem PL.of_zip {H0 H : Hp} : ∀ {ts : List Addr} {ns : List Str} {xs : List V} {ps : List PyData}, DdA H0 xs ps → ts.length = min ns.length xs.length → ns.length = xs.length →
    (∀ (j : Nat) (t : Addr) (x y : V), ts[j]? = some t → (ns.map V.str)[j]? = some x → xs[j]? = some y → H t = some (.tup [x, y])) → PL H0 H (ts.map V.ref) (ns.zip ps)
  | [], [], [], _, .nil, _, _, _ => .nil
  | t :: ts, n :: ns, x :: xs, _, .cons h A, l1, l2, f => .cons (f 0 t _ _ rfl rfl rfl) h (PL.of_zip A (by simp at l1 ⊢; omega) (by simpa using l2) fun j t x y e1 e2 e3 => f (j + 1) t x y (by simpa using e1) (by simpa using e2) (by simpa using e3))
  | [], _ :: _, _ :: _, _, _, l1, _, _ => by simp at l1
  | _ :: _, [], _, _, _, l1, _, _ => by simp at l1
  | [], [], _ :: _, _, _, _, l2, _ => by simp at l2
  | _ :: _, _ :: _, [], _, _, l1, _, _ => by simp at l1
  | [], _ :: _, [], _, _, _, l2, _ => by simp at l2
theorem needs_few {ks : List Str} {m : PyData} (h : makerB ks m = true) : (needsOf m).length ≤ 3 := by
  obtain ⟨x, ns, k, rfl, _, l3, hns, _⟩ := makerB_of h
  show (ns.map strD).length ≤ 3
  rw [List.length_map]
  exact l3
theorem map_last {α : Type} {xs ys : List α} {y : α} (h : ys = xs ++ [y]) : ys[ys.length - 1]? = some y ∧ ys.dropLast = xs := by
  subst h
  simp
theorem tup_put {H : Hp} {a b : Addr} {vs ws xs : List V} (e : H a = some (.lst vs)) (q : H b = some (.tup xs)) : upd H a (.lst ws) b = some (.tup xs) := by
  rw [upd_ne (fun z => by rw [z, e] at q; cases q)]
  exact q
theorem madeB_some {md : List PyData} {d : PyData} {x : Str} {ns : List Str} {ps : List PyData} (h : madeB md x d = some (ns, ps)) : ∃ h m, d = .tuple (.str h :: ps) ∧ findM md h = some m ∧ ns = needsOf m ∧ kindOf m = x ∧ ps.length = ns.length := by
  unfold madeB at h
  split at h
  · rename_i h0 ps0
    obtain ⟨m, fm, e⟩ := Option.bind_eq_some_iff.mp h
    split at e
    · rename_i c
      injection e with e
      injection e with e1 e2
      subst e1 e2
      exact ⟨h0, m, rfl, fm, rfl, c.1, c.2⟩
    · cases e
  · cases h
theorem tAnd_val {A B : TT} {σ : L2.St} {H : Hp} {K : Bool → Hp → Prop} (a b : Bool) (hA : ∀ K' : Bool → Hp → Prop, (∀ H', Same H H' → K' a H') → A σ H K')
    (hB : a = true → ∀ H1, Same H H1 → ∀ K' : Bool → Hp → Prop, (∀ H', Same H1 H' → K' b H') → B σ H1 K') (h : ∀ H', Same H H' → K (a && b) H') : tAnd A B σ H K := by
  refine hA _ fun H1 s1 => ?_
  cases a with
  | false => exact iteF (h H1 s1)
  | true => exact iteT (hB rfl H1 s1 _ fun H2 s2 => h H2 (s1.trans s2))
def muP (qs : List (Str × PyData)) : Nat := (qs.map fun q => psz q.2).sum
theorem muP_app (a b : List (Str × PyData)) : muP (a ++ b) = muP a + muP b := by unfold muP; rw [List.map_append, List.sum_append]
theorem muP_len : ∀ qs : List (Str × PyData), qs.length ≤ muP qs
  | [] => Nat.zero_le _
  | q :: qs => by
    have h1 := muP_len qs
    have h2 := psz_pos q.2
    have e : muP (q :: qs) = psz q.2 + muP qs := by unfold muP; rw [List.map_cons, List.sum_cons]
    rw [e, List.length_cons]
    omega
theorem muP_zip : ∀ {ns : List Str} {ps : List PyData}, ps.length = ns.length → muP (ns.zip ps) = pszs ps
  | [], [], _ => by rw [pszs]; rfl
  | n :: ns, p :: ps, h => by
    have e : muP ((n :: ns).zip (p :: ps)) = psz p + muP (ns.zip ps) := by unfold muP; rw [List.zip_cons_cons, List.map_cons, List.sum_cons]
    rw [e, muP_zip (by simpa using h), pszs]
  | [], _ :: _, h => by cases h
  | _ :: _, [], h => by cases h

section
variable {P : Program} {w : World} {K : PySem.W.Frag} {mg : Str → Option Value} {base : Heap}

def spClosed : Sp := fun vs H Q _ => ∃ (v u : V) (kd md : List PyData) (x : Str) (d : PyData), vs = [v, .str x, u] ∧ Dd H v (.tuple [.tuple kd, .tuple md]) ∧ kindsB (.tuple kd) = true ∧ makersB (kd.map nameOf) (.tuple md) = true ∧ Dd H u d ∧ psz d ≤ 1000000 ∧
  ∀ H', Same H H' → Q (.bl (tmB kd md d x)) H'
theorem sc_is_closed_term : FnScope ["signature", "kind", "value", "makers", "strange", "waiting", "wanted", "part"] ["signature", "kind", "value"] (defScope s_is_closed_term) := ⟨rfl, rfl, rfl, by decide +kernel, rfl, by decide +kernel, by decide +kernel⟩
theorem ok_is_closed_term (D : Df K mg "is_closed_term" s_is_closed_term) (B : Bi mg) (Bz : mg "zip" = none) (G1 : Gd P w K mg base CX0 1 "makers_by_name" ["signature"] spMbN) (G2 : Gd P w K mg base CX0 1 "open_kinds" ["signature"] spOpenK) (G3 : Gd P w K mg base CX0 2 "is_stranger" ["kind", "value"] spStranger) (G4 : Gd P w K mg base CX0 2 "is_made" ["makers", "kind", "value"] spMade) : Gd P w K mg base CX0 3 "is_closed_term" ["signature", "kind", "value"] spClosed := by
  refine gd_of D (fun _ _ _ _ _ _ us hl => match us, hl with | [_, _, _], _ => rfl) fun f fd F => ?_
  refine fun_q F sc_is_closed_term (fun vs H Q E h => by obtain ⟨v, u, kd, md, x, d, rfl, _⟩ := h; rfl) (fun cdv A outer s H vs Q E hr hq h => ?_)
  obtain ⟨v, u, kd, md, x, d, rfl, hd, k1, k2, hu, lz, k⟩ := h
  have hu3 : Room 2 _ := hr
  refine ⟨_, (pss_cons (ps_set (i := 3) sc_is_closed_term.nd rfl (Or.inl rfl) (pe_g (G1.mono (by decide)) hr hq (pa_cons (pv 0) pa_nil)))
      (pss_cons (ps_set (i := 4) sc_is_closed_term.nd rfl (Or.inl rfl) (pe_g (G2.mono (by decide)) hr hq (pa_cons (pv 0) pa_nil)))
      (pss_cons (ps_set (i := 5) sc_is_closed_term.nd rfl (Or.inl rfl) (pe_lst (pa_cons (pe_tup (pa_cons (pv 1) (pa_cons (pv 2) pa_nil))) pa_nil)))
      (pss_cons (ps_while PassesOwn.never (pt_truth (pv 5) (by intro _; rfl)) (pss_cons (ps_asg (pe_bm0 PySem.F.plainAttrs_list PySem.F.slot_list_pop PySem.F.type_list_pop mt_pop (pv 5)) (pg_tup rfl (pgs_cons (pg_name (i := 6) sc_is_closed_term.nd rfl (Or.inl rfl)) (pgs_cons (pg_name (i := 7) sc_is_closed_term.nd rfl (Or.inl rfl)) pgs_nil))))
      (pss_cons (ps_if (PW.pt (pw_and (pt_cmpR op_in_seq (pv 6) (pv 4) (by rfl)) (pw_and1 (pt_val (pe_g (G3.mono (by decide)) hr hq (pa_cons (pv 6) (pa_cons (pv 7) pa_nil))))))) (pss_one ps_continue) pss_nil)
      (pss_cons (ps_if (pt_not (pt_val (pe_g (G4.mono (by decide)) hr hq (pa_cons (pv 3) (pa_cons (pv 6) (pa_cons (pv 7) pa_nil)))))) (pss_one (ps_ret pe_bl)) pss_nil)
      (pss_one (ps_expr (pe_bm PySem.F.plainAttrs_list PySem.F.slot_list_extend PySem.F.type_list_extend mt_extend (pv 5) (pa_cons (pe_listZip rfl (by rfl) B.list (by rfl) Bz (pa_cons (pe_ix ix_tup (pe_dget (hu_of hr) (pv 3) (pe_ix ix_tup (pv 7) pe_int (fun _ _ => rfl)) (fun _ _ => rfl)) pe_int (fun _ _ => rfl)) (pa_cons (pe_slice sl_tupA (pv 7) (po_some pe_int) po_none) pa_nil))) pa_nil))))))))
      (pss_one (ps_ret pe_bl)))))), ?_⟩
  obtain ⟨l24, mb, mnd⟩ := makersB_parts k2
  have n3 : ∀ m ∈ md, (needsOf m).length ≤ 3 := fun m hm => needs_few (mb m hm)
  refine ⟨_, rfl, v, kd, md, rfl, hd, k2, fun D H1 hD s1 M => ?_⟩
  refine ⟨_, rfl, v, kd, _, rfl, hd.mono s1, k1, fun ns H2 hns s2 e2 => ?_⟩
  have s12 := s1.trans s2
  refine ⟨_, rfl, _, rfl, by show 2 ≤ sizeLine; rw [sizeLine_eq]; decide, fun t0 ht0 => ?_⟩
  refine ⟨by show 1 ≤ sizeLine; rw [sizeLine_eq]; decide, fun a ha => ?_⟩
  have s3 : Same H2 (upd H2 t0 (.tup [.str x, u])) := same_new ht0 _
  have s03 : Same H (upd H2 t0 (.tup [.str x, u])) := s12.trans s3
  have ha0 : H a = none := s03.free ha
  have M3 : MbN (upd H2 t0 (.tup [.str x, u])) D md := M.mono (s2.trans s3)
  have ns3 := s3 _ _ e2
  have et0 : upd H2 t0 (.tup [.str x, u]) t0 = some (.tup [.str x, u]) := upd_same
  generalize upd H2 t0 (.tup [.str x, u]) = H3 at s3 s03 M3 ns3 et0 ha ⊢
  refine ⟨fun m σ H4 => ∃ n6 n7 ws qs, σ = [some v, some (.str x), some u, some (.ref D), some (.ref ns), some (.ref a), n6, n7] ∧ m = muP qs ∧ Same H3 H4 ∧ H4 a = some (.lst ws) ∧ PL H H4 ws qs ∧ muP qs ≤ 1000000 ∧ (tmB kd md d x = true ↔ ∀ q ∈ qs, tmB kd md q.2 q.1 = true),
    ⟨_, _, _, _, [(x, d)], rfl, rfl, same_new ha _, upd_same, .cons (same_new ha _ _ _ et0) hu .nil, by show psz d + 0 ≤ _; omega, by simp⟩, ?_⟩
  rintro m σ H4 ⟨n6, n7, ws, qs, rfl, rfl, s4, ea, W, lq, iff⟩
  refine ⟨_, rfl, _, .inl ⟨_, SqL.of ea, rfl⟩, ?_⟩
  by_cases eq : qs = []
  · subst eq
    cases W
    refine iteF ?_
    have q := k H4 (s03.trans s4)
    rw [iff.mpr fun q hq => by cases hq] at q
    exact q
  obtain ⟨ws', t, qs', kk, y, dd, rfl, rfl, W', et, hdd⟩ := W.last eq
  have eT : (!(ws' ++ [V.ref t]).isEmpty) = true := by cases ws' <;> rfl
  rw [eT]
  refine iteT ⟨fun σ' H' => ∃ m', m' < muP (qs' ++ [(kk, dd)]) ∧ ∃ n6 n7 ws qs, σ' = [some v, some (.str x), some u, some (.ref D), some (.ref ns), some (.ref a), n6, n7] ∧ m' = muP qs ∧ Same H3 H' ∧ H' a = some (.lst ws) ∧ PL H H' ws qs ∧ muP qs ≤ 1000000 ∧ (tmB kd md d x = true ↔ ∀ q ∈ qs, tmB kd md q.2 q.1 = true), fun _ _ z => z, ?_⟩
  refine ⟨_, rfl, .inl ⟨rfl, _, SqL.of ea⟩, a, _, .ref t, rfl, rfl, ea, (map_last rfl).1, ?_⟩
  rw [(map_last (xs := ws') rfl).2]
  have s5 : Same H3 (upd H4 a (.lst ws')) := same_put s4 ha
  have et5 : upd H4 a (.lst ws') t = some (.tup [.str kk, y]) := tup_put ea et
  have W5 : PL H (upd H4 a (.lst ws')) ws' qs' := W'.mono fun b xs e => tup_put ea e
  have ea5 : upd H4 a (.lst ws') a = some (.lst ws') := upd_same
  generalize upd H4 a (.lst ws') = H5 at s5 et5 W5 ea5 ⊢
  have s05 := s03.trans s5
  have mq : muP (qs' ++ [(kk, dd)]) = muP qs' + psz dd := by rw [muP_app]; rfl
  have pd := psz_pos dd
  refine ⟨t, _, rfl, SqT.of et5, rfl, _, _, rfl, _, _, rfl, rfl, ?_⟩
  dsimp only
  show tAnd _ _ _ _ _
  refine tAnd_val (S0 kd kk) (strangerB kk dd) (fun K' kk1 => ?_) (fun _ H6 s6 K' kk1 => ?_) (fun H6 s6 => ?_)
  · refine ⟨_, rfl, _, rfl, ns, _, rfl, .inl (SqL.of (s5 _ _ ns3)), rfl, flat_strs' _, _, rfl, ?_⟩
    have q := kk1 H5 (Same.refl H5)
    rw [← openN_mem] at q
    rw [inV_strs]
    exact q
  · exact ⟨_, rfl, _, rfl, y, dd, kk, rfl, hdd.mono (s05.trans s6), fun H7 s7 => ⟨_, rfl, kk1 H7 s7⟩⟩
  have s36 := s5.trans s6
  have s06 := s03.trans s36
  have W6 : PL H H6 ws' qs' := W5.mono fun b xs e => s6 _ _ e
  have ea6 := s6 _ _ ea5
  cases c : (S0 kd kk && strangerB kk dd) with
  | true =>
    refine iteT ⟨muP qs', by omega, _, _, ws', qs', rfl, rfl, s36, ea6, W6, by omega, iff.trans ⟨fun g q hq => g q (List.mem_append_left _ hq), fun g q hq => ?_⟩⟩
    rcases List.mem_append.mp hq with hq | hq
    · exact g q hq
    · rw [List.mem_singleton] at hq
      subst hq
      exact tmB_strange c
  | false =>
  refine iteF ⟨_, rfl, _, rfl, _, rfl, D, md, kk, y, dd, rfl, M3.mono s36, l24, n3, hdd.mono s06, fun H7 s7 => ⟨_, rfl, ?_⟩⟩
  have s37 := s36.trans s7
  have s07 := s06.trans s7
  have W7 : PL H H7 ws' qs' := W6.mono fun b xs e => s7 _ _ e
  have ea7 := s7 _ _ ea6
  cases em : madeB md kk dd with
  | none =>
    refine iteT ?_
    have q := k H7 s07
    rw [show tmB kd md d x = false from ?_] at q
    · exact q
    · cases e : tmB kd md d x with
      | false => rfl
      | true =>
        have z := iff.mp e (kk, dd) (by simp)
        rw [tmB_not em c] at z
        cases z
  | some nps =>
  obtain ⟨nn, ps⟩ := nps
  obtain ⟨hps, tall, psz2⟩ := tmB_made em c
  obtain ⟨h0, m, rfl, fm, rfl, ek, _⟩ := madeB_some em
  obtain ⟨tp, xs, rfl, etp0, A⟩ := hdd.tupD
  have etp := s07 _ _ etp0
  cases A with
  | @cons v0 xs0 _ _ hv0 A0 =>
  cases hv0
  obtain ⟨mm, rfl⟩ := findM_mem fm
  obtain ⟨L, eD, aD⟩ := M3.mono s37
  obtain ⟨na, g1, g2⟩ := aD m mm
  have dg := DGet.k (k := Sum.inr (nameOf m)) eD
  rw [findM_val, fm] at dg
  refine iteF ⟨_, rfl, .inl ⟨rfl, _, SqL.of ea7⟩, ?_⟩
  refine ⟨_, rfl, _, rfl, tp, _, 0, _, rfl, rfl, SqT.of etp, atI_nat (j := 0) rfl, ?_⟩
  refine ⟨D, _, rfl, dg, ?_⟩
  refine ⟨L (nameOf m), _, 0, _, rfl, rfl, SqT.of g1, rfl, ?_⟩
  refine ⟨_, rfl, ?_⟩
  refine ⟨_, rfl, ?_⟩
  dsimp only [tNoPart]
  refine slA_tail etp fun c H8 s8 ec => ?_
  refine ⟨na, c, (needsOf m).map V.str, xs0, rfl, .inr (SqT.of (s8 _ _ g2)), .inr (SqT.of ec), fun H9 lp ts kp nlp nts nin lts elp ets => ?_⟩
  have s9 : Same H8 H9 := kp
  have s79 := s8.trans s9
  have ea9 := s79 _ _ ea7
  have lA := A0.length
  have mz := muP_zip hps
  have lws := W7.len
  have lqs := muP_len qs'
  have lns := n3 m mm
  rw [List.length_map] at lts
  have nw : PL H H9 (ts.map V.ref) ((needsOf m).zip ps) := PL.of_zip A0 lts (by omega) ets
  refine ⟨a, lp, ws', _, rfl, rfl, ea9, elp, by rw [List.length_map, sizeLine_eq]; omega, ?_⟩
  refine ⟨muP (qs' ++ (needsOf m).zip ps), by rw [muP_app]; omega, _, _, ws' ++ ts.map V.ref, qs' ++ (needsOf m).zip ps, rfl, rfl, same_put (s37.trans s79) ha, upd_same, ((W7.mono fun b xs e => s79 _ _ e).app nw).mono fun b xs e => tup_put ea9 e, by rw [muP_app]; omega, iff.trans ⟨fun g q hq => ?_, fun g q hq => ?_⟩⟩
  · rcases List.mem_append.mp hq with hq | hq
    · exact g q (List.mem_append_left _ hq)
    · have z := g (kk, _) (List.mem_append_right _ (List.mem_singleton_self _))
      rw [tall] at z
      exact List.all_eq_true.mp z q hq
  · rcases List.mem_append.mp hq with hq | hq
    · exact g q (List.mem_append_left _ hq)
    · rw [List.mem_singleton] at hq
      subst hq
      rw [tall]
      exact List.all_eq_true.mpr fun q hq => g q (List.mem_append_right _ hq)

end

/-! ### patterns -/
mutual
/-- a pattern of a kind: its variables, each with its kind, if it is one -/
def pkB (md : List PyData) : PyData → Str → Option (List (Str × Str))
  | .tuple ds, x => match variableB (.tuple ds) with
    | true => some [(nameOf (.tuple (ds.drop 1)), x)]
    | false => pkH md ds x
  | _, _ => none
def pkH (md : List PyData) : List PyData → Str → Option (List (Str × Str))
  | .str h :: ps, x => match findM md h with
    | some m => if kindOf m = x then pkL md ps (needsOf m) else none
    | none => none
  | _, _ => none
def pkL (md : List PyData) : List PyData → List Str → Option (List (Str × Str))
  | [], [] => some []
  | d :: ds, n :: ns => match pkB md d n, pkL md ds ns with
    | some a, some b => some (a ++ b)
    | _, _ => none
  | _, _ => none
end
theorem pkL_len {md : List PyData} : ∀ {ps : List PyData} {ns : List Str} {ls : List (Str × Str)}, pkL md ps ns = some ls → ps.length = ns.length
  | [], [], _, _ => rfl
  | d :: ds, n :: ns, ls, h => by
    rw [pkL] at h
    cases e1 : pkB md d n with
    | none => rw [e1] at h; cases h
    | some a =>
      cases e2 : pkL md ds ns with
      | none => rw [e1, e2] at h; cases h
      | some b => exact congrArg Nat.succ (pkL_len e2)
  | [], _ :: _, _, h => by rw [pkL] at h; cases h; all_goals (intros; simp_all)
  | _ :: _, [], _, h => by rw [pkL] at h; cases h; all_goals (intros; simp_all)
/-- all of these are patterns -/
def OkP (md : List PyData) (qs : List (Str × PyData)) : Prop := ∀ q ∈ qs, ∃ ls, pkB md q.2 q.1 = some ls
/-- a variable of one of these, with its kind -/
def OccP (md : List PyData) (qs : List (Str × PyData)) (p : Str × Str) : Prop := ∃ q ∈ qs, ∃ ls, pkB md q.2 q.1 = some ls ∧ p ∈ ls
theorem pkL_iff {md : List PyData} : ∀ {ps : List PyData} {ns : List Str}, ps.length = ns.length → ((∃ ls, pkL md ps ns = some ls) ↔ OkP md (ns.zip ps))
  | [], [], _ => ⟨fun _ q hq => (by cases hq), fun _ => ⟨[], by rw [pkL]⟩⟩
  | d :: ds, n :: ns, h => by
    have ih := pkL_iff (md := md) (ps := ds) (ns := ns) (by simpa using h)
    rw [pkL]
    constructor
    · rintro ⟨ls, e⟩
      cases e1 : pkB md d n with
      | none => rw [e1] at e; cases e
      | some a =>
        cases e2 : pkL md ds ns with
        | none => rw [e1, e2] at e; cases e
        | some b =>
          intro q hq
          rcases List.mem_cons.mp hq with z | z
          · subst z; exact ⟨a, e1⟩
          · exact ih.mp ⟨b, e2⟩ q z
    · intro g
      obtain ⟨a, e1⟩ := g (n, d) (List.mem_cons_self ..)
      obtain ⟨b, e2⟩ := ih.mpr fun q hq => g q (List.mem_cons_of_mem _ hq)
      have e1 : pkB md d n = some a := e1
      rw [e1, e2]
      exact ⟨_, rfl⟩
  | [], _ :: _, h => by cases h
  | _ :: _, [], h => by cases h
theorem pkL_occ {md : List PyData} {p : Str × Str} : ∀ {ps : List PyData} {ns : List Str} {ls : List (Str × Str)}, pkL md ps ns = some ls → (p ∈ ls ↔ OccP md (ns.zip ps) p)
  | [], [], ls, h => by
    rw [pkL] at h
    cases h
    exact ⟨fun z => (by cases z), fun ⟨q, hq, _⟩ => (by cases hq)⟩
  | d :: ds, n :: ns, ls, h => by
    rw [pkL] at h
    cases e1 : pkB md d n with
    | none => rw [e1] at h; cases h
    | some a =>
      cases e2 : pkL md ds ns with
      | none => rw [e1, e2] at h; cases h
      | some b =>
        rw [e1, e2] at h
        cases h
        rw [List.mem_append]
        have ih := pkL_occ (p := p) e2
        constructor
        · rintro (z | z)
          · exact ⟨(n, d), List.mem_cons_self .., a, e1, z⟩
          · obtain ⟨q, hq, r⟩ := ih.mp z
            exact ⟨q, List.mem_cons_of_mem _ hq, r⟩
        · rintro ⟨q, hq, ls, e3, z⟩
          rcases List.mem_cons.mp hq with c | c
          · subst c
            have e3 : pkB md d n = some ls := e3
            rw [e1] at e3
            cases e3
            exact .inl z
          · exact .inr (ih.mpr ⟨q, c, ls, e3, z⟩)
  | [], _ :: _, _, h => by rw [pkL] at h; cases h; all_goals (intros; simp_all)
  | _ :: _, [], _, h => by rw [pkL] at h; cases h; all_goals (intros; simp_all)
/-- one kind for each name -/
def FunP (S : Str × Str → Prop) : Prop := ∀ p q, S p → S q → p.1 = q.1 → p.2 = q.2
def GP (md : List PyData) (seen : List (Str × Str)) (qs : List (Str × PyData)) : Prop := OkP md qs ∧ FunP fun p => p ∈ seen ∨ OccP md qs p
theorem OkP.app {md : List PyData} {a b : List (Str × PyData)} : OkP md (a ++ b) ↔ OkP md a ∧ OkP md b :=
  ⟨fun h => ⟨fun q hq => h q (List.mem_append_left _ hq), fun q hq => h q (List.mem_append_right _ hq)⟩, fun h q hq => (List.mem_append.mp hq).elim (h.1 q) (h.2 q)⟩
theorem OccP.app {md : List PyData} {a b : List (Str × PyData)} {p : Str × Str} : OccP md (a ++ b) p ↔ OccP md a p ∨ OccP md b p :=
  ⟨fun ⟨q, hq, r⟩ => (List.mem_append.mp hq).elim (fun z => .inl ⟨q, z, r⟩) fun z => .inr ⟨q, z, r⟩, fun h => h.elim (fun ⟨q, hq, r⟩ => ⟨q, List.mem_append_left _ hq, r⟩) fun ⟨q, hq, r⟩ => ⟨q, List.mem_append_right _ hq, r⟩⟩
theorem FunP.congr {S T : Str × Str → Prop} (h : ∀ p, S p ↔ T p) : FunP S ↔ FunP T := ⟨fun f p q a b => f p q ((h p).mpr a) ((h q).mpr b), fun f p q a b => f p q ((h p).mp a) ((h q).mp b)⟩
theorem pkB_var {md : List PyData} {n x : Str} (h : nameS n = true) : pkB md (.tuple [.str "?", .str n]) x = some [(n, x)] := by
  rw [pkB, show variableB (.tuple [.str "?", .str n]) = true from ?_]
  · rfl
  · show (decide (("?" : Str) = "?") && nameS n) = true
    rw [h]; decide
theorem variableB_some {d : PyData} (h : variableB d = true) : ∃ n, d = .tuple [.str "?", .str n] ∧ nameS n = true := by
  unfold variableB at h
  split at h
  · rename_i h0 n
    rw [Bool.and_eq_true, decide_eq_true_iff] at h
    obtain ⟨rfl, h⟩ := h
    exact ⟨n, rfl, h⟩
  · cases h
theorem GP_var {md : List PyData} {seen : List (Str × Str)} {qs : List (Str × PyData)} {d : PyData} {x n : Str} (h : pkB md d x = some [(n, x)]) : GP md seen (qs ++ [(x, d)]) ↔ GP md ((n, x) :: seen) qs := by
  have o : ∀ p, OccP md [(x, d)] p ↔ p = (n, x) := fun p => ⟨fun ⟨q, hq, ls, e, z⟩ => (by
    rw [List.mem_singleton] at hq
    subst hq
    have e : pkB md d x = some ls := e
    rw [h] at e
    cases e
    exact List.mem_singleton.mp z), fun z => ⟨(x, d), List.mem_singleton_self _, _, h, List.mem_singleton.mpr z⟩⟩
  unfold GP
  rw [OkP.app]
  have ok : OkP md [(x, d)] := fun q hq => by rw [List.mem_singleton] at hq; subst hq; exact ⟨_, h⟩
  refine and_congr ⟨fun z => z.1, fun z => ⟨z, ok⟩⟩ (FunP.congr fun p => ?_)
  rw [OccP.app, o p, List.mem_cons]
  constructor
  · rintro (z | z | z)
    · exact .inl (.inr z)
    · exact .inr z
    · exact .inl (.inl z)
  · rintro ((z | z) | z)
    · exact .inr (.inr z)
    · exact .inl z
    · exact .inr (.inl z)
theorem pkB_made {md : List PyData} {d : PyData} {x : Str} {ns : List Str} {ps : List PyData} (h : madeB md x d = some (ns, ps)) (n : variableB d = false) : pkB md d x = pkL md ps ns ∧ ps.length = ns.length := by
  obtain ⟨h0, m, rfl, fm, rfl, ek, l⟩ := madeB_some h
  refine ⟨?_, l⟩
  rw [pkB, n]
  show pkH md (.str h0 :: ps) x = _
  rw [pkH, fm]
  show (if kindOf m = x then _ else _) = _
  rw [if_pos ek]
theorem GP_made {md : List PyData} {seen : List (Str × Str)} {qs : List (Str × PyData)} {d : PyData} {x : Str} {ns : List Str} {ps : List PyData} (h : madeB md x d = some (ns, ps)) (n : variableB d = false) : GP md seen (qs ++ [(x, d)]) ↔ GP md seen (qs ++ ns.zip ps) := by
  obtain ⟨e, l⟩ := pkB_made h n
  have ok : OkP md [(x, d)] ↔ OkP md (ns.zip ps) := by
    rw [← pkL_iff l, ← e]
    exact ⟨fun z => z (x, d) (List.mem_singleton_self _), fun z q hq => by rw [List.mem_singleton] at hq; subst hq; exact z⟩
  unfold GP
  rw [OkP.app, OkP.app, ok]
  refine and_congr_right fun g => FunP.congr fun p => ?_
  rw [OccP.app, OccP.app]
  refine or_congr Iff.rfl (or_congr Iff.rfl ?_)
  obtain ⟨ls, e2⟩ := (pkL_iff l).mpr g.2
  rw [← pkL_occ e2]
  constructor
  · rintro ⟨q, hq, ls', e3, z⟩
    rw [List.mem_singleton] at hq
    subst hq
    have e3 : pkB md d x = some ls' := e3
    rw [e, e2] at e3
    cases e3
    exact z
  · exact fun z => ⟨(x, d), List.mem_singleton_self _, ls, e.trans e2, z⟩
theorem pkB_not {md : List PyData} {d : PyData} {x : Str} (h : madeB md x d = none) (n : variableB d = false) : pkB md d x = none := by
  cases d with
  | tuple ds =>
    rw [pkB, n]
    show pkH md ds x = none
    cases ds with
    | nil => rfl
    | cons a ps =>
      cases a with
      | str h0 =>
        rw [pkH]
        cases fm : findM md h0 with
        | none => rfl
        | some m =>
          show (if kindOf m = x then pkL md ps (needsOf m) else none) = none
          by_cases c : kindOf m = x
          · rw [if_pos c]
            cases e : pkL md ps (needsOf m) with
            | none => rfl
            | some ls =>
              have l := pkL_len e
              have h : (findM md h0).bind _ = none := h
              rw [fm] at h
              have h : (if kindOf m = x ∧ ps.length = (needsOf m).length then some (needsOf m, ps) else none) = none := h
              rw [if_pos ⟨c, l⟩] at h
              cases h
          · rw [if_neg c]
      | _ => rfl
  | _ => rfl
/-- are patterns of these kinds -/
def funB (ls : List (Str × Str)) : Bool := ls.all fun p => ls.all fun q => decide (p.1 = q.1 → p.2 = q.2)
theorem funB_iff {ls : List (Str × Str)} : funB ls = true ↔ FunP (· ∈ ls) := by
  unfold funB FunP
  rw [List.all_eq_true]
  constructor
  · intro h p q hp hq
    have := List.all_eq_true.mp (h p hp) q hq
    exact of_decide_eq_true this
  · exact fun h p hp => List.all_eq_true.mpr fun q hq => decide_eq_true (h p q hp hq)
def patsB (md : List PyData) (ks : List Str) (d : PyData) : Bool := match d with
  | .tuple ps => match pkL md ps ks with | some ls => funB ls | none => false
  | _ => false
theorem patsB_iff {md : List PyData} {ks : List Str} {ps : List PyData} (l : ps.length = ks.length) : patsB md ks (.tuple ps) = true ↔ GP md [] (ks.zip ps) := by
  show (match pkL md ps ks with | some ls => funB ls | none => false) = true ↔ _
  unfold GP
  rw [← pkL_iff l]
  cases e : pkL md ps ks with
  | none => exact ⟨fun z => (by cases z), fun z => (by obtain ⟨⟨ls, z⟩, _⟩ := z; cases z)⟩
  | some ls =>
    show funB ls = true ↔ _
    rw [funB_iff]
    have c : FunP (· ∈ ls) ↔ FunP fun p => p ∈ [] ∨ OccP md (ks.zip ps) p := FunP.congr fun p => by rw [pkL_occ e]; exact ⟨.inr, fun z => z.elim (fun z => by cases z) id⟩
    rw [c]
    exact ⟨fun z => ⟨⟨ls, rfl⟩, z⟩, fun z => z.2⟩
theorem patsB_len {md : List PyData} {ks : List Str} {ps : List PyData} (l : ps.length ≠ ks.length) : patsB md ks (.tuple ps) = false := by
  show (match pkL md ps ks with | some ls => funB ls | none => false) = false
  cases e : pkL md ps ks with
  | none => rfl
  | some ls => exact absurd (pkL_len e) l

section
variable {P : Program} {w : World} {K : PySem.W.Frag} {mg : Str → Option Value} {base : Heap}

/-- is_term(signature, kind, value), of a signature and a kind of it -/
def spIsTerm : Sp := fun vs H Q _ => ∃ (v u : V) (kd md : List PyData) (x : Str) (d : PyData), vs = [v, .str x, u] ∧ Dd H v (.tuple [.tuple kd, .tuple md]) ∧ okT (.tuple [.tuple kd, .tuple md]) = true ∧ sigB (.tuple [.tuple kd, .tuple md]) = true ∧ x ∈ kd.map nameOf ∧ Dd H u d ∧ psz d ≤ 1000000 ∧
  ∀ H', Same H H' → Q (.bl (tmB kd md d x)) H'
theorem sc_is_term : FnScope ["signature", "kind", "value"] ["signature", "kind", "value"] (defScope s_is_term) := ⟨rfl, rfl, rfl, by decide +kernel, rfl, by decide +kernel, by decide +kernel⟩
theorem okF_is_term {f : Addr} {fd : FuncData} (F : Fun K "is_term" "is_term" s_is_term f fd)  (G1 : Gd P w K mg base CX0 5 "check_signature" ["signature"] spCheckSig) (G2 : Gd P w K mg base CX0 2 "check_kind" ["signature", "kind"] spCheckKind) (G3 : Gd P w K mg base CX0 3 "is_closed_term" ["signature", "kind", "value"] spClosed) : Fn P w K mg base CX0 6 f fd ["signature", "kind", "value"] spIsTerm := by
  refine fun_q F sc_is_term (fun vs H Q E h => by obtain ⟨v, u, kd, md, x, d, rfl, _⟩ := h; rfl) (fun cdv A outer s H vs Q E hr hq h => ?_)
  obtain ⟨v, u, kd, md, x, d, rfl, hd, ok, sg, hx, hu, lz, k⟩ := h
  obtain ⟨kd', md', e, ek, em, _⟩ := sigB_of sg
  cases e
  refine ⟨_, (pss_cons (ps_expr (pe_g G1 hr hq (pa_cons (pv 0) pa_nil)))
      (pss_cons (ps_expr (pe_g (G2.mono (by decide)) hr hq (pa_cons (pv 0) (pa_cons (pv 1) pa_nil))))
      (pss_one (ps_ret (pe_g (G3.mono (by decide)) hr hq (pa_cons (pv 0) (pa_cons (pv 1) (pa_cons (pv 2) pa_nil)))))))), ?_⟩
  walk_at "rd"
  refine ⟨v, _, rfl, hd, ok, sg, fun H1 s1 => ?_⟩
  walk_at "rd"
  refine ⟨v, kd, _, x, rfl, hd.mono s1, ek, hx, fun H2 s2 => ?_⟩
  have s12 := s1.trans s2
  exact ⟨_, rfl, _, rfl, _, rfl, v, u, kd, md, x, d, rfl, hd.mono s12, ek, em, hu.mono s12, lz, fun H3 s3 => k H3 (s12.trans s3)⟩
theorem ok_is_term (D : Df K mg "is_term" s_is_term) (G1 : Gd P w K mg base CX0 5 "check_signature" ["signature"] spCheckSig) (G2 : Gd P w K mg base CX0 2 "check_kind" ["signature", "kind"] spCheckKind) (G3 : Gd P w K mg base CX0 3 "is_closed_term" ["signature", "kind", "value"] spClosed) : Gd P w K mg base CX0 6 "is_term" ["signature", "kind", "value"] spIsTerm := gd_of D (fun _ _ _ _ _ _ us hl => match us, hl with | [_, _, _], _ => rfl) fun _ _ F => okF_is_term F G1 G2 G3

end

section
variable {P : Program} {w : World} {K : PySem.W.Frag} {mg : Str → Option Value} {base : Heap}

/-- check_kinds(signature, kinds), one to four of its kinds -/
def spCheckKinds : Sp := fun vs H Q _ => ∃ (v u : V) (kd : List PyData) (m : PyData) (ks : List Str), vs = [v, u] ∧ Dd H v (.tuple [.tuple kd, m]) ∧ kindsB (.tuple kd) = true ∧ Dd H u (.tuple (ks.map PyData.str)) ∧ 1 ≤ ks.length ∧ ks.length ≤ 4 ∧ (∀ x ∈ ks, x ∈ kd.map nameOf) ∧ ∀ H', Same H H' → Q .non H'
theorem sc_check_kinds : FnScope ["signature", "kinds", "names", "kind"] ["signature", "kinds"] (defScope s_check_kinds) := ⟨rfl, rfl, rfl, by decide +kernel, rfl, by decide +kernel, by decide +kernel⟩
theorem ok_check_kinds (D : Df K mg "check_kinds" s_check_kinds) (B : Bi mg) (G1 : Gd P w K mg base CX0 1 "kind_names" ["signature"] spNames) (G2 : Gd P w K mg base CX0 1 "is_tuple" ["value", "least", "most"] spTup) (G3 : Gd P w K mg base CX0 1 "is_among" ["value", "texts"] (spAmong K)) (C : Cn mg) : Gd P w K mg base CX0 2 "check_kinds" ["signature", "kinds"] spCheckKinds := by
  refine gd_of D (fun _ _ _ _ _ _ us hl => match us, hl with | [_, _], _ => rfl) fun f fd F => ?_
  refine fun_q F sc_check_kinds (fun vs H Q E h => by obtain ⟨v, u, kd, m, ks, rfl, _⟩ := h; rfl) (fun cdv A outer s H vs Q E hr hq h => ?_)
  obtain ⟨v, u, kd, m, ks, rfl, hd, ek, hu, l1, l4, hk, k⟩ := h
  refine ⟨_, (pss_cons (ps_set (i := 2) sc_check_kinds.nd rfl (Or.inr rfl) (pe_g G1 hr hq (pa_cons (pv 0) pa_nil)))
      (pss_one (ps_if (PW.pt (pw_or (pt_not (pt_val (pe_g G2 hr hq (pa_cons (pv 1) (pa_cons pe_int (pa_cons (pe_cn (by rfl) C.MOST_PLACES) pa_nil)))))) (pw_or1 (pt_not (pt_val (pe_callB (cr_all rfl) (by rfl) B.all (by decide +kernel) (pa_cons (pe_lc (own := [("kind", 3)]) (g := (gName 3)) (tt := tYes) rfl sc_check_kinds.nd (pi_tup (pv 1)) (blkOk_by (own := [("kind", 3)]) (N := ["signature", "kinds", "names", "kind"]) (sc := defScope s_check_kinds) (by decide +kernel)) (fun _ _ _ _ _ => (pg_name (i := 3) sc_check_kinds.nd rfl (Or.inl rfl))) (fun _ _ _ _ _ => pts_nil) (fun _ _ _ _ _ => (pe_g G3 hr hq (pa_cons (pv 3) (pa_cons (pv 2) pa_nil))))) pa_nil))))))) (pss_one ps_never) pss_nil))), ?_⟩
  walk_at "rd"
  refine ⟨v, kd, m, rfl, hd, ek, fun ns H1 hns s1 e1 => ?_⟩
  walk_at "rd"
  refine ⟨u, _, 1, 4, rfl, hu.mono s1, fun H2 s2 => ⟨_, rfl, ?_⟩⟩
  have s12 := s1.trans s2
  rw [show isTupB (.tuple (ks.map PyData.str)) 1 4 = true from ?tup]
  case tup =>
    show (decide ((1 : Int) ≤ (ks.map PyData.str).length) && decide (((ks.map PyData.str).length : Int) ≤ 4)) = true
    rw [List.length_map, decide_eq_true (by omega), decide_eq_true (by omega)]
    rfl
  refine iteF ?_
  obtain ⟨r, xs, rfl, hr', A⟩ := hu.tupD
  obtain rfl := A.strs
  walk_at "rd"
  refine ⟨⟨_, SqT.of (s12 _ _ hr')⟩, fun D hD => ?_⟩
  refine lc_vals walk_tup (fun _ => some (V.bl true)) hD (by rw [List.length_map, sizeLine_eq]; omega) (fun H s => SqT.of (s _ _ (s12 _ _ hr'))) (fun i y H4 H5 K1 K0 hi s4 hy k1 k0 => ?_) (fun H4 s4 e4 => ?_)
  · obtain ⟨rfl, ey⟩ := hy
    rw [List.getElem?_map] at ey
    obtain ⟨x, ex, rfl⟩ := Option.map_eq_some_iff.mp ey
    refine ⟨rfl, ?_⟩
    walk_at "rd"
    refine ⟨.str x, .str x, ns, _, rfl, .str x, .inl (SqL.of (s4 _ _ (s2 _ _ e1))), fun H6 s6 => k1 _ _ ?_ s6⟩
    rw [show isAmongB (.str x) (kd.map nameOf) = true from decide_eq_true (hk x (List.mem_of_getElem? ex))]
  · have e5 : ((List.range (ks.map V.str).length).filterMap fun _ => some (V.bl true)) = (List.replicate ks.length true).map V.bl := by
      rw [List.length_map]
      have : ∀ n, ((List.range n).filterMap fun _ => some (V.bl true)) = List.replicate n (V.bl true) := fun n => by
        induction n with
        | zero => rfl
        | succ n ih => rw [List.range_succ, List.filterMap_append, ih, List.replicate_succ']; rfl
      rw [this, List.map_replicate]
    rw [e5] at e4
    walk_at "rd"
    refine ⟨D, _, rfl, SqL.of e4, ?_⟩
    refine ⟨_, rfl, ?_⟩
    rw [show ((List.replicate ks.length true).all id) = true from List.all_eq_true.mpr fun b hb => by rw [List.eq_of_mem_replicate hb]; rfl]
    refine iteF ?_
    exact k H4 (s12.trans s4)

end

/-- the names met so far, each with its kind, in a dict -/
structure KF (kvs : List (Key × V)) (seen : List (Str × Str)) : Prop where
  at_ : ∀ p ∈ seen, valV kvs (Sum.inr p.1) = some (.str p.2)
  of_ : ∀ (n : Str) (v : V), valV kvs (Sum.inr n) = some v → ∃ k, v = .str k ∧ (n, k) ∈ seen
  len : kvs.length ≤ seen.length
theorem KF.nil : KF [] [] := ⟨fun p hp => (by cases hp), fun n v h => (by cases h), Nat.le_refl _⟩
theorem valV_app {kvs : List (Key × V)} {k j : Key} {v : V} : valV (kvs ++ [(k, v)]) j = match valV kvs j with | some z => some z | none => if k = j then some v else none := by
  induction kvs with
  | nil =>
    by_cases c : k = j
    · rw [List.nil_append, valV_pos c, valV_nil]; simp [c]
    · rw [List.nil_append, valV_neg c, valV_nil]; simp [c]
  | cons p r ih =>
    by_cases c : p.1 = j
    · rw [List.cons_append, valV_pos c, valV_pos c]
    · rw [List.cons_append, valV_neg c, valV_neg c, ih]
theorem put_none {kvs : List (Key × V)} {k : Key} {v : V} (h : valV kvs k = none) : putK kvs k v = kvs ++ [(k, v)] := put_new fun p hp e => by
  have := valV_any k kvs
  rw [h] at this
  have z : (kvs.any fun kv => decide (kv.1 = k)) = true := List.any_eq_true.mpr ⟨p, hp, decide_eq_true e⟩
  rw [z] at this
  cases this
theorem KF.put {kvs : List (Key × V)} {seen : List (Str × Str)} {n k : Str} (F : KF kvs seen) (h : valV kvs (Sum.inr n) = none) : KF (putK kvs (Sum.inr n) (.str k)) ((n, k) :: seen) := by
  rw [put_none h]
  refine ⟨fun p hp => ?_, fun m v e => ?_, by rw [List.length_append, List.length_cons]; have := F.len; simp; omega⟩
  · rw [valV_app]
    rcases List.mem_cons.mp hp with z | z
    · subst z
      rw [h]
      exact if_pos rfl
    · rw [F.at_ p z]
  · rw [valV_app] at e
    cases c : valV kvs (Sum.inr m) with
    | some z =>
      rw [c] at e
      cases e
      obtain ⟨k', e1, e2⟩ := F.of_ m v c
      exact ⟨k', e1, List.mem_cons_of_mem _ e2⟩
    | none =>
      rw [c] at e
      dsimp only at e
      split at e
      · rename_i c2
        cases e
        cases c2
        exact ⟨k, rfl, List.mem_cons_self ..⟩
      · cases e
theorem KF.more {kvs : List (Key × V)} {seen : List (Str × Str)} {n k : Str} (F : KF kvs seen) (h : valV kvs (Sum.inr n) = some (.str k)) : KF kvs ((n, k) :: seen) :=
  ⟨fun p hp => (List.mem_cons.mp hp).elim (fun z => z ▸ h) (F.at_ p), fun m v e => let ⟨k', e1, e2⟩ := F.of_ m v e; ⟨k', e1, List.mem_cons_of_mem _ e2⟩, by rw [List.length_cons]; have := F.len; omega⟩
theorem KF.new {kvs : List (Key × V)} {seen : List (Str × Str)} {n k k2 : Str} (F : KF kvs seen) (h : valV kvs (Sum.inr n) = some (.str k2)) (c : k2 ≠ k) : (n, k2) ∈ seen ∧ (n, k) ∉ seen := by
  obtain ⟨k', e1, e2⟩ := F.of_ n _ h
  cases e1
  refine ⟨e2, fun z => c ?_⟩
  have := F.at_ (n, k) z
  rw [h] at this
  cases this
  rfl
theorem dict_put {H : Hp} {f b : Addr} {kvs kvs2 : List (Key × V)} {xs : List V} (e : H f = some (.dK kvs)) (q : H b = some (.tup xs)) : upd H f (.dK kvs2) b = some (.tup xs) := by
  rw [upd_ne (fun z => by rw [z, e] at q; cases q)]
  exact q

section
variable {P : Program} {w : World} {K : PySem.W.Frag} {mg : Str → Option Value} {base : Heap}

def spRight : Sp := fun vs H Q _ => ∃ (v z u : V) (kd md : List PyData) (ks : List Str) (d : PyData), vs = [v, z, u] ∧ Dd H v (.tuple [.tuple kd, .tuple md]) ∧ kindsB (.tuple kd) = true ∧ makersB (kd.map nameOf) (.tuple md) = true ∧ Dd H z (.tuple (ks.map PyData.str)) ∧ ks.length ≤ 4 ∧ Dd H u d ∧ okT d = true ∧ psz d ≤ 1000000 ∧
  ∀ H', Same H H' → Q (.bl (patsB md ks d)) H'
theorem sc_are_right_patterns : FnScope ["signature", "kinds", "value", "makers", "kinds_found", "waiting", "kind", "part"] ["signature", "kinds", "value"] (defScope s_are_right_patterns) := ⟨rfl, rfl, rfl, by decide +kernel, rfl, by decide +kernel, by decide +kernel⟩
theorem ok_are_right_patterns (D : Df K mg "are_right_patterns" s_are_right_patterns) (B : Bi mg) (Bz : mg "zip" = none) (G0 : Gd P w K mg base CX0 1 "is_tuple" ["value", "least", "most"] spTup) (G1 : Gd P w K mg base CX0 1 "makers_by_name" ["signature"] spMbN) (G3 : Gd P w K mg base CX0 2 "is_variable" ["value"] spVariable) (G4 : Gd P w K mg base CX0 2 "is_made" ["makers", "kind", "value"] spMade) : Gd P w K mg base CX0 3 "are_right_patterns" ["signature", "kinds", "value"] spRight := by
  refine gd_of D (fun _ _ _ _ _ _ us hl => match us, hl with | [_, _, _], _ => rfl) fun f fd F => ?_
  refine fun_q F sc_are_right_patterns (fun vs H Q E h => by obtain ⟨v, z, u, kd, md, ks, d, rfl, _⟩ := h; rfl) (fun cdv A outer s H vs Q E hr hq h => ?_)
  obtain ⟨v, z, u, kd, md, ks, d, rfl, hd, k1, k2, hz, lk, hu, okd, lz, k⟩ := h
  have hu3 : Room 2 _ := hr
  refine ⟨_, (pss_cons (ps_if (pt_not (pt_val (pe_g (G0.mono (by decide)) hr hq (pa_cons (pv 2) (pa_cons (pe_callB call_len_seq (by rfl) B.len (by decide +kernel) (pa_cons (pv 1) pa_nil)) (pa_cons (pe_callB call_len_seq (by rfl) B.len (by decide +kernel) (pa_cons (pv 1) pa_nil)) pa_nil)))))) (pss_one (ps_ret pe_bl)) pss_nil)
      (pss_cons (ps_set (i := 3) sc_are_right_patterns.nd rfl (Or.inl rfl) (pe_g (G1.mono (by decide)) hr hq (pa_cons (pv 0) pa_nil)))
      (pss_cons (ps_set (i := 4) sc_are_right_patterns.nd rfl (Or.inl rfl) pe_dnewK)
      (pss_cons (ps_set (i := 5) sc_are_right_patterns.nd rfl (Or.inl rfl) (pe_listZip rfl (by rfl) B.list (by rfl) Bz (pa_cons (pv 1) (pa_cons (pv 2) pa_nil))))
      (pss_cons (ps_while PassesOwn.never (pt_truth (pv 5) (by intro _; rfl)) (pss_cons (ps_asg (pe_bm0 PySem.F.plainAttrs_list PySem.F.slot_list_pop PySem.F.type_list_pop mt_pop (pv 5)) (pg_tup rfl (pgs_cons (pg_name (i := 6) sc_are_right_patterns.nd rfl (Or.inl rfl)) (pgs_cons (pg_name (i := 7) sc_are_right_patterns.nd rfl (Or.inl rfl)) pgs_nil))))
      (pss_one (ps_if (pt_val (pe_g (G3.mono (by decide)) hr hq (pa_cons (pv 7) pa_nil))) (pss_one (ps_if (pt_cmpR op_ne (pe_dsetd (pv 4) (pe_ix ix_tup (pv 7) pe_int (fun _ _ => rfl)) (pv 6) ⟨by rfl, by rfl, by rfl, by rfl⟩) (pv 6) (nomark _)) (pss_one (ps_ret pe_bl)) pss_nil)) (pss_one (ps_if (pt_val (pe_g (G4.mono (by decide)) hr hq (pa_cons (pv 3) (pa_cons (pv 6) (pa_cons (pv 7) pa_nil))))) (pss_one (ps_expr (pe_bm PySem.F.plainAttrs_list PySem.F.slot_list_extend PySem.F.type_list_extend mt_extend (pv 5) (pa_cons (pe_listZip rfl (by rfl) B.list (by rfl) Bz (pa_cons (pe_ix ix_tup (pe_dget (hu_of hr) (pv 3) (pe_ix ix_tup (pv 7) pe_int (fun _ _ => rfl)) (fun _ _ => rfl)) pe_int (fun _ _ => rfl)) (pa_cons (pe_slice sl_tupA (pv 7) (po_some pe_int) po_none) pa_nil))) pa_nil)))) (pss_one (ps_ret pe_bl))))))))
      (pss_one (ps_ret pe_bl))))))), ?_⟩
  obtain ⟨l24, mb, mnd⟩ := makersB_parts k2
  have n3 : ∀ m ∈ md, (needsOf m).length ≤ 3 := fun m hm => needs_few (mb m hm)
  obtain ⟨za, zx, rfl, hza, ZA⟩ := hz.tupD
  obtain rfl := ZA.strs
  walk_at "rd"
  refine ⟨za, _, rfl, .inr (SqT.of hza), ?_⟩
  refine ⟨_, rfl, za, _, rfl, .inr (SqT.of hza), ?_⟩
  refine ⟨u, d, _, _, rfl, hu, fun H0 s0 => ⟨_, rfl, ?_⟩⟩
  rw [List.length_map]
  cases e : isTupB d ks.length ks.length with
  | false =>
    refine iteT ?_
    have q := k H0 s0
    rw [show patsB md ks d = false from ?_] at q
    · exact q
    · cases d with
      | tuple ps =>
        refine patsB_len fun z => ?_
        have e : (decide ((ks.length : Int) ≤ ps.length) && decide ((ps.length : Int) ≤ ks.length)) = false := e
        rw [z, decide_eq_true (Int.le_refl _)] at e
        cases e
      | _ => rfl
  | true =>
  obtain ⟨ps, rfl, t1, t2⟩ := tupB_n e
  have lp : ps.length = ks.length := by omega
  obtain ⟨ua, ux, rfl, hua, UA⟩ := hu.tupD
  have lu := UA.length
  refine iteF ⟨_, rfl, v, kd, md, rfl, hd.mono s0, k2, fun D H1 hD s1 M => ?_⟩
  have s01 := s0.trans s1
  dsimp only
  refine fun f0 hf0 => ?_
  refine ⟨_, rfl, _, rfl, za, ua, ks.map V.str, ux, rfl, .inr (SqT.of (same_new hf0 _ _ _ (s01 _ _ hza))), .inr (SqT.of (same_new hf0 _ _ _ (s01 _ _ hua))), fun H2 a ts kp na nts nin lts ea ets => ?_⟩
  have s2 : Same (upd H1 f0 (.dK [])) H2 := kp
  have s12 : Same H1 H2 := (same_new hf0 _).trans s2
  have ef0 : H2 f0 = some (.dK []) := s2 _ _ upd_same
  have ha : H1 a = none := by
    by_cases c : a = f0
    · exact c ▸ hf0
    · rw [upd_ne c] at na; exact na
  rw [List.length_map] at lts
  have nf : f0 ≠ a := fun z => by rw [← z, upd_same] at na; cases na
  have mz := muP_zip (ns := ks) (ps := ps) lp
  have okq : ∀ q ∈ ks.zip ps, okT q.2 = true := fun q hq => okTs_mem okd q.2 (List.of_mem_zip hq).2
  have psz0 : pszs ps ≤ 1000000 := by
    have e : psz (.tuple ps) = 1 + pszs ps := by rw [psz]
    omega
  have P0 : PL H H2 (ts.map V.ref) (ks.zip ps) := PL.of_zip UA lts (by omega) ets
  refine ⟨fun m σ H4 => ∃ n6 n7 kvs seen ws qs, σ = [some v, some (.ref za), some (.ref ua), some (.ref D), some (.ref f0), some (.ref a), n6, n7] ∧ m = muP qs ∧ Same H1 H4 ∧ H4 f0 = some (.dK kvs) ∧ KF kvs seen ∧ H4 a = some (.lst ws) ∧ PL H H4 ws qs ∧ (∀ q ∈ qs, okT q.2 = true) ∧ seen.length + muP qs ≤ 1000000 ∧ (patsB md ks (.tuple ps) = true ↔ GP md seen qs),
    ⟨_, _, _, [], [], _, _, rfl, rfl, s12, ef0, .nil, ea, P0, okq, by rw [mz]; show 0 + _ ≤ _; omega, patsB_iff lp⟩, ?_⟩
  rintro m σ H4 ⟨n6, n7, kvs, seen, ws, qs, rfl, rfl, s4, ef, F, ea, W, okq, lq, iff⟩
  refine ⟨_, rfl, _, .inl ⟨_, SqL.of ea, rfl⟩, ?_⟩
  by_cases eq : qs = []
  · subst eq
    cases W
    refine iteF ?_
    have q := k H4 (s01.trans s4)
    rw [iff.mpr ⟨fun q hq => (by cases hq), fun p q hp hq e => ?_⟩] at q
    · exact q
    · have hp : p ∈ seen := hp.resolve_right fun ⟨_, z, _⟩ => (by cases z)
      have hq : q ∈ seen := hq.resolve_right fun ⟨_, z, _⟩ => (by cases z)
      have h1 := F.at_ p hp
      have h2 := F.at_ q hq
      rw [e, h2] at h1
      injection h1 with h1
      injection h1 with h1
      exact h1.symm
  obtain ⟨ws', t, qs', kk, y, dd, rfl, rfl, W', et, hdd⟩ := W.last eq
  have eT : (!(ws' ++ [V.ref t]).isEmpty) = true := by cases ws' <;> rfl
  rw [eT]
  refine iteT ⟨fun σ' H4 => ∃ m', m' < muP (qs' ++ [(kk, dd)]) ∧ ∃ n6 n7 kvs seen ws qs, σ' = [some v, some (.ref za), some (.ref ua), some (.ref D), some (.ref f0), some (.ref a), n6, n7] ∧ m' = muP qs ∧ Same H1 H4 ∧ H4 f0 = some (.dK kvs) ∧ KF kvs seen ∧ H4 a = some (.lst ws) ∧ PL H H4 ws qs ∧ (∀ q ∈ qs, okT q.2 = true) ∧ seen.length + muP qs ≤ 1000000 ∧ (patsB md ks (.tuple ps) = true ↔ GP md seen qs), fun _ _ z => z, ?_⟩
  refine ⟨_, rfl, .inl ⟨rfl, _, SqL.of ea⟩, a, _, .ref t, rfl, rfl, ea, (map_last rfl).1, ?_⟩
  rw [(map_last (xs := ws') rfl).2]
  have s5 : Same H1 (upd H4 a (.lst ws')) := same_put s4 ha
  have et5 : upd H4 a (.lst ws') t = some (.tup [.str kk, y]) := tup_put ea et
  have W5 : PL H (upd H4 a (.lst ws')) ws' qs' := W'.mono fun b xs e => tup_put ea e
  have ea5 : upd H4 a (.lst ws') a = some (.lst ws') := upd_same
  have ef5 : upd H4 a (.lst ws') f0 = some (.dK kvs) := by rw [upd_ne nf]; exact ef
  generalize upd H4 a (.lst ws') = H5 at s5 et5 W5 ea5 ef5 ⊢
  have s05 := s01.trans s5
  have mq : muP (qs' ++ [(kk, dd)]) = muP qs' + psz dd := by rw [muP_app]; rfl
  have pd := psz_pos dd
  have okdd : okT dd = true := okq (kk, dd) (by simp)
  have okq' : ∀ q ∈ qs', okT q.2 = true := fun q hq => okq q (List.mem_append_left _ hq)
  refine ⟨t, _, rfl, SqT.of et5, rfl, _, _, rfl, _, _, rfl, rfl, ?_⟩
  dsimp only
  refine ⟨_, rfl, y, dd, rfl, hdd.mono s05, okdd, fun H6 s6 => ⟨_, rfl, ?_⟩⟩
  have s16 := s5.trans s6
  have s06 := s01.trans s16
  have W6 : PL H H6 ws' qs' := W5.mono fun b xs e => s6 _ _ e
  have ea6 := s6 _ _ ea5
  have ef6 := s6 _ _ ef5
  cases ev : variableB dd with
  | true =>
    obtain ⟨n, rfl, hn⟩ := variableB_some ev
    have gv := GP_var (seen := seen) (qs := qs') (pkB_var (md := md) (x := kk) hn)
    obtain ⟨va, vx, vy, rfl, hva, hvx, hvy⟩ := dd2 hdd
    cases hvx
    cases hvy
    have pz : psz (.tuple [.str "?", .str n]) = 3 := by simp [psz, pszs]
    refine iteT ?_
    refine ⟨_, rfl, f0, rfl, .inl ⟨kvs, .inl ef6⟩, ?_⟩
    refine ⟨_, rfl, va, _, 1, _, rfl, rfl, SqT.of (s06 _ _ hva), rfl, ?_⟩
    have lkv := F.len
    refine ⟨_, rfl, kvs, Sum.inr n, ef6, rfl, by rw [sizeLine_eq]; omega, fun w hw => ?_, fun hw => ?_⟩
    · obtain ⟨k2', rfl, hs2⟩ := F.of_ n w hw
      refine ⟨_, rfl, rfl, _, rfl, ?_⟩
      rw [dec_str]
      by_cases c : k2' = kk
      · subst c
        rw [decide_eq_true rfl]
        refine iteF ⟨muP qs', by omega, _, _, kvs, (n, k2') :: seen, ws', qs', rfl, rfl, s16, ef6, F.more hw, ea6, W6, okq', by rw [List.length_cons]; omega, iff.trans gv⟩
      · rw [decide_eq_false c]
        refine iteT ?_
        have q := k H6 s06
        rw [show patsB md ks (.tuple ps) = false from ?_] at q
        · exact q
        · cases e : patsB md ks (.tuple ps) with
          | false => rfl
          | true =>
            obtain ⟨_, g⟩ := gv.mp (iff.mp e)
            exact absurd (g (n, k2') (n, kk) (.inl (List.mem_cons_of_mem _ hs2)) (.inl (List.mem_cons_self ..)) rfl) c
    · refine ⟨_, rfl, rfl, _, rfl, ?_⟩
      rw [dec_str, decide_eq_true rfl]
      refine iteF ⟨muP qs', by omega, _, _, _, (n, kk) :: seen, ws', qs', rfl, rfl, same_put s16 hf0, upd_same, F.put hw, by rw [upd_ne nf.symm]; exact ea6, W6.mono fun b xs e => dict_put ef6 e, okq', by rw [List.length_cons]; omega, iff.trans gv⟩
  | false =>
  refine iteF ?_
  refine ⟨_, rfl, _, rfl, _, rfl, D, md, kk, y, dd, rfl, M.mono s16, l24, n3, hdd.mono s06, fun H7 s7 => ⟨_, rfl, ?_⟩⟩
  have s17 := s16.trans s7
  have s07 := s06.trans s7
  have W7 : PL H H7 ws' qs' := W6.mono fun b xs e => s7 _ _ e
  have ea7 := s7 _ _ ea6
  have ef7 := s7 _ _ ef6
  cases em : madeB md kk dd with
  | none =>
    refine iteF ?_
    have q := k H7 s07
    rw [show patsB md ks (.tuple ps) = false from ?_] at q
    · exact q
    · cases e : patsB md ks (.tuple ps) with
      | false => rfl
      | true =>
        obtain ⟨g, _⟩ := iff.mp e
        obtain ⟨ls, z⟩ := g (kk, dd) (by simp)
        have z : pkB md dd kk = some ls := z
        rw [pkB_not em ev] at z
        cases z
  | some nps =>
  obtain ⟨nn, pp⟩ := nps
  have gm := GP_made (seen := seen) (qs := qs') em ev
  obtain ⟨h0, m, rfl, fm, rfl, ek, hps⟩ := madeB_some em
  obtain ⟨tp, xs, rfl, etp0, A⟩ := hdd.tupD
  have etp := s07 _ _ etp0
  cases A with
  | @cons v0 xs0 _ _ hv0 A0 =>
  cases hv0
  obtain ⟨mm, rfl⟩ := findM_mem fm
  obtain ⟨L, eD, aD⟩ := M.mono s17
  obtain ⟨na, g1, g2⟩ := aD m mm
  have dg := DGet.k (k := Sum.inr (nameOf m)) eD
  rw [findM_val, fm] at dg
  have pz : psz (.tuple (.str (nameOf m) :: pp)) = 2 + pszs pp := by
    rw [psz, pszs, psz]
    · omega
    · intros; simp_all
  refine iteT ⟨_, rfl, .inl ⟨rfl, _, SqL.of ea7⟩, ?_⟩
  refine ⟨_, rfl, _, rfl, tp, _, 0, _, rfl, rfl, SqT.of etp, atI_nat (j := 0) rfl, ?_⟩
  refine ⟨D, _, rfl, dg, ?_⟩
  refine ⟨L (nameOf m), _, 0, _, rfl, rfl, SqT.of g1, rfl, ?_⟩
  refine ⟨_, rfl, ?_⟩
  refine ⟨_, rfl, ?_⟩
  dsimp only [tNoPart]
  refine slA_tail etp fun c H8 s8 ec => ?_
  refine ⟨na, c, (needsOf m).map V.str, xs0, rfl, .inr (SqT.of (s8 _ _ g2)), .inr (SqT.of ec), fun H9 lpa ts kp nlp nts nin lts elp ets => ?_⟩
  have s9 : Same H8 H9 := kp
  have s79 := s8.trans s9
  have ea9 := s79 _ _ ea7
  have lA := A0.length
  have mz := muP_zip hps
  have lws := W7.len
  have lqs := muP_len qs'
  have lns := n3 m mm
  rw [List.length_map] at lts
  have nw : PL H H9 (ts.map V.ref) ((needsOf m).zip pp) := PL.of_zip A0 lts (by omega) ets
  refine ⟨a, lpa, ws', _, rfl, rfl, ea9, elp, by rw [List.length_map, sizeLine_eq]; omega, ?_⟩
  refine ⟨muP (qs' ++ (needsOf m).zip pp), by rw [muP_app]; omega, _, _, kvs, seen, ws' ++ ts.map V.ref, qs' ++ (needsOf m).zip pp, rfl, rfl, same_put (s17.trans s79) ha, by rw [upd_ne nf]; exact s79 _ _ ef7, F, upd_same, ((W7.mono fun b xs e => s79 _ _ e).app nw).mono fun b xs e => tup_put ea9 e, fun q hq => ?_, by rw [muP_app]; omega, iff.trans gm⟩
  rcases List.mem_append.mp hq with hq | hq
  · exact okq' q hq
  · exact okTs_mem (show okTs (.str (nameOf m) :: pp) = true from okdd) q.2 (List.mem_cons_of_mem _ (List.of_mem_zip hq).2)

end

section
variable {P : Program} {w : World} {K : PySem.W.Frag} {mg : Str → Option Value} {base : Heap}

/-- are_patterns(signature, kinds, value), of a signature and kinds of it -/
def spArePats : Sp := fun vs H Q _ => ∃ (v z u : V) (kd md : List PyData) (ks : List Str) (d : PyData), vs = [v, z, u] ∧ Dd H v (.tuple [.tuple kd, .tuple md]) ∧ okT (.tuple [.tuple kd, .tuple md]) = true ∧ sigB (.tuple [.tuple kd, .tuple md]) = true ∧ Dd H z (.tuple (ks.map PyData.str)) ∧ 1 ≤ ks.length ∧ ks.length ≤ 4 ∧ (∀ x ∈ ks, x ∈ kd.map nameOf) ∧ Dd H u d ∧ okT d = true ∧ psz d ≤ 1000000 ∧
  ∀ H', Same H H' → Q (.bl (patsB md ks d)) H'
theorem sc_are_patterns : FnScope ["signature", "kinds", "value"] ["signature", "kinds", "value"] (defScope s_are_patterns) := ⟨rfl, rfl, rfl, by decide +kernel, rfl, by decide +kernel, by decide +kernel⟩
theorem okF_are_patterns {f : Addr} {fd : FuncData} (F : Fun K "are_patterns" "are_patterns" s_are_patterns f fd)  (G1 : Gd P w K mg base CX0 5 "check_signature" ["signature"] spCheckSig) (G2 : Gd P w K mg base CX0 2 "check_kinds" ["signature", "kinds"] spCheckKinds) (G3 : Gd P w K mg base CX0 3 "are_right_patterns" ["signature", "kinds", "value"] spRight) : Fn P w K mg base CX0 6 f fd ["signature", "kinds", "value"] spArePats := by
  refine fun_q F sc_are_patterns (fun vs H Q E h => by obtain ⟨v, z, u, kd, md, ks, d, rfl, _⟩ := h; rfl) (fun cdv A outer s H vs Q E hr hq h => ?_)
  obtain ⟨v, z, u, kd, md, ks, d, rfl, hd, ok, sg, hz, l1, l4, hk, hu, okd, lz, k⟩ := h
  obtain ⟨kd', md', e, ek, em, _⟩ := sigB_of sg
  cases e
  refine ⟨_, (pss_cons (ps_expr (pe_g G1 hr hq (pa_cons (pv 0) pa_nil)))
      (pss_cons (ps_expr (pe_g (G2.mono (by decide)) hr hq (pa_cons (pv 0) (pa_cons (pv 1) pa_nil))))
      (pss_one (ps_ret (pe_g (G3.mono (by decide)) hr hq (pa_cons (pv 0) (pa_cons (pv 1) (pa_cons (pv 2) pa_nil)))))))), ?_⟩
  walk_at "rd"
  refine ⟨v, _, rfl, hd, ok, sg, fun H1 s1 => ?_⟩
  walk_at "rd"
  refine ⟨v, z, kd, _, ks, rfl, hd.mono s1, ek, hz.mono s1, l1, l4, hk, fun H2 s2 => ?_⟩
  have s12 := s1.trans s2
  exact ⟨_, rfl, _, rfl, _, rfl, v, z, u, kd, md, ks, d, rfl, hd.mono s12, ek, em, hz.mono s12, l4, hu.mono s12, okd, lz, fun H3 s3 => k H3 (s12.trans s3)⟩
theorem ok_are_patterns (D : Df K mg "are_patterns" s_are_patterns) (G1 : Gd P w K mg base CX0 5 "check_signature" ["signature"] spCheckSig) (G2 : Gd P w K mg base CX0 2 "check_kinds" ["signature", "kinds"] spCheckKinds) (G3 : Gd P w K mg base CX0 3 "are_right_patterns" ["signature", "kinds", "value"] spRight) : Gd P w K mg base CX0 6 "are_patterns" ["signature", "kinds", "value"] spArePats := gd_of D (fun _ _ _ _ _ _ us hl => match us, hl with | [_, _, _], _ => rfl) fun _ _ F => okF_are_patterns F G1 G2 G3

end

section
variable {P : Program} {w : World} {K : PySem.W.Frag} {mg : Str → Option Value} {base : Heap}

theorem un65 {k : Nat} {A : Around} (r : Room k A) : A.units + 65 < cLine := by have := r.un; omega
/-- _law_makers(sig, kind): a new list of the makers, each with what it needs -/
def spLMakers : Sp := fun vs H Q _ => ∃ (v : V) (kd md : List PyData) (x : Str), vs = [v, .str x] ∧ Dd H v (.tuple [.tuple kd, .tuple md]) ∧ makersB (kd.map nameOf) (.tuple md) = true ∧
  ∀ (l : Addr) (ys : List V) (H' : Hp), Same H H' → H l = none → H' l = some (.lst ys) → MkL H' ys (ofKind md x) → Q (.ref l) H'
theorem sc_makers : FnScope ["sig", "kind", "name", "args", "own"] ["sig", "kind"] (defScope s_makers) := ⟨rfl, rfl, rfl, by decide +kernel, rfl, by decide +kernel, by decide +kernel⟩
theorem ok_makers (D : Df K mg "_law_makers" s_makers) : Gd P w K mg base CX0 1 "_law_makers" ["sig", "kind"] spLMakers := by
  refine gd_of D (fun _ _ _ _ _ _ us hl => match us, hl with | [_, _], _ => rfl) fun f fd F => ?_
  refine fun_q F sc_makers (fun vs H Q E h => by obtain ⟨v, kd, md, x, rfl, _⟩ := h; rfl) (fun cdv A outer s H vs Q E hr hq h => ?_)
  obtain ⟨v, kd, md, x, rfl, hd, k2, k⟩ := h
  refine ⟨_, (pss_one (ps_ret (pe_lc (own := [("name", 2), ("args", 3), ("own", 4)]) (g := (gTup K 3 (gCons (gName 2) (gCons (gName 3) (gCons (gName 4) gNil))))) rfl sc_makers.nd (pi_tup (pe_ix ix_tup (pv 0) pe_int (fun _ _ => rfl))) (blkOk_by (own := [("name", 2), ("args", 3), ("own", 4)]) (N := ["sig", "kind", "name", "args", "own"]) (sc := defScope s_makers) (by decide +kernel)) (fun _ _ _ _ _ => (pg_tup rfl (pgs_cons (pg_name (i := 2) sc_makers.nd rfl (Or.inl rfl)) (pgs_cons (pg_name (i := 3) sc_makers.nd rfl (Or.inl rfl)) (pgs_cons (pg_name (i := 4) sc_makers.nd rfl (Or.inl rfl)) pgs_nil))))) (fun _ _ _ _ _ => (pts_one (pt_cmpR op_eq (pv 4) (pv 1) (nomark _)))) (fun _ _ _ _ _ => (pe_tup (pa_cons (pv 2) (pa_cons (pv 3) pa_nil))))))), ?_⟩
  obtain ⟨sa, u, v, rfl, hsa, hk, hm⟩ := dd2 hd
  obtain ⟨ma, mx, rfl, hma, MA⟩ := hm.tupD
  obtain ⟨l24, mb, mnd⟩ := makersB_parts k2
  have lm := MA.length
  refine ⟨_, rfl, sa, _, 1, _, rfl, rfl, SqT.of hsa, rfl, ma, rfl, ⟨_, SqT.of hma⟩, fun D hD => ?_⟩
  refine lc_it walk_tup (fun i H2 => Same H H2 ∧ ∃ ys, H2 D = some (.lst ys) ∧ MkL H2 ys (ofKind (md.take i) x)) ⟨same_new hD _, [], upd_same, .nil⟩ (fun i H2 _ p => SqT.of (p.1 _ _ hma)) (fun i y H2p H2 hi p hy => ?_) (fun H2 p => ?_)
  · obtain ⟨rfl, ey⟩ := hy
    obtain ⟨s2, ys, e2, M⟩ := p
    obtain ⟨q, nm, ns, kk, na, em, rfl, hq, hna, _⟩ := maker_at (MA.mono s2) mb ey
    refine ⟨q, _, rfl, SqT.of hq, rfl, _, _, rfl, _, _, rfl, _, _, rfl, rfl, rfl, ?_⟩
    refine ⟨_, rfl, _, rfl, rfl, _, rfl, ?_⟩
    rw [dec_str, ofKind_take em]
    show if decide (kk = x) = true then _ else _
    by_cases c : kk = x
    · rw [if_pos (decide_eq_true c), if_pos (show kindOf (.tuple [.str nm, .tuple ns, .str kk]) = x from c)]
      refine ⟨_, rfl, _, rfl, by show 2 ≤ sizeLine; rw [sizeLine_eq]; decide, fun t ht => ?_⟩
      have e3 : upd H2 t (.tup [.str nm, .ref na]) D = some (.lst ys) := same_new ht _ _ _ e2
      have s3 : Same H2 (upd H2 t (.tup [.str nm, .ref na])) := same_new ht _
      have nDt : t ≠ D := fun z => by rw [z, e2] at ht; cases ht
      have ly : ys.length ≤ 24 := by
        rw [M.len]
        have h1 := List.length_filter_le (fun m => decide (kindOf m = x)) (md.take i)
        have h2 := List.length_take_le i md
        unfold ofKind
        omega
      refine ⟨ys, e3, by rw [sizeLine_eq]; omega, same_put (s2.trans s3) hD, _, upd_same, ?_⟩
      have keep : ∀ b o, upd H2 t (.tup [.str nm, .ref na]) b = some o → (∃ xs, o = .tup xs) → upd (upd H2 t (.tup [.str nm, .ref na])) D (.lst (ys ++ [.ref t])) b = some o := fun b o e ⟨xs, eo⟩ => by
        rw [upd_ne fun z => by rw [z, e3, eo] at e; cases e]
        exact e
      refine (M.mono fun b o e z => keep b o (s3 _ _ e) z).snoc ⟨t, .str nm, na, rfl, keep _ _ upd_same ⟨_, rfl⟩, keep _ _ (s3 _ _ hna) ⟨_, rfl⟩⟩
    · rw [if_neg (by simpa using c), if_neg (show ¬ kindOf (.tuple [.str nm, .tuple ns, .str kk]) = x from c)]
      exact ⟨s2, ys, e2, M⟩
  · obtain ⟨s2, ys, e2, M⟩ := p
    rw [lm, List.take_length] at M
    exact k D ys H2 s2 hD e2 M

theorem name_ok {x : Str} (h : nameS x = true) : shB 0 (.str x) = true := by
  unfold nameS at h
  simp only [Bool.and_eq_true, decide_eq_true_iff] at h
  obtain ⟨⟨⟨_, h2⟩, _⟩, h4⟩ := h
  show (decide (x.length ≤ 100) && PyData.strOk x) = true
  rw [decide_eq_true (by omega), Bool.true_and]
  unfold PyData.strOk
  rw [← Array.all_toList]
  rw [List.all_eq_true] at h4 ⊢
  intro c hc
  have m := of_decide_eq_true (h4 c hc)
  have all : ∀ c ∈ signs.cps.toList, c < 0x110000 := by decide +kernel
  exact decide_eq_true (all c m)
theorem kind_sh {d : PyData} (h : kindB d = true) : shB 1 d = true := by
  obtain ⟨x, b, rfl, hx, hb⟩ := kindB_pair h
  obtain ⟨b, rfl, hm⟩ := among_str hb
  refine shB_of (show 2 ≤ 1000 by decide) fun d hd => ?_
  rcases List.mem_cons.mp hd with z | z
  · exact z ▸ name_ok hx
  · rw [List.mem_singleton] at z
    subst z
    rcases List.mem_cons.mp hm with q | q
    · subst q; decide +kernel
    · rw [List.mem_singleton] at q
      subst q; decide +kernel
theorem name_of_kind {kd : List PyData} (kb : ∀ d ∈ kd, kindB d = true) {x : Str} (h : x ∈ kd.map nameOf) : nameS x = true := by
  obtain ⟨d, hd, rfl⟩ := List.mem_map.mp h
  obtain ⟨x, b, rfl, hx, hb⟩ := kindB_pair (kb d hd)
  exact hx
theorem eqv_pair {x y b c : Str} : PyData.eqv (.tuple [.str x, .str b]) (.tuple [.str y, .str c]) = (decide (x = y) && decide (b = c)) := by
  have e : ∀ a b : Str, (a == b) = decide (a = b) := fun a b => by rw [Bool.eq_iff_iff, beq_iff_eq, decide_eq_true_iff]
  simp [PyData.eqv, PyData.eqvAll, e]
theorem open_any {kd : List PyData} (kb : ∀ d ∈ kd, kindB d = true) (x : Str) : (kd.any fun z => PyData.eqv z (.tuple [.str x, .str "open"])) = S0 kd x := by
  unfold S0
  induction kd with
  | nil => rfl
  | cons d ds ih =>
    rw [List.any_cons, List.any_cons, ih fun x hx => kb x (List.mem_cons_of_mem _ hx)]
    obtain ⟨n, b, rfl, hx, hb⟩ := kindB_pair (kb d (List.mem_cons_self ..))
    obtain ⟨b, rfl, hm⟩ := among_str hb
    rw [eqv_pair]
    rfl
def spIsOpen : Sp := fun vs H Q _ => ∃ (v : V) (kd : List PyData) (m : PyData) (x : Str), vs = [v, .str x] ∧ Dd H v (.tuple [.tuple kd, m]) ∧ kindsB (.tuple kd) = true ∧ nameS x = true ∧ ∀ H', Same H H' → Q (.bl (S0 kd x)) H'
theorem sc_is_open : FnScope ["sig", "kind"] ["sig", "kind"] (defScope s_is_open) := ⟨rfl, rfl, rfl, by decide +kernel, rfl, by decide +kernel, by decide +kernel⟩
theorem ok_is_open (D : Df K mg "_law_is_open" s_is_open) : Gd P w K mg base CX0 1 "_law_is_open" ["sig", "kind"] spIsOpen := by
  refine gd_of D (fun _ _ _ _ _ _ us hl => match us, hl with | [_, _], _ => rfl) fun f fd F => ?_
  refine fun_q F sc_is_open (fun vs H Q E h => by obtain ⟨v, kd, md, x, rfl, _⟩ := h; rfl) (fun cdv A outer s H vs Q E hr hq h => ?_)
  obtain ⟨v, kd, m, x, rfl, hd, k1, nx, k⟩ := h
  refine ⟨_, (pss_one (ps_ret (pe_cmpR (op_inDT (un65 hr)) (pe_tup (pa_cons (pv 1) (pa_cons pe_str pa_nil))) (pe_ix ix_tup (pv 0) pe_int (fun _ _ => rfl)) (by rfl)))), ?_⟩
  obtain ⟨sa, u, v, rfl, hsa, hk, hm⟩ := dd2 hd
  obtain ⟨ka, kx, rfl, hka, KA⟩ := hk.tupD
  obtain ⟨l1, l8, kb, knd⟩ := kindsB_parts k1
  refine ⟨_, rfl, by show 2 ≤ sizeLine; rw [sizeLine_eq]; decide, fun t ht => ?_⟩
  have s1 : Same H (upd H t (.tup [.str x, .str "open"])) := same_new ht _
  refine ⟨_, rfl, sa, _, 0, _, rfl, rfl, SqT.of (s1 _ _ hsa), rfl, ?_⟩
  have sh1 : shB 1 (.tuple [.str x, .str "open"]) = true := shB_of (show 2 ≤ 1000 by decide) fun d hd => by
    rcases List.mem_cons.mp hd with z | z
    · exact z ▸ name_ok nx
    · rw [List.mem_singleton] at z
      subst z; decide +kernel
  have sh2 : shB 2 (.tuple kd) = true := shB_of (by omega) fun d hd => kind_sh (kb d hd)
  refine ⟨.tuple [.str x, .str "open"], kd, .tup (SqT.of upd_same) (.cons (.str x) (.cons (.str _) .nil)), Dd.dp sh2 (hk.mono s1), shB_shaped sh1 (by decide), shB_shaped sh2 (by decide), ?_⟩
  rw [open_any kb]
  exact k _ s1

end

theorem depth_mem {d : PyData} : ∀ {ds : List PyData}, d ∈ ds → d.depth ≤ PyData.depthAll ds
  | [], h => by cases h
  | e :: ds, h => by
    unfold PyData.depthAll
    rcases List.mem_cons.mp h with z | z
    · subst z; exact Nat.le_max_left _ _
    · exact Nat.le_trans (depth_mem z) (Nat.le_max_right _ _)
theorem walk_zipT {K : PySem.W.Frag} {a b : Addr} {xs ys : List V} {n : Nat} (hn : n = min xs.length ys.length) : Walk (RZ.ItzT K a b) n (fun H => SqT K H a xs ∧ SqT K H b ys) (YPair (fun i => xs[i]?) (fun i => ys[i]?)) := by
  subst hn
  refine ⟨fun i _ hi q => ?_, fun _ q => ⟨xs, ys, q.1, q.2, by omega⟩, fun i H v H' _ q y => ?_⟩
  · have h1 : i < xs.length := by omega
    have h2 : i < ys.length := by omega
    exact ⟨xs, ys, xs[i], ys[i], q.1, q.2, by simp [h1], by simp [h2]⟩
  · obtain ⟨T, x, z, h1, h2, h3, h4, h5⟩ := y
    exact ⟨T, x, z, h1, h2, h3, h4 xs q.1, h5 ys q.2⟩

/-- no maker's name is a mark -/
theorem mark_no {ks : List Str} {md : List PyData} (mb : ∀ m ∈ md, makerB ks m = true) {h : Str} (n : nameS h = false) : findM md h = none := by
  cases e : findM md h with
  | none => rfl
  | some m =>
    obtain ⟨mm, rfl⟩ := findM_mem e
    have := mb m mm
    unfold makerB at this
    split at this
    · rename_i a ns k
      rw [Bool.and_eq_true, Bool.and_eq_true, Bool.and_eq_true] at this
      have q := this.1.1.1
      cases a with
      | str z =>
        have q : nameS z = true := q
        have n : nameS z = false := n
        rw [n] at q
        cases q
      | _ => cases q
    · cases this
theorem tmB_mark {kd md : List PyData} {ks : List Str} (mb : ∀ m ∈ md, makerB ks m = true) {h : Str} {ps : List PyData} {x : Str} (n : nameS h = false) : tmB kd md (.tuple (.str h :: ps)) x = (S0 kd x && strangerB x (.tuple (.str h :: ps))) := by
  rw [tmB, tmH, mark_no mb n]
  exact Bool.or_false _
theorem tmB_make {kd md : List PyData} {h : Str} {ps : List PyData} {x : Str} (n : h ≠ "#") : tmB kd md (.tuple (.str h :: ps)) x = match findM md h with | some m => decide (kindOf m = x) && tmL kd md ps (needsOf m) | none => false := by
  have e : strangerB x (.tuple (.str h :: ps)) = false := by
    cases c : strangerB x (.tuple (.str h :: ps)) with
    | false => rfl
    | true =>
      unfold strangerB at c
      split at c
      · rename_i h' k' n' eq
        cases eq
        rw [Bool.and_eq_true, decide_eq_true_iff] at c
        exact absurd c.1 n
      · cases c
  rw [tmB, e, Bool.and_false, Bool.false_or, tmH]
  all_goals (cases findM md h <;> rfl)
theorem stranger_hash {x : Str} {d0 : PyData} {ds : List PyData} (h : d0 ≠ .str "#") : strangerB x (.tuple (d0 :: ds)) = false := by
  cases c : strangerB x (.tuple (d0 :: ds)) with
  | false => rfl
  | true =>
    unfold strangerB at c
    split at c
    · rename_i h' k' n' eq
      cases eq
      rw [Bool.and_eq_true, decide_eq_true_iff] at c
      exact absurd (by rw [c.1]) h
    · cases c
theorem tmB_nil {kd md : List PyData} {x : Str} : tmB kd md (.tuple []) x = false := by
  rw [tmB, show strangerB x (.tuple []) = false from rfl, Bool.and_false]
  rfl
theorem tmB_odd {kd md : List PyData} {x : Str} {d0 : PyData} {ds : List PyData} (h : isStr d0 = false) : tmB kd md (.tuple (d0 :: ds)) x = false := by
  rw [tmB, stranger_hash (fun z => by rw [z] at h; cases h), Bool.and_false, Bool.false_or]
  cases d0 with
  | str => cases h
  | _ => rfl
theorem tmB_not_tup {kd md : List PyData} {x : Str} {d : PyData} (h : isTup d = false) : tmB kd md d x = false := by
  cases d with
  | tuple => cases h
  | _ => rfl
theorem needs_ok2 {ks : List Str} {m : PyData} (h : makerB ks m = true) : ∀ n ∈ needsOf m, n ∈ ks := fun n hn => by
  obtain ⟨x, ns, k, rfl, _, l3, hns, _⟩ := makerB_of h
  obtain ⟨d, hd, rfl⟩ := List.mem_map.mp (show n ∈ ns.map strD from hn)
  obtain ⟨z, rfl, hz⟩ := among_str (List.all_eq_true.mp hns d hd)
  exact hz
theorem stranger_3 {x h : Str} {ps : List PyData} (n : ps.length ≠ 2) : strangerB x (.tuple (.str h :: ps)) = false := by
  cases c : strangerB x (.tuple (.str h :: ps)) with
  | false => rfl
  | true =>
    unfold strangerB at c
    split at c
    · rename_i h' k' n' eq
      cases eq
      exact absurd rfl n
    · cases c
theorem findM_kind {md : List PyData} (nd : (md.map nameOf).Nodup) {m : PyData} (hm : m ∈ md) : findM md (nameOf m) = some m := by
  cases e : findM md (nameOf m) with
  | none => exact absurd (List.mem_map.mpr ⟨m, hm, rfl⟩) (findM_no e)
  | some m' =>
    obtain ⟨hm', en⟩ := findM_mem e
    obtain ⟨i, hi, rfl⟩ := List.getElem_of_mem hm
    obtain ⟨j, hj, rfl⟩ := List.getElem_of_mem hm'
    have := nodup_at nd (i := i) (j := j) (a := nameOf md[i]) (by rw [List.getElem?_map, List.getElem?_eq_getElem hi, Option.map_some]) (by rw [List.getElem?_map, List.getElem?_eq_getElem hj, Option.map_some, en])
    subst this
    rfl

section
variable {P : Program} {w : World} {K : PySem.W.Frag} {mg : Str → Option Value} {base : Heap}

/-- _law_is_term_of(sig, kind, thing, None), n deep -/
def spTO (n : Nat) : Sp := fun vs H Q _ => ∃ (v u : V) (kd md : List PyData) (x : Str) (d : PyData), vs = [v, .str x, u, .non] ∧ Dd H v (.tuple [.tuple kd, .tuple md]) ∧ kindsB (.tuple kd) = true ∧ makersB (kd.map nameOf) (.tuple md) = true ∧ x ∈ kd.map nameOf ∧ Dd H u d ∧ okT d = true ∧ d.depth < n ∧
  ∀ H', Same H H' → Q (.bl (tmB kd md d x)) H'
theorem sc_is_term_of : FnScope ["sig", "kind", "thing", "known", "name", "args", "arg", "part"] ["sig", "kind", "thing", "known"] (defScope s_is_term_of) := ⟨rfl, rfl, rfl, by decide +kernel, rfl, by decide +kernel, by decide +kernel⟩
theorem ok_is_term_of_step {n : Nat} (D : Df K mg "_law_is_term_of" s_is_term_of) (B : Bi mg) (Bz : mg "zip" = none) (G0 : Gd P w K mg base CX0 (n + 2) "_law_is_term_of" ["sig", "kind", "thing", "known"] (spTO n)) (G1 : Gd P w K mg base CX0 1 "_law_is_name" ["thing"] spName) (G2 : Gd P w K mg base CX0 1 "_law_is_open" ["sig", "kind"] spIsOpen) (G3 : Gd P w K mg base CX0 1 "_law_is_whole" ["thing"] spWhole) (G4 : Gd P w K mg base CX0 1 "_law_makers" ["sig", "kind"] spLMakers) : Gd P w K mg base CX0 (n + 3) "_law_is_term_of" ["sig", "kind", "thing", "known"] (spTO (n + 1)) := by
  refine gd_of D (fun _ _ _ _ _ _ us hl => match us, hl with | [_, _, _, _], _ => rfl) fun f fd F => ?_
  refine fun_q F sc_is_term_of (fun vs H Q E h => by obtain ⟨v, u, kd, md, x, d, rfl, _⟩ := h; rfl) (fun cdv A outer s H vs Q E hr hq h => ?_)
  obtain ⟨v, u, kd, md, x, d, rfl, hd, k1, k2, hx, hu, okd, dep, k⟩ := h
  refine ⟨_, (pss_cons (ps_if (PW.pt (pw_or (pt_not (pt_val (pe_callB call_isi (by rfl) B.isinstance (by decide +kernel) (pa_cons (pv 2) (pa_cons (pe_bltn (v := V.ty "tuple") (by rfl) B.tuple (by decide +kernel) rfl) pa_nil))))) (pw_or (pt_cmpR (op_eqE (un0 hr)) (pv 2) (pe_tup pa_nil) (nomark _)) (pw_or1 (pt_not (pt_val (pe_callB call_isi (by rfl) B.isinstance (by decide +kernel) (pa_cons (pe_ix ix_tup (pv 2) pe_int (fun _ _ => rfl)) (pa_cons (pe_bltn (v := V.ty "str") (by rfl) B.str (by decide +kernel) rfl) pa_nil))))))))) (pss_one (ps_ret pe_bl)) pss_nil)
      (pss_cons (ps_if (pt_cmpR op_eq (pe_ix ix_tup (pv 2) pe_int (fun _ _ => rfl)) pe_str (nomark _)) (pss_cons (ps_if (PW.pt (pw_or (pt_cmpR op_isN (pv 3) pe_non (nomark _)) (pw_or (pt_cmpR op_ne (pe_callB call_len_seq (by rfl) B.len (by decide +kernel) (pa_cons (pv 2) pa_nil)) pe_int (nomark _)) (pw_or1 (pt_not (pt_val (pe_g (G1.mono (by omega)) hr hq (pa_cons (pe_ix ix_tup (pv 2) pe_int (fun _ _ => rfl)) pa_nil)))))))) (pss_one (ps_ret pe_bl)) pss_nil)
      (pss_cons (ps_dput (hu_of hr) (pv 3) (pe_ix ix_tup (pv 2) pe_int (fun _ _ => rfl)) (pe_dget2 (hu_of hr) (pv 3) (pe_ix ix_tup (pv 2) pe_int (fun _ _ => rfl)) (pv 1) ⟨by rfl, by rfl, by rfl, by rfl⟩) rfl)
      (pss_one (ps_ret (pe_cmpR op_eq (pe_dget (hu_of hr) (pv 3) (pe_ix ix_tup (pv 2) pe_int (fun _ _ => rfl)) (fun _ _ => rfl)) (pv 1) (nomark _)))))) pss_nil)
      (pss_cons (ps_if (pt_cmpR op_eq (pe_ix ix_tup (pv 2) pe_int (fun _ _ => rfl)) pe_str (nomark _)) (pss_cons (ps_if (PW.pt (pw_or (pt_cmpR op_notN (pv 3) pe_non (nomark _)) (pw_or (pt_cmpR op_ne (pe_callB call_len_seq (by rfl) B.len (by decide +kernel) (pa_cons (pv 2) pa_nil)) pe_int (nomark _)) (pw_or (pt_not (pt_val (pe_g (G2.mono (by omega)) hr hq (pa_cons (pv 0) (pa_cons (pv 1) pa_nil))))) (pw_or1 (pt_not (pt_val (pe_callB call_isi (by rfl) B.isinstance (by decide +kernel) (pa_cons (pe_ix ix_tup (pv 2) pe_int (fun _ _ => rfl)) (pa_cons (pe_bltn (v := V.ty "str") (by rfl) B.str (by decide +kernel) rfl) pa_nil)))))))))) (pss_one (ps_ret pe_bl)) pss_nil)
      (pss_one (ps_ret (pe_and (pe_cmpR op_eq (pe_ix ix_tup (pv 2) pe_int (fun _ _ => rfl)) (pv 1) (nomark _)) (pe_and (pe_g (G3.mono (by omega)) hr hq (pa_cons (pe_ix ix_tup (pv 2) pe_int (fun _ _ => rfl)) pa_nil)) (pe_one (pe_cmpR op_gt (pe_ix ix_tup (pv 2) pe_int (fun _ _ => rfl)) pe_int (nomark _)))))))) pss_nil)
      (pss_cons (ps_for PassesOwn.never rfl (pi_list (pe_g (G4.mono (by omega)) hr hq (pa_cons (pv 0) (pa_cons (pv 1) pa_nil)))) (pg_tup rfl (pgs_cons (pg_name (i := 4) sc_is_term_of.nd rfl (Or.inl rfl)) (pgs_cons (pg_name (i := 5) sc_is_term_of.nd rfl (Or.inl rfl)) pgs_nil))) (pss_one (ps_if (pt_cmpR op_eq (pv 4) (pe_ix ix_tup (pv 2) pe_int (fun _ _ => rfl)) (nomark _)) (pss_cons (ps_if (pt_cmpR op_ne (pe_callB call_len_seq (by rfl) B.len (by decide +kernel) (pa_cons (pv 5) pa_nil)) (pe_op op_sub (pe_callB call_len_seq (by rfl) B.len (by decide +kernel) (pa_cons (pv 2) pa_nil)) pe_int) (nomark _)) (pss_one (ps_ret pe_bl)) pss_nil)
      (pss_one (ps_ret (pe_callB (cr_all rfl) (by rfl) B.all (by decide +kernel) (pa_cons (pe_lc (own := [("arg", 6), ("part", 7)]) (g := (gTup K 2 (gCons (gName 6) (gCons (gName 7) gNil)))) (tt := tYes) rfl sc_is_term_of.nd (RZ.pi_zipA (by rfl) Bz (pa_cons (pv 5) (pa_cons (pe_slice sl_tupA (pv 2) (po_some pe_int) po_none) pa_nil))) (blkOk_by (own := [("arg", 6), ("part", 7)]) (N := ["sig", "kind", "thing", "known", "name", "args", "arg", "part"]) (sc := defScope s_is_term_of) (by decide +kernel)) (fun _ _ _ _ _ => (pg_tup rfl (pgs_cons (pg_name (i := 6) sc_is_term_of.nd rfl (Or.inl rfl)) (pgs_cons (pg_name (i := 7) sc_is_term_of.nd rfl (Or.inl rfl)) pgs_nil)))) (fun _ _ _ _ _ => pts_nil) (fun _ _ _ _ _ => (pe_g (G0.mono (by omega)) hr hq (pa_cons (pv 0) (pa_cons (pv 6) (pa_cons (pv 7) (pa_cons (pv 3) pa_nil))))))) pa_nil))))) pss_nil)))
      (pss_one (ps_ret pe_bl)))))), ?_⟩
  walk_at "rd"
  refine ⟨_, V.ty _, _, _, _, rfl, ClsV.ty _, Dd.ty hu, kit_ty (kit_tup d), ?_⟩
  refine ⟨_, rfl, ?_⟩
  obtain ⟨l24, mb, mnd⟩ := makersB_parts k2
  obtain ⟨l1, l8, kb, knd⟩ := kindsB_parts k1
  have nx : nameS x = true := name_of_kind kb hx
  cases d with
  | tuple ds =>
    obtain ⟨t, xs, rfl, e, A⟩ := hu.tupD
    have la := A.length
    refine iteF ⟨_, rfl, ?_⟩
    refine ⟨Nat.zero_le _, fun t0 ht0 => ?_⟩
    have s1 : Same H (upd H t0 (.tup [])) := same_new ht0 _
    refine ⟨t, t0, xs, rfl, rfl, SqT.of (s1 _ _ e), SqT.of upd_same, ?_⟩
    have bad : tmB kd md (.tuple ds) x = false → ∀ H', Same H H' → Q (.bl false) H' := fun z H' s => by
      have q := k H' s
      rw [z] at q
      exact q
    cases A with
    | nil => exact ⟨_, rfl, iteT (iteT (bad tmB_nil _ s1))⟩
    | @cons v0 vs0 d0 ds0 h0 A0 =>
    refine ⟨_, rfl, iteF ⟨_, rfl, ?_⟩⟩
    generalize upd H t0 (.tup []) = H1 at s1 ⊢
    refine ⟨t, _, 0, _, rfl, rfl, SqT.of (s1 _ _ e), atI_nat (j := 0) rfl, ?_⟩
    refine ⟨_, V.ty _, _, _, _, rfl, ClsV.ty _, Dd.ty (h0.mono s1), kit_ty (kit_str d0), ?_⟩
    refine ⟨_, rfl, ?_⟩
    cases e0 : isStr d0 with
    | false =>
      exact iteT (bad (tmB_odd e0) _ s1)
    | true =>
    obtain ⟨h, rfl⟩ : ∃ h, d0 = .str h := by cases d0 with | str h => exact ⟨h, rfl⟩ | _ => cases e0
    cases h0
    refine iteF ?_
    refine ⟨_, rfl, t, _, 0, _, rfl, rfl, SqT.of (s1 _ _ e), atI_nat (j := 0) rfl, rfl, _, rfl, ?_⟩
    rw [dec_str]
    by_cases c1 : h = "?"
    · subst c1
      rw [decide_eq_true rfl]
      have b : tmB kd md (.tuple (.str "?" :: ds0)) x = false := by
        rw [tmB_mark mb (by decide +kernel)]
        rw [stranger_hash (fun z => by injection z with z; exact absurd z (by decide)), Bool.and_false]
      refine iteT ⟨_, rfl, rfl, _, rfl, ?_⟩
      rw [decide_eq_true rfl]
      exact iteT (iteT (bad b _ s1))
    rw [decide_eq_false c1]
    refine iteF ?_
    refine ⟨_, rfl, t, _, 0, _, rfl, rfl, SqT.of (s1 _ _ e), atI_nat (j := 0) rfl, rfl, _, rfl, ?_⟩
    rw [dec_str]
    have la0 := A0.length
    by_cases c2 : h = "#"
    · subst c2
      rw [decide_eq_true rfl]
      rw [tmB_mark mb (by decide +kernel)] at bad k
      refine iteT ⟨_, rfl, rfl, _, rfl, ?_⟩
      rw [decide_eq_true rfl]
      refine iteF ⟨_, rfl, t, _, rfl, .inr (SqT.of (s1 _ _ e)), rfl, _, rfl, ?_⟩
      rw [show decide (V.int ((V.str "#" :: vs0).length : Nat) = V.int 3) = decide (vs0.length = 2) from decide_eq_decide.mpr ⟨fun z => by injection z with z; simp at z; omega, fun z => by simp [z]⟩]
      by_cases lz : vs0.length = 2
      case neg =>
        rw [decide_eq_false lz]
        exact iteT (iteT (bad (by rw [stranger_3 (by omega), Bool.and_false]) _ s1))
      rw [decide_eq_true lz]
      cases A0 with
      | nil => cases lz
      | @cons v1 vs1 d1 ds1 h1 A1 =>
      cases A1 with
      | nil => cases lz
      | @cons v2 vs2 d2 ds2 h2 A2 =>
      cases A2 with
      | cons => simp at lz
      | nil =>
      refine iteF ⟨_, rfl, _, rfl, v, kd, _, x, rfl, hd.mono s1, k1, nx, fun H2 s2 => ⟨_, rfl, ?_⟩⟩
      have s12 := s1.trans s2
      cases e1 : S0 kd x with
      | false =>
        rw [e1] at bad
        exact iteT (iteT (bad rfl _ s12))
      | true =>
      rw [e1, Bool.true_and] at bad k
      refine iteF ⟨_, rfl, t, _, 1, _, rfl, rfl, SqT.of (s12 _ _ e), rfl, ?_⟩
      refine ⟨_, V.ty _, _, _, _, rfl, ClsV.ty _, Dd.ty (h1.mono s12), kit_ty (kit_str d1), ?_⟩
      refine ⟨_, rfl, ?_⟩
      cases e2 : isStr d1 with
      | false =>
        refine iteT (bad ?_ _ s12)
        cases d1 with
        | str => cases e2
        | _ => rfl
      | true =>
      obtain ⟨y, rfl⟩ : ∃ y, d1 = .str y := by cases d1 with | str y => exact ⟨y, rfl⟩ | _ => cases e2
      cases h1
      have eq3 : strangerB x (.tuple [.str "#", .str y, d2]) = (decide (y = x) && (wholeB d2 && match d2 with | .int n => decide (1 ≤ n) | _ => false)) := by
        cases d2 <;> simp [strangerB, wholeB, isInt, isBool]
      rw [eq3] at k
      refine iteF ?_
      refine ⟨_, rfl, t, _, 1, _, rfl, rfl, SqT.of (s12 _ _ e), rfl, _, rfl, rfl, _, rfl, ?_⟩
      rw [dec_str]
      by_cases c3 : y = x
      case neg =>
        rw [decide_eq_false c3] at k ⊢
        exact iteF (k _ s12)
      rw [decide_eq_true c3] at k ⊢
      refine iteT ⟨_, rfl, t, _, 2, _, rfl, rfl, SqT.of (s12 _ _ e), rfl, v2, d2, rfl, h2.mono s12, fun H3 s3 => ⟨_, rfl, ?_⟩⟩
      have s13 := s12.trans s3
      cases ew : wholeB d2 with
      | false =>
        rw [ew] at k
        exact iteF (k _ s13)
      | true =>
      rw [ew] at k
      obtain ⟨i, rfl⟩ := isInt_of ew
      cases h2
      refine iteT ⟨_, rfl, t, _, 2, _, rfl, rfl, SqT.of (s13 _ _ e), rfl, ?_⟩
      have q := k _ s13
      rw [show (true && (true && decide ((1 : Int) ≤ i))) = decide ((0 : Int) < i) from by rw [Bool.true_and, Bool.true_and]; exact decide_eq_decide.mpr (by omega)] at q
      walk_at "rd"
      exact q
    rw [decide_eq_false c2]
    refine iteF ?_
    rw [tmB_make c2] at bad k
    refine ⟨_, rfl, _, rfl, v, kd, md, x, rfl, hd.mono s1, k2, fun l ys H2 s2 hl el M => ?_⟩
    have s12 := s1.trans s2
    have lM := M.len
    refine ⟨l, rfl, ⟨_, SqL.of el⟩, ?_⟩
    refine for_it walk_list (fun i σ H3 => ∃ n4 n5, σ = [some v, some (.str x), some (.ref t), some .non, n4, n5, none, none] ∧ Same H2 H3 ∧ ∀ m ∈ (ofKind md x).take i, nameOf m ≠ h) ⟨_, _, rfl, Same.refl _, fun m hm => by rw [List.take_zero] at hm; cases hm⟩
      (fun i σ H3 _ p => by obtain ⟨_, _, _, s, _⟩ := p; exact SqL.of (s _ _ el)) (fun i y σ H3p H3 hi p hy => ?_) (fun σ H3 p => ?_)
    rotate_left
    · obtain ⟨n4, n5, rfl, s3, no⟩ := p
      refine bad ?_ H3 (s12.trans s3)
      rw [lM, List.take_length] at no
      cases fm : findM md h with
      | none => rfl
      | some m =>
        obtain ⟨mm, en⟩ := findM_mem fm
        dsimp only
        by_cases ck : kindOf m = x
        · exact absurd en (no m (List.mem_filter.mpr ⟨mm, decide_eq_true ck⟩))
        · rw [decide_eq_false ck]; rfl
    obtain ⟨rfl, ey⟩ := hy
    obtain ⟨n4, n5, rfl, s3, no⟩ := p
    have s13 := s12.trans s3
    obtain ⟨m, em, tt, nv, na, rfl, ht, hna⟩ := (M.mono fun b o e _ => s3 _ _ e).get ey
    have hmm := List.mem_of_getElem? em
    obtain ⟨hmd, hmk⟩ := List.mem_filter.mp hmm
    have hmk : kindOf m = x := of_decide_eq_true hmk
    refine ⟨tt, _, rfl, SqT.of ht, rfl, _, _, rfl, _, _, rfl, rfl, ?_⟩
    refine ⟨_, rfl, _, rfl, t, _, 0, _, rfl, rfl, SqT.of (s13 _ _ e), atI_nat (j := 0) rfl, rfl, _, rfl, ?_⟩
    rw [dec_str]
    by_cases c3 : nameOf m = h
    case neg =>
      rw [decide_eq_false c3]
      refine iteF ⟨_, _, rfl, s3, fun m' hm' => ?_⟩
      rw [List.take_add_one, em] at hm'
      rcases List.mem_append.mp hm' with z | z
      · exact no m' z
      · rw [show m' = m from List.mem_singleton.mp z]; exact c3
    rw [decide_eq_true c3]
    subst c3
    rw [findM_kind mnd hmd] at bad k
    dsimp only at bad k
    rw [decide_eq_true hmk, Bool.true_and] at bad k
    refine iteT ⟨_, rfl, na, _, rfl, .inr (SqT.of hna), ?_⟩
    refine ⟨_, rfl, t, _, rfl, .inr (SqT.of (s13 _ _ e)), ?_⟩
    walk_at "rd"
    rw [show decide (V.int (((needsOf m).map V.str).length : Nat) = V.int (((V.str (nameOf m) :: vs0).length : Nat) - 1)) = decide (ds0.length = (needsOf m).length) from decide_eq_decide.mpr ⟨fun z => by injection z with z; simp at z; omega, fun z => by rw [List.length_map, List.length_cons]; congr 1; omega⟩]
    by_cases lz : ds0.length = (needsOf m).length
    case neg =>
      rw [decide_eq_false lz]
      refine iteT (bad ?_ _ s13)
      cases c : tmL kd md ds0 (needsOf m) with
      | false => rfl
      | true => exact absurd (tmL_len c) lz
    rw [decide_eq_true lz]
    rw [tmL_all lz] at k
    clear bad
    refine iteF ?_
    refine ⟨_, rfl, ?_⟩
    refine ⟨_, rfl, _, rfl, ?_⟩
    dsimp only [tNoPart]
    refine slA_tail (s13 _ _ e) fun c H4 s4 ec => ?_
    have s14 := s13.trans s4
    refine ⟨na, c, _, _, rfl, .inr ⟨SqT.of (s4 _ _ hna), SqT.of ec, fun D hD => ?_⟩⟩
    refine lc_it (walk_zipT (xs := (needsOf m).map V.str) (ys := vs0) rfl) (fun i H5 => Same H4 H5 ∧ H5 D = some (.lst (((((needsOf m).zip ds0).take i).map fun q => tmB kd md q.2 q.1).map V.bl))) ⟨same_new hD _, by rw [List.take_zero]; exact upd_same⟩
      (fun i H5 _ p => ⟨SqT.of (p.1 _ _ (s4 _ _ hna)), SqT.of (p.1 _ _ ec)⟩) (fun i y H5p H5 hi p hy => ?_) (fun H5 p => ?_)
    · obtain ⟨T, a1, b1, rfl, nT, rfl, ea1, eb1⟩ := hy
      obtain ⟨s5, e5⟩ := p
      dsimp only at ea1 eb1
      rw [List.getElem?_map] at ea1
      obtain ⟨arg, ea, rfl⟩ := Option.map_eq_some_iff.mp ea1
      obtain ⟨dd, edd, hdd⟩ := A0.get eb1
      have s6 : Same H4 (upd H5p T (.tup [.str arg, b1])) := s5.trans (same_new nT _)
      have e6 := same_new nT (.tup [.str arg, b1]) _ _ e5
      have s06 := s14.trans s6
      refine ⟨T, _, rfl, SqT.of upd_same, rfl, _, _, rfl, _, _, rfl, rfl, rfl, ?_⟩
      have nok := needs_ok2 (mb m hmd)
      have lns := needs_few (mb m hmd)
      refine ⟨_, rfl, _, rfl, _, rfl, _, rfl, v, b1, kd, md, arg, dd, rfl, hd.mono s06, k1, k2, nok arg (List.mem_of_getElem? ea), hdd.mono s06, okTs_mem okd dd (List.mem_cons_of_mem _ (List.mem_of_getElem? edd)), ?_, fun H6 s7 => ?_⟩
      · have h1 := depth_mem (List.mem_of_getElem? edd)
        have h2 : (PyData.tuple (.str (nameOf m) :: ds0)).depth = PyData.depthAll (.str (nameOf m) :: ds0) + 1 := by rw [PyData.depth]
        have h3 : PyData.depthAll ds0 ≤ PyData.depthAll (.str (nameOf m) :: ds0) := by
          show _ ≤ max _ (PyData.depthAll ds0)
          exact Nat.le_max_right _ _
        omega
      · refine ⟨_, s7 _ _ e6, by rw [sizeLine_eq, List.length_map, List.length_map, List.length_take, List.length_zip]; omega, same_put (s6.trans s7) hD, ?_⟩
        rw [upd_same, List.take_add_one, List.getElem?_zip_eq_some (z := (arg, dd)).mpr ⟨ea, edd⟩, List.map_append, List.map_append]
        rfl
    · obtain ⟨s5, e5⟩ := p
      have ez : ((needsOf m).zip ds0).take (min ((needsOf m).map V.str).length vs0.length) = (needsOf m).zip ds0 := List.take_of_length_le (by rw [List.length_zip, List.length_map]; omega)
      rw [ez] at e5
      refine ⟨D, _, rfl, SqL.of e5, ?_⟩
      have q := k H5 (s14.trans s5)
      rw [show (((needsOf m).zip ds0).map fun q => tmB kd md q.2 q.1).all id = ((needsOf m).zip ds0).all fun q => tmB kd md q.2 q.1 from by rw [List.all_map]; rfl]
      exact q
  | _ => exact iteT (iteT (by have q := k H (Same.refl H); rw [tmB_not_tup rfl] at q; exact q))

end

section
variable {P : Program} {w : World} {K : PySem.W.Frag} {mg : Str → Option Value} {base : Heap}

theorem ok_is_term_of (D : Df K mg "_law_is_term_of" s_is_term_of) (B : Bi mg) (Bz : mg "zip" = none) (G1 : Gd P w K mg base CX0 1 "_law_is_name" ["thing"] spName) (G2 : Gd P w K mg base CX0 1 "_law_is_open" ["sig", "kind"] spIsOpen) (G3 : Gd P w K mg base CX0 1 "_law_is_whole" ["thing"] spWhole) (G4 : Gd P w K mg base CX0 1 "_law_makers" ["sig", "kind"] spLMakers) :
    ∀ n : Nat, Gd P w K mg base CX0 (n + 2) "_law_is_term_of" ["sig", "kind", "thing", "known"] (spTO n)
  | 0 => by
    refine gd_of D (fun _ _ _ _ _ _ us hl => match us, hl with | [_, _, _, _], _ => rfl) fun f fd F => ?_
    have no : ∀ {vs : List V} {H : Hp} {Q : VK} {E : XK}, ¬ spTO 0 vs H Q E := fun h => by
      obtain ⟨_, _, _, _, _, _, _, _, _, _, _, _, _, z, _⟩ := h
      exact Nat.not_lt_zero _ z
    exact fun_q F sc_is_term_of (fun vs H Q E h => (no h).elim) (fun cdv A outer s H vs Q E hr hq h => (no h).elim)
  | n + 1 => ok_is_term_of_step D B Bz (ok_is_term_of D B Bz G1 G2 G3 G4 n) G1 G2 G3 G4

def spLTerm (n : Nat) : Sp := fun vs H Q _ => ∃ (v u : V) (kd md : List PyData) (x : Str) (d : PyData), vs = [v, .str x, u] ∧ Dd H v (.tuple [.tuple kd, .tuple md]) ∧ kindsB (.tuple kd) = true ∧ makersB (kd.map nameOf) (.tuple md) = true ∧ x ∈ kd.map nameOf ∧ Dd H u d ∧ okT d = true ∧ d.depth < n ∧
  ∀ H', Same H H' → Q (.bl (tmB kd md d x)) H'
theorem sc_lis_term : FnScope ["sig", "kind", "thing"] ["sig", "kind", "thing"] (defScope s_lis_term) := ⟨rfl, rfl, rfl, by decide +kernel, rfl, by decide +kernel, by decide +kernel⟩
theorem ok_lis_term {n : Nat} (D : Df K mg "_law_is_term" s_lis_term) (G1 : Gd P w K mg base CX0 (n + 2) "_law_is_term_of" ["sig", "kind", "thing", "known"] (spTO n)) : Gd P w K mg base CX0 (n + 3) "_law_is_term" ["sig", "kind", "thing"] (spLTerm n) := by
  refine gd_of D (fun _ _ _ _ _ _ us hl => match us, hl with | [_, _, _], _ => rfl) fun f fd F => ?_
  refine fun_q F sc_lis_term (fun vs H Q E h => by obtain ⟨v, u, kd, md, x, d, rfl, _⟩ := h; rfl) (fun cdv A outer s H vs Q E hr hq h => ?_)
  obtain ⟨v, u, kd, md, x, d, rfl, hd, k1, k2, hx, hu, okd, dep, k⟩ := h
  refine ⟨_, (pss_one (ps_ret (pe_g G1 hr hq (pa_cons (pv 0) (pa_cons (pv 1) (pa_cons (pv 2) (pa_cons pe_non pa_nil))))))), ?_⟩
  exact ⟨_, rfl, _, rfl, _, rfl, v, u, kd, md, x, d, rfl, hd, k1, k2, hx, hu, okd, dep, k⟩

end

/-- a dict of texts that tells what g tells -/
def KG (kvs : List (Key × V)) (g : Str → Option Str) : Prop := (∀ n, valV kvs (Sum.inr n) = (g n).map V.str) ∧ ∃ ns : List Str, kvs.map (·.1) = ns.map (fun n => (Sum.inr n : Key)) ∧ ns.Nodup
/-- what came of asking one term, or several: g before, g2 after; o: its variables, if it is a pattern -/
structure TPost (g g2 : Str → Option Str) (o : Option (List (Str × Str))) (b : Bool) : Prop where
  ext : ∀ n k, g n = some k → g2 n = some k
  bad : o = none → b = false
  there : ∀ ls, o = some ls → ∀ p ∈ ls, ∃ k, g2 p.1 = some k
  iff : ∀ ls, o = some ls → (b = true ↔ ∀ p ∈ ls, g2 p.1 = some p.2)
  own : ∀ ls, o = some ls → ∀ n k, g2 n = some k → g n = some k ∨ (n, k) ∈ ls
theorem TPost.no {g : Str → Option Str} {o : Option (List (Str × Str))} (h : o = none) : TPost g g o false :=
  ⟨fun _ _ e => e, fun _ => rfl, fun ls e => (by rw [h] at e; cases e), fun ls e => (by rw [h] at e; cases e), fun ls e => (by rw [h] at e; cases e)⟩
theorem TPost.nil {g : Str → Option Str} : TPost g g (some []) true :=
  ⟨fun _ _ e => e, fun e => (by cases e), fun ls e p hp => (by cases e; cases hp), fun ls e => ⟨fun _ p hp => (by cases e; cases hp), fun _ => rfl⟩, fun ls e n k h => .inl h⟩
theorem TPost.var {g : Str → Option Str} {n x : Str} : TPost g (fun y => if y = n then some ((g n).getD x) else g y) (some [(n, x)]) (decide ((g n).getD x = x)) := by
  refine ⟨fun m k e => ?_, fun h => (by cases h), fun ls h p hp => ?_, fun ls h => ?_, fun ls h m k e => ?_⟩
  · by_cases c : m = n
    · subst c
      rw [if_pos rfl, e]; rfl
    · rw [if_neg c]; exact e
  · cases h
    rw [List.mem_singleton] at hp
    subst hp
    exact ⟨_, if_pos rfl⟩
  · cases h
    rw [decide_eq_true_iff]
    constructor
    · intro q p hp
      rw [List.mem_singleton] at hp
      subst hp
      dsimp only
      rw [if_pos rfl, q]
    · intro q
      have q := q (n, x) (List.mem_singleton_self _)
      dsimp only at q
      rw [if_pos rfl] at q
      exact Option.some.inj q
  · cases h
    by_cases c : m = n
    · subst c
      rw [if_pos rfl] at e
      cases eg : g m with
      | none =>
        rw [eg] at e
        cases e
        exact .inr (List.mem_singleton_self _)
      | some z =>
        rw [eg] at e
        exact .inl e
    · rw [if_neg c] at e
      exact .inl e
theorem putK_le (c : List (Key × V)) (k : Key) (x : V) : (putK c k x).length ≤ c.length + 1 := by
  unfold putK
  split <;> simp
def both (a b : Option (List (Str × Str))) : Option (List (Str × Str)) := match a, b with | some x, some y => some (x ++ y) | _, _ => none
theorem TPost.app {g g1 g2 : Str → Option Str} {o1 o2 : Option (List (Str × Str))} {b1 b2 : Bool} (p1 : TPost g g1 o1 b1) (p2 : TPost g1 g2 o2 b2) : TPost g g2 (both o1 o2) (b1 && b2) := by
  have bn : both o1 o2 = none → o1 = none ∨ o2 = none := fun h => by
    cases o1 with
    | none => exact .inl rfl
    | some x => cases o2 with
      | none => exact .inr rfl
      | some y => cases h
  have bs : ∀ ls, both o1 o2 = some ls → ∃ x y, o1 = some x ∧ o2 = some y ∧ ls = x ++ y := fun ls h => by
    cases o1 with
    | none => cases o2 <;> cases h
    | some x => cases o2 with
      | none => cases h
      | some y => cases h; exact ⟨x, y, rfl, rfl, rfl⟩
  refine ⟨fun n k e => p2.ext n k (p1.ext n k e), fun h => ?_, fun ls h p hp => ?_, fun ls h => ?_, fun ls h n k e => ?_⟩
  · rcases bn h with z | z
    · rw [p1.bad z]; rfl
    · rw [p2.bad z]; exact Bool.and_false _
  · obtain ⟨x, y, e1, e2, rfl⟩ := bs ls h
    rcases List.mem_append.mp hp with z | z
    · obtain ⟨k, e⟩ := p1.there x e1 p z
      exact ⟨k, p2.ext _ _ e⟩
    · exact p2.there y e2 p z
  · obtain ⟨x, y, e1, e2, rfl⟩ := bs ls h
    rw [Bool.and_eq_true, p1.iff x e1, p2.iff y e2]
    constructor
    · rintro ⟨h1, h2⟩ p hp
      rcases List.mem_append.mp hp with z | z
      · exact p2.ext _ _ (h1 p z)
      · exact h2 p z
    · intro hh
      refine ⟨fun p z => ?_, fun p z => hh p (List.mem_append_right _ z)⟩
      obtain ⟨k, e⟩ := p1.there x e1 p z
      have q := hh p (List.mem_append_left _ z)
      rw [p2.ext _ _ e] at q
      rw [e]; exact q
  · obtain ⟨x, y, e1, e2, rfl⟩ := bs ls h
    rcases p2.own y e2 n k e with z | z
    · rcases p1.own x e1 n k z with w | w
      · exact .inl w
      · exact .inr (List.mem_append_left _ w)
    · exact .inr (List.mem_append_right _ z)
theorem pkL_snoc {md : List PyData} {d : PyData} {n : Str} : ∀ {ds : List PyData} {ns : List Str}, ds.length = ns.length → pkL md (ds ++ [d]) (ns ++ [n]) = both (pkL md ds ns) (pkB md d n)
  | [], [], _ => by
    show pkL md [d] [n] = both (pkL md [] []) (pkB md d n)
    rw [pkL, pkL, pkL]
    cases pkB md d n with
    | none => rfl
    | some a => show some (a ++ []) = some ([] ++ a); simp
  | e :: ds, m :: ns, h => by
    show pkL md (e :: (ds ++ [d])) (m :: (ns ++ [n])) = _
    rw [pkL, pkL, pkL_snoc (by simpa using h)]
    cases pkB md e m with
    | none => rfl
    | some a => cases pkL md ds ns with
      | none => rfl
      | some b => cases pkB md d n with
        | none => rfl
        | some c => show some (a ++ (b ++ c)) = some ((a ++ b) ++ c); rw [List.append_assoc]
  | [], _ :: _, h => by cases h
  | _ :: _, [], h => by cases h
theorem pkB_not_tup {md : List PyData} {x : Str} {d : PyData} (h : isTup d = false) : pkB md d x = none := by
  cases d with
  | tuple => cases h
  | _ => rfl
theorem variable_2 {d0 : PyData} {ds : List PyData} (h : d0 ≠ .str "?" ∨ ds.length ≠ 1) : variableB (.tuple (d0 :: ds)) = false := by
  cases c : variableB (.tuple (d0 :: ds)) with
  | false => rfl
  | true =>
    obtain ⟨n, e, _⟩ := variableB_some c
    cases e
    rcases h with h | h
    · exact absurd rfl h
    · exact absurd rfl h
theorem pkB_odd {md : List PyData} {x : Str} {d0 : PyData} {ds : List PyData} (h : isStr d0 = false) : pkB md (.tuple (d0 :: ds)) x = none := by
  rw [pkB, variable_2 (.inl fun z => by rw [z] at h; cases h)]
  cases d0 with
  | str => cases h
  | _ => rfl
theorem pkB_mark {md : List PyData} {ks : List Str} (mb : ∀ m ∈ md, makerB ks m = true) {h : Str} {ps : List PyData} {x : Str} (n : nameS h = false) (v : variableB (.tuple (.str h :: ps)) = false) : pkB md (.tuple (.str h :: ps)) x = none := by
  rw [pkB, v]
  show pkH md (.str h :: ps) x = none
  rw [pkH, mark_no mb n]
theorem pkB_make {md : List PyData} {h : Str} {ps : List PyData} {x : Str} (n : h ≠ "?") : pkB md (.tuple (.str h :: ps)) x = match findM md h with | some m => if kindOf m = x then pkL md ps (needsOf m) else none | none => none := by
  rw [pkB, variable_2 (.inl fun z => by injection z with z; exact n z)]
  show pkH md (.str h :: ps) x = _
  rw [pkH]
  all_goals (cases findM md h <;> rfl)
theorem putK_keys {kvs : List (Key × V)} {ns : List Str} {n : Str} {v : V} (h : kvs.map (·.1) = ns.map (fun n => (Sum.inr n : Key))) (nd : ns.Nodup) : ∃ ms : List Str, (putK kvs (Sum.inr n) v).map (·.1) = ms.map (fun n => (Sum.inr n : Key)) ∧ ms.Nodup := by
  unfold putK
  by_cases c : (kvs.any fun kv => decide (kv.1 = (Sum.inr n : Key))) = true
  · rw [if_pos c]
    refine ⟨ns, ?_, nd⟩
    rw [List.map_map, ← h]
    refine List.map_congr_left fun p hp => ?_
    show (if p.1 = Sum.inr n then (p.1, v) else p).1 = p.1
    by_cases q : p.1 = Sum.inr n
    · rw [if_pos q]
    · rw [if_neg q]
  · rw [if_neg c]
    refine ⟨ns ++ [n], by rw [List.map_append, List.map_append, h]; rfl, ?_⟩
    rw [List.nodup_append]
    refine ⟨nd, List.nodup_cons.mpr ⟨by simp, List.nodup_nil⟩, fun a ha b hb e => ?_⟩
    rw [List.mem_singleton] at hb
    subst hb
    subst e
    have : (Sum.inr a : Key) ∈ kvs.map (·.1) := by rw [h]; exact List.mem_map.mpr ⟨a, ha, rfl⟩
    obtain ⟨p, hp, e⟩ := List.mem_map.mp this
    exact c (List.any_eq_true.mpr ⟨p, hp, decide_eq_true e⟩)
theorem KG.put {kvs : List (Key × V)} {g : Str → Option Str} {n k : Str} (h : KG kvs g) : KG (putK kvs (Sum.inr n) (.str k)) (fun y => if y = n then some k else g y) := by
  obtain ⟨h1, ns, h2, h3⟩ := h
  refine ⟨fun y => ?_, putK_keys h2 h3⟩
  rw [valV_put]
  by_cases c : y = n
  · subst c
    rw [if_pos rfl]
    simp
  · rw [if_neg (fun z => c (Sum.inr.inj z))]
    simp only [if_neg c]
    exact h1 y
theorem psz_mem {ds : List PyData} {d : PyData} {i : Nat} (e : ds[i]? = some d) : pszs (ds.take (i + 1)) = pszs (ds.take i) + psz d := by
  rw [List.take_add_one, e]
  have app : ∀ (a b : List PyData), pszs (a ++ b) = pszs a + pszs b := fun a b => by
    induction a with
    | nil => rw [List.nil_append, pszs]; omega
    | cons z a ih => rw [List.cons_append, pszs, pszs, ih]; omega
  rw [app]
  show pszs _ + pszs [d] = _
  rw [pszs, pszs]
  rfl
theorem psz_take (ds : List PyData) (i : Nat) : pszs (ds.take i) ≤ pszs ds := by
  induction ds generalizing i with
  | nil => simp
  | cons d ds ih => cases i with
    | zero => rw [List.take_zero, pszs]; omega
    | succ i => rw [List.take_succ_cons, pszs, pszs]; have := ih i; omega

section
variable {P : Program} {w : World} {K : PySem.W.Frag} {mg : Str → Option Value} {base : Heap}

/-- _law_is_term_of(sig, kind, thing, known), n deep, known a dict -/
def spTP (n : Nat) : Sp := fun vs H Q _ => ∃ (v u : V) (kd md : List PyData) (x : Str) (d : PyData) (f : Addr) (kvs : List (Key × V)) (g : Str → Option Str), vs = [v, .str x, u, .ref f] ∧ Dd (L2.del H f) v (.tuple [.tuple kd, .tuple md]) ∧ kindsB (.tuple kd) = true ∧ makersB (kd.map nameOf) (.tuple md) = true ∧ x ∈ kd.map nameOf ∧
  Dd (L2.del H f) u d ∧ okT d = true ∧ d.depth < n ∧ H f = some (.dK kvs) ∧ KG kvs g ∧ kvs.length + psz d ≤ 1000000 ∧
  ∀ (b : Bool) (H' : Hp) (kvs2 : List (Key × V)) (g2 : Str → Option Str), But f H H' → H' f = some (.dK kvs2) → KG kvs2 g2 → kvs2.length ≤ kvs.length + psz d → TPost g g2 (pkB md d x) b → Q (.bl b) H'

theorem ok_is_pat_step {n : Nat} (D : Df K mg "_law_is_term_of" s_is_term_of) (B : Bi mg) (Bz : mg "zip" = none) (G0 : Gd P w K mg base CX0 (n + 2) "_law_is_term_of" ["sig", "kind", "thing", "known"] (spTP n)) (G1 : Gd P w K mg base CX0 1 "_law_is_name" ["thing"] spName) (G2 : Gd P w K mg base CX0 1 "_law_is_open" ["sig", "kind"] spIsOpen) (G3 : Gd P w K mg base CX0 1 "_law_is_whole" ["thing"] spWhole) (G4 : Gd P w K mg base CX0 1 "_law_makers" ["sig", "kind"] spLMakers) : Gd P w K mg base CX0 (n + 3) "_law_is_term_of" ["sig", "kind", "thing", "known"] (spTP (n + 1)) := by
  refine gd_of D (fun _ _ _ _ _ _ us hl => match us, hl with | [_, _, _, _], _ => rfl) fun f fd F => ?_
  refine fun_q F sc_is_term_of (fun vs H Q E h => by obtain ⟨v, u, kd, md, x, d, f, kvs, g, rfl, _⟩ := h; rfl) (fun cdv A outer s H vs Q E hr hq h => ?_)
  obtain ⟨v, u, kd, md, x, d, fK, kvs, g, rfl, hd, k1, k2, hx, hu, okd, dep, ef, kg, lsz, k⟩ := h
  refine ⟨_, (pss_cons (ps_if (PW.pt (pw_or (pt_not (pt_val (pe_callB call_isi (by rfl) B.isinstance (by decide +kernel) (pa_cons (pv 2) (pa_cons (pe_bltn (v := V.ty "tuple") (by rfl) B.tuple (by decide +kernel) rfl) pa_nil))))) (pw_or (pt_cmpR (op_eqE (un0 hr)) (pv 2) (pe_tup pa_nil) (nomark _)) (pw_or1 (pt_not (pt_val (pe_callB call_isi (by rfl) B.isinstance (by decide +kernel) (pa_cons (pe_ix ix_tup (pv 2) pe_int (fun _ _ => rfl)) (pa_cons (pe_bltn (v := V.ty "str") (by rfl) B.str (by decide +kernel) rfl) pa_nil))))))))) (pss_one (ps_ret pe_bl)) pss_nil)
      (pss_cons (ps_if (pt_cmpR op_eq (pe_ix ix_tup (pv 2) pe_int (fun _ _ => rfl)) pe_str (nomark _)) (pss_cons (ps_if (PW.pt (pw_or (pt_cmpR op_isN (pv 3) pe_non (nomark _)) (pw_or (pt_cmpR op_ne (pe_callB call_len_seq (by rfl) B.len (by decide +kernel) (pa_cons (pv 2) pa_nil)) pe_int (nomark _)) (pw_or1 (pt_not (pt_val (pe_g (G1.mono (by omega)) hr hq (pa_cons (pe_ix ix_tup (pv 2) pe_int (fun _ _ => rfl)) pa_nil)))))))) (pss_one (ps_ret pe_bl)) pss_nil)
      (pss_cons (ps_dput (hu_of hr) (pv 3) (pe_ix ix_tup (pv 2) pe_int (fun _ _ => rfl)) (pe_dget2 (hu_of hr) (pv 3) (pe_ix ix_tup (pv 2) pe_int (fun _ _ => rfl)) (pv 1) ⟨by rfl, by rfl, by rfl, by rfl⟩) rfl)
      (pss_one (ps_ret (pe_cmpR op_eq (pe_dget (hu_of hr) (pv 3) (pe_ix ix_tup (pv 2) pe_int (fun _ _ => rfl)) (fun _ _ => rfl)) (pv 1) (nomark _)))))) pss_nil)
      (pss_cons (ps_if (pt_cmpR op_eq (pe_ix ix_tup (pv 2) pe_int (fun _ _ => rfl)) pe_str (nomark _)) (pss_cons (ps_if (PW.pt (pw_or (pt_cmpR op_notN (pv 3) pe_non (nomark _)) (pw_or (pt_cmpR op_ne (pe_callB call_len_seq (by rfl) B.len (by decide +kernel) (pa_cons (pv 2) pa_nil)) pe_int (nomark _)) (pw_or (pt_not (pt_val (pe_g (G2.mono (by omega)) hr hq (pa_cons (pv 0) (pa_cons (pv 1) pa_nil))))) (pw_or1 (pt_not (pt_val (pe_callB call_isi (by rfl) B.isinstance (by decide +kernel) (pa_cons (pe_ix ix_tup (pv 2) pe_int (fun _ _ => rfl)) (pa_cons (pe_bltn (v := V.ty "str") (by rfl) B.str (by decide +kernel) rfl) pa_nil)))))))))) (pss_one (ps_ret pe_bl)) pss_nil)
      (pss_one (ps_ret (pe_and (pe_cmpR op_eq (pe_ix ix_tup (pv 2) pe_int (fun _ _ => rfl)) (pv 1) (nomark _)) (pe_and (pe_g (G3.mono (by omega)) hr hq (pa_cons (pe_ix ix_tup (pv 2) pe_int (fun _ _ => rfl)) pa_nil)) (pe_one (pe_cmpR op_gt (pe_ix ix_tup (pv 2) pe_int (fun _ _ => rfl)) pe_int (nomark _)))))))) pss_nil)
      (pss_cons (ps_for PassesOwn.never rfl (pi_list (pe_g (G4.mono (by omega)) hr hq (pa_cons (pv 0) (pa_cons (pv 1) pa_nil)))) (pg_tup rfl (pgs_cons (pg_name (i := 4) sc_is_term_of.nd rfl (Or.inl rfl)) (pgs_cons (pg_name (i := 5) sc_is_term_of.nd rfl (Or.inl rfl)) pgs_nil))) (pss_one (ps_if (pt_cmpR op_eq (pv 4) (pe_ix ix_tup (pv 2) pe_int (fun _ _ => rfl)) (nomark _)) (pss_cons (ps_if (pt_cmpR op_ne (pe_callB call_len_seq (by rfl) B.len (by decide +kernel) (pa_cons (pv 5) pa_nil)) (pe_op op_sub (pe_callB call_len_seq (by rfl) B.len (by decide +kernel) (pa_cons (pv 2) pa_nil)) pe_int) (nomark _)) (pss_one (ps_ret pe_bl)) pss_nil)
      (pss_one (ps_ret (pe_callB (cr_all rfl) (by rfl) B.all (by decide +kernel) (pa_cons (pe_lc (own := [("arg", 6), ("part", 7)]) (g := (gTup K 2 (gCons (gName 6) (gCons (gName 7) gNil)))) (tt := tYes) rfl sc_is_term_of.nd (RZ.pi_zipA (by rfl) Bz (pa_cons (pv 5) (pa_cons (pe_slice sl_tupA (pv 2) (po_some pe_int) po_none) pa_nil))) (blkOk_by (own := [("arg", 6), ("part", 7)]) (N := ["sig", "kind", "thing", "known", "name", "args", "arg", "part"]) (sc := defScope s_is_term_of) (by decide +kernel)) (fun _ _ _ _ _ => (pg_tup rfl (pgs_cons (pg_name (i := 6) sc_is_term_of.nd rfl (Or.inl rfl)) (pgs_cons (pg_name (i := 7) sc_is_term_of.nd rfl (Or.inl rfl)) pgs_nil)))) (fun _ _ _ _ _ => pts_nil) (fun _ _ _ _ _ => (pe_g (G0.mono (by omega)) hr hq (pa_cons (pv 0) (pa_cons (pv 6) (pa_cons (pv 7) (pa_cons (pv 3) pa_nil))))))) pa_nil))))) pss_nil)))
      (pss_one (ps_ret pe_bl)))))), ?_⟩
  walk_at "rd"
  refine ⟨_, V.ty _, _, _, _, rfl, ClsV.ty _, Dd.ty hu.all, kit_ty (kit_tup d), ?_⟩
  refine ⟨_, rfl, ?_⟩
  obtain ⟨l24, mb, mnd⟩ := makersB_parts k2
  obtain ⟨l1, l8, kb, knd⟩ := kindsB_parts k1
  have nx : nameS x = true := name_of_kind kb hx
  have bad : pkB md d x = none → ∀ H', Same H H' → Q (.bl false) H' := fun z H' s => k false H' kvs g (Same.but s) (s _ _ ef) kg (Nat.le_add_right _ _) (.no z)
  cases d with
  | tuple ds =>
    obtain ⟨t, xs, rfl, e, A⟩ := hu.tupD
    have la := A.length
    have eH : ∀ {H'}, Same H H' → H' t = some (.tup xs) := fun {H'} s => s _ _ (del_old _ _ e)
    refine iteF ⟨_, rfl, ?_⟩
    refine ⟨Nat.zero_le _, fun t0 ht0 => ?_⟩
    have s1 : Same H (upd H t0 (.tup [])) := same_new ht0 _
    refine ⟨t, t0, xs, rfl, rfl, SqT.of (eH s1), SqT.of upd_same, ?_⟩
    cases A with
    | nil => exact ⟨_, rfl, iteT (iteT (bad (by rw [pkB]; rfl) _ s1))⟩
    | @cons v0 vs0 d0 ds0 h0 A0 =>
    refine ⟨_, rfl, iteF ⟨_, rfl, ?_⟩⟩
    generalize upd H t0 (.tup []) = H1 at s1 ⊢
    refine ⟨t, _, 0, _, rfl, rfl, SqT.of (eH s1), atI_nat (j := 0) rfl, ?_⟩
    refine ⟨_, V.ty _, _, _, _, rfl, ClsV.ty _, Dd.ty (h0.all.mono s1), kit_ty (kit_str d0), ?_⟩
    refine ⟨_, rfl, ?_⟩
    cases e0 : isStr d0 with
    | false => exact iteT (bad (pkB_odd e0) _ s1)
    | true =>
    obtain ⟨h, rfl⟩ : ∃ h, d0 = .str h := by cases d0 with | str h => exact ⟨h, rfl⟩ | _ => cases e0
    cases h0
    have la0 := A0.length
    refine iteF ?_
    refine ⟨_, rfl, t, _, 0, _, rfl, rfl, SqT.of (eH s1), atI_nat (j := 0) rfl, rfl, _, rfl, ?_⟩
    rw [dec_str]
    by_cases c1 : h = "?"
    · subst c1
      rw [decide_eq_true rfl]
      refine iteT ⟨_, rfl, rfl, _, rfl, ?_⟩
      rw [decide_eq_false (by intro z; cases z)]
      refine iteF ⟨_, rfl, t, _, rfl, .inr (SqT.of (eH s1)), rfl, _, rfl, ?_⟩
      rw [show decide (V.int ((V.str "?" :: vs0).length : Nat) = V.int 2) = decide (vs0.length = 1) from decide_eq_decide.mpr ⟨fun z => by injection z with z; simp at z; omega, fun z => by simp [z]⟩]
      by_cases lz : vs0.length = 1
      case neg =>
        rw [decide_eq_false lz]
        exact iteT (iteT (bad (pkB_mark mb (by decide +kernel) (variable_2 (.inr (by omega)))) _ s1))
      rw [decide_eq_true lz]
      cases A0 with
      | nil => cases lz
      | @cons v1 vs1 d1 ds1 h1 A1 =>
      cases A1 with
      | cons => simp at lz
      | nil =>
      refine iteF ⟨_, rfl, t, _, 1, _, rfl, rfl, SqT.of (eH s1), rfl, v1, d1, rfl, h1.all.mono s1, okTs_mem okd d1 (by simp), fun H2 s2 => ⟨_, rfl, ?_⟩⟩
      have s12 := s1.trans s2
      cases en : isNameB d1 with
      | false =>
        refine iteT (bad (pkB_mark mb (by decide +kernel) ?_) _ s12)
        cases c : variableB (.tuple [.str "?", d1]) with
        | false => rfl
        | true =>
          obtain ⟨n, e, hn⟩ := variableB_some c
          cases e
          have en : nameS n = false := en
          rw [hn] at en
          cases en
      | true =>
      obtain ⟨nm, rfl⟩ : ∃ nm, d1 = .str nm := by cases d1 with | str y => exact ⟨y, rfl⟩ | _ => cases en
      cases h1
      have en : nameS nm = true := en
      have ef2 := s12 _ _ ef
      have e2 := eH s12
      have lkv : kvs.length ≤ 1000000 := by omega
      have dg := DGet.k (k := Sum.inr nm) ef2
      rw [kg.1 nm] at dg
      refine iteF ⟨_, rfl, fK, rfl, .inl ⟨kvs, .inl ef2⟩, ?_⟩
      refine ⟨_, rfl, t, _, 1, _, rfl, rfl, SqT.of e2, rfl, ?_⟩
      refine ⟨_, rfl, _, dg, ?_⟩
      rw [show ((g nm).map V.str).getD (.str x) = .str ((g nm).getD x) from by cases g nm <;> rfl]
      refine ⟨_, rfl, _, rfl, t, _, 1, _, rfl, rfl, SqT.of e2, rfl, ?_⟩
      refine ⟨fK, _, rfl, DPut.k (k := Sum.inr nm) ef2 (by rw [sizeLine_eq]; omega), ?_⟩
      have e3 := dict_put (kvs2 := putK kvs (Sum.inr nm) (.str ((g nm).getD x))) ef2 e2
      have ef3 : upd H2 fK (.dK (putK kvs (Sum.inr nm) (.str ((g nm).getD x)))) fK = some (.dK (putK kvs (Sum.inr nm) (.str ((g nm).getD x)))) := upd_same
      have b3 : But fK H (upd H2 fK (.dK (putK kvs (Sum.inr nm) (.str ((g nm).getD x))))) := (Same.but s12).put
      generalize upd H2 fK (.dK (putK kvs (Sum.inr nm) (.str ((g nm).getD x)))) = H3 at e3 ef3 b3 ⊢
      have dg3 := DGet.k (k := Sum.inr nm) ef3
      rw [valV_put, if_pos rfl] at dg3
      refine ⟨_, rfl, _, rfl, t, _, 1, _, rfl, rfl, SqT.of e3, rfl, ?_⟩
      refine ⟨fK, _, rfl, dg3, _, rfl, rfl, ?_⟩
      rw [dec_str]
      have pz : psz (.tuple [.str "?", .str nm]) = 3 := by simp [psz, pszs]
      refine k _ _ _ _ b3 ef3 kg.put (Nat.le_trans (putK_le _ _ _) (by omega)) ?_
      rw [pkB_var en]
      exact TPost.var
    rw [decide_eq_false c1]
    refine iteF ?_
    refine ⟨_, rfl, t, _, 0, _, rfl, rfl, SqT.of (eH s1), atI_nat (j := 0) rfl, rfl, _, rfl, ?_⟩
    rw [dec_str]
    by_cases c2 : h = "#"
    · subst c2
      rw [decide_eq_true rfl]
      refine iteT ⟨_, rfl, rfl, _, rfl, ?_⟩
      rw [decide_eq_false (by intro z; cases z)]
      exact iteT (iteT (bad (pkB_mark mb (by decide +kernel) (variable_2 (.inl fun z => by injection z with z; exact absurd z (by decide)))) _ s1))
    rw [decide_eq_false c2]
    refine iteF ?_
    rw [pkB_make c1] at bad k
    refine ⟨_, rfl, _, rfl, v, kd, md, x, rfl, hd.all.mono s1, k2, fun l ys H2 s2 hl el M => ?_⟩
    have s12 := s1.trans s2
    have lM := M.len
    refine ⟨l, rfl, ⟨_, SqL.of el⟩, ?_⟩
    refine for_it walk_list (fun i σ H3 => ∃ n4 n5, σ = [some v, some (.str x), some (.ref t), some (.ref fK), n4, n5, none, none] ∧ Same H2 H3 ∧ ∀ m ∈ (ofKind md x).take i, nameOf m ≠ h) ⟨_, _, rfl, Same.refl _, fun m hm => by rw [List.take_zero] at hm; cases hm⟩
      (fun i σ H3 _ p => by obtain ⟨_, _, _, s, _⟩ := p; exact SqL.of (s _ _ el)) (fun i y σ H3p H3 hi p hy => ?_) (fun σ H3 p => ?_)
    rotate_left
    · obtain ⟨n4, n5, rfl, s3, no⟩ := p
      refine bad ?_ H3 (s12.trans s3)
      rw [lM, List.take_length] at no
      cases fm : findM md h with
      | none => rfl
      | some m =>
        obtain ⟨mm, en⟩ := findM_mem fm
        dsimp only
        by_cases ck : kindOf m = x
        · exact absurd en (no m (List.mem_filter.mpr ⟨mm, decide_eq_true ck⟩))
        · rw [if_neg ck]
    obtain ⟨rfl, ey⟩ := hy
    obtain ⟨n4, n5, rfl, s3, no⟩ := p
    have s13 := s12.trans s3
    obtain ⟨m, em, tt, nv, na, rfl, ht, hna⟩ := (M.mono fun b o e _ => s3 _ _ e).get ey
    have hmm := List.mem_of_getElem? em
    obtain ⟨hmd, hmk⟩ := List.mem_filter.mp hmm
    have hmk : kindOf m = x := of_decide_eq_true hmk
    refine ⟨tt, _, rfl, SqT.of ht, rfl, _, _, rfl, _, _, rfl, rfl, ?_⟩
    refine ⟨_, rfl, _, rfl, t, _, 0, _, rfl, rfl, SqT.of (eH s13), atI_nat (j := 0) rfl, rfl, _, rfl, ?_⟩
    rw [dec_str]
    by_cases c3 : nameOf m = h
    case neg =>
      rw [decide_eq_false c3]
      refine iteF ⟨_, _, rfl, s3, fun m' hm' => ?_⟩
      rw [List.take_add_one, em] at hm'
      rcases List.mem_append.mp hm' with z | z
      · exact no m' z
      · rw [show m' = m from List.mem_singleton.mp z]; exact c3
    rw [decide_eq_true c3]
    subst c3
    rw [findM_kind mnd hmd] at bad k
    dsimp only at bad k
    rw [if_pos hmk] at bad k
    refine iteT ⟨_, rfl, na, _, rfl, .inr (SqT.of hna), ?_⟩
    refine ⟨_, rfl, t, _, rfl, .inr (SqT.of (eH s13)), ?_⟩
    walk_at "rd"
    rw [show decide (V.int (((needsOf m).map V.str).length : Nat) = V.int (((V.str (nameOf m) :: vs0).length : Nat) - 1)) = decide (ds0.length = (needsOf m).length) from decide_eq_decide.mpr ⟨fun z => by injection z with z; simp at z; omega, fun z => by rw [List.length_map, List.length_cons]; congr 1; omega⟩]
    by_cases lz : ds0.length = (needsOf m).length
    case neg =>
      rw [decide_eq_false lz]
      refine iteT (bad ?_ _ s13)
      cases c : pkL md ds0 (needsOf m) with
      | none => rfl
      | some ls => exact absurd (pkL_len c) lz
    rw [decide_eq_true lz]
    clear bad
    refine iteF ?_
    refine ⟨_, rfl, ?_⟩
    refine ⟨_, rfl, _, rfl, ?_⟩
    dsimp only [tNoPart]
    refine slA_tail (eH s13) fun c H4 s4 ec => ?_
    have s14 := s13.trans s4
    refine ⟨na, c, _, _, rfl, .inr ⟨SqT.of (s4 _ _ hna), SqT.of ec, fun D hD => ?_⟩⟩
    have ef4 := s14 _ _ ef
    have nDf : D ≠ fK := fun z => by rw [z, ef4] at hD; cases hD
    have hna4 := s4 _ _ hna
    have pz : psz (.tuple (.str (nameOf m) :: ds0)) = 2 + pszs ds0 := by
      rw [psz, pszs, psz]
      · omega
      · intros; simp_all
    have keep : ∀ {H5 : Hp}, But fK H4 H5 → ∀ {b : Addr} {zs : List V}, H4 b = some (.tup zs) → H5 b = some (.tup zs) := fun {H5} bt {b zs} q => bt _ _ (fun z => by rw [z, ef4] at q; cases q) q
    refine lc_it (walk_zipT (xs := (needsOf m).map V.str) (ys := vs0) rfl) (fun i H5 => But fK H4 H5 ∧ ∃ bs kvs5 g5, H5 D = some (.lst ((bs : List Bool).map V.bl)) ∧ bs.length = i ∧ H5 fK = some (.dK kvs5) ∧ KG kvs5 g5 ∧ kvs5.length ≤ kvs.length + pszs (ds0.take i) ∧ TPost g g5 (pkL md (ds0.take i) ((needsOf m).take i)) (bs.all id))
      ⟨Same.but (same_new hD _), [], kvs, g, upd_same, rfl, same_new hD _ _ _ ef4, kg, Nat.le_add_right _ _, by rw [List.take_zero, List.take_zero, pkL]; exact .nil⟩
      (fun i H5 _ p => ⟨SqT.of (keep p.1 hna4), SqT.of (keep p.1 ec)⟩) (fun i y H5p H5 hi p hy => ?_) (fun H5 p => ?_)
    · obtain ⟨T, a1, b1, rfl, nT, rfl, ea1, eb1⟩ := hy
      obtain ⟨b5, bs, kvs5, g5, e5, lbs, ef5, kg5, lk5, TP⟩ := p
      dsimp only at ea1 eb1
      rw [List.getElem?_map] at ea1
      obtain ⟨arg, ea, rfl⟩ := Option.map_eq_some_iff.mp ea1
      obtain ⟨dd, edd, hdd⟩ := A0.get eb1
      have b6 : But fK H4 (upd H5p T (.tup [.str arg, b1])) := b5.trans (Same.but (same_new nT _))
      have e6 := same_new nT (.tup [.str arg, b1]) _ _ e5
      have ef6 := same_new nT (.tup [.str arg, b1]) _ _ ef5
      have b06 : But fK H (upd H5p T (.tup [.str arg, b1])) := (Same.but s14).trans b6
      refine ⟨T, _, rfl, SqT.of upd_same, rfl, _, _, rfl, _, _, rfl, rfl, rfl, ?_⟩
      have nok := needs_ok2 (mb m hmd)
      have lns := needs_few (mb m hmd)
      have pm := psz_mem edd
      have pt := psz_take ds0 (i + 1)
      refine ⟨_, rfl, _, rfl, _, rfl, _, rfl, v, b1, kd, md, arg, dd, fK, kvs5, g5, rfl, hd.but b06, k1, k2, nok arg (List.mem_of_getElem? ea), hdd.but b06, okTs_mem okd dd (List.mem_cons_of_mem _ (List.mem_of_getElem? edd)), ?_, ef6, kg5, by omega, fun b H6 kvs6 g6 b7 ef7 kg6 lk6 TP6 => ?_⟩
      · have h1 := depth_mem (List.mem_of_getElem? edd)
        have h2 : (PyData.tuple (.str (nameOf m) :: ds0)).depth = PyData.depthAll (.str (nameOf m) :: ds0) + 1 := by rw [PyData.depth]
        have h3 : PyData.depthAll ds0 ≤ PyData.depthAll (.str (nameOf m) :: ds0) := by
          show _ ≤ max _ (PyData.depthAll ds0)
          exact Nat.le_max_right _ _
        omega
      · have e7 := b7 _ _ nDf e6
        refine ⟨_, e7, by rw [sizeLine_eq, List.length_map]; have := (List.getElem?_eq_some_iff.mp ea).1; omega, fun z o nz q => ?_, bs ++ [b], kvs6, g6, ?_, by rw [List.length_append, lbs]; rfl, by rw [upd_ne nDf.symm]; exact ef7, kg6, by omega, ?_⟩
        · have nz2 : z ≠ D := fun w => by rw [w, hD] at q; cases q
          rw [upd_ne nz2]
          exact (b6.trans b7) z o nz q
        · rw [upd_same, List.map_append]; rfl
        · rw [List.take_add_one, List.take_add_one, ea, edd]
          show TPost g g6 (pkL md (ds0.take i ++ [dd]) ((needsOf m).take i ++ [arg])) ((bs ++ [b]).all id)
          rw [pkL_snoc (by rw [List.length_take, List.length_take, lz]), List.all_append]
          have := TP.app TP6
          simpa using this
    · obtain ⟨b5, bs, kvs5, g5, e5, lbs, ef5, kg5, lk5, TP⟩ := p
      have ez1 : ds0.take (min ((needsOf m).map V.str).length vs0.length) = ds0 := List.take_of_length_le (by rw [List.length_map]; omega)
      have ez2 : (needsOf m).take (min ((needsOf m).map V.str).length vs0.length) = needsOf m := List.take_of_length_le (by rw [List.length_map]; omega)
      rw [ez1, ez2] at TP
      rw [ez1] at lk5
      exact ⟨D, _, rfl, SqL.of e5, k _ H5 kvs5 g5 ((Same.but s14).trans b5) ef5 kg5 (by omega) TP⟩
  | _ => exact iteT (iteT (bad (pkB_not_tup rfl) _ (Same.refl H)))

end

section
variable {P : Program} {w : World} {K : PySem.W.Frag} {mg : Str → Option Value} {base : Heap}

theorem ok_is_pat (D : Df K mg "_law_is_term_of" s_is_term_of) (B : Bi mg) (Bz : mg "zip" = none) (G1 : Gd P w K mg base CX0 1 "_law_is_name" ["thing"] spName) (G2 : Gd P w K mg base CX0 1 "_law_is_open" ["sig", "kind"] spIsOpen) (G3 : Gd P w K mg base CX0 1 "_law_is_whole" ["thing"] spWhole) (G4 : Gd P w K mg base CX0 1 "_law_makers" ["sig", "kind"] spLMakers) :
    ∀ n : Nat, Gd P w K mg base CX0 (n + 2) "_law_is_term_of" ["sig", "kind", "thing", "known"] (spTP n)
  | 0 => by
    refine gd_of D (fun _ _ _ _ _ _ us hl => match us, hl with | [_, _, _, _], _ => rfl) fun f fd F => ?_
    have no : ∀ {vs : List V} {H : Hp} {Q : VK} {E : XK}, ¬ spTP 0 vs H Q E := fun h => by
      obtain ⟨_, _, _, _, _, _, _, _, _, _, _, _, _, _, _, _, z, _⟩ := h
      exact Nat.not_lt_zero _ z
    exact fun_q F sc_is_term_of (fun vs H Q E h => (no h).elim) (fun cdv A outer s H vs Q E hr hq h => (no h).elim)
  | n + 1 => ok_is_pat_step D B Bz (ok_is_pat D B Bz G1 G2 G3 G4 n) G1 G2 G3 G4
theorem same_del {H : Hp} {f : Addr} {o : HO} (n : H f = none) : Same H (L2.del (upd H f o) f) := fun b u q => by
  have c : b ≠ f := fun z => by rw [z, n] at q; cases q
  rw [del_ne c, upd_ne c]
  exact q
theorem but_same {H H' : Hp} {f : Addr} {o : HO} (n : H f = none) (b : But f (upd H f o) H') : Same H H' := fun a u q => by
  have c : a ≠ f := fun z => by rw [z, n] at q; cases q
  exact b a u c (by rw [upd_ne c]; exact q)
theorem KG.nil : KG [] (fun _ => none) := ⟨fun n => rfl, [], rfl, List.nodup_nil⟩
theorem TPost.fun {g2 : Str → Option Str} {ls : List (Str × Str)} {b : Bool} (h : TPost (fun _ => none) g2 (some ls) b) : b = funB ls := by
  rw [Bool.eq_iff_iff, h.iff ls rfl, funB_iff]
  constructor
  · intro q a c ha hc e
    have h1 := q a ha
    have h2 := q c hc
    rw [e, h2] at h1
    exact (Option.some.inj h1).symm
  · intro F p hp
    obtain ⟨k, e⟩ := h.there ls rfl p hp
    rcases h.own ls rfl p.1 k e with z | z
    · cases z
    · have w : k = p.2 := F (p.1, k) p z hp rfl
      rw [e, w]
theorem pats_post {md : List PyData} {ks : List Str} {ps : List PyData} {g2 : Str → Option Str} {b : Bool} (h : TPost (fun _ => none) g2 (pkL md ps ks) b) : b = patsB md ks (.tuple ps) := by
  show b = match pkL md ps ks with | some ls => funB ls | none => false
  cases e : pkL md ps ks with
  | none => exact h.bad e
  | some ls =>
    rw [e] at h
    exact h.fun

def spLPats (n : Nat) : Sp := fun vs H Q _ => ∃ (v z u : V) (kd md : List PyData) (ks : List Str) (d : PyData), vs = [v, z, u] ∧ Dd H v (.tuple [.tuple kd, .tuple md]) ∧ kindsB (.tuple kd) = true ∧ makersB (kd.map nameOf) (.tuple md) = true ∧ Dd H z (.tuple (ks.map PyData.str)) ∧ ks.length ≤ 4 ∧ (∀ x ∈ ks, x ∈ kd.map nameOf) ∧ Dd H u d ∧ okT d = true ∧ d.depth ≤ n ∧ psz d ≤ 1000000 ∧
  ∀ H', Same H H' → Q (.bl (patsB md ks d)) H'
theorem sc_lare_patterns : FnScope ["sig", "kinds", "thing", "known", "kind", "part"] ["sig", "kinds", "thing"] (defScope s_lare_patterns) := ⟨rfl, rfl, rfl, by decide +kernel, rfl, by decide +kernel, by decide +kernel⟩
theorem ok_lare_patterns {n : Nat} (D : Df K mg "_law_are_patterns" s_lare_patterns) (B : Bi mg) (Bz : mg "zip" = none) (G0 : Gd P w K mg base CX0 (n + 2) "_law_is_term_of" ["sig", "kind", "thing", "known"] (spTP n)) (G1 : Gd P w K mg base CX0 1 "_law_is_pair" ["thing", "few"] spPair) : Gd P w K mg base CX0 (n + 3) "_law_are_patterns" ["sig", "kinds", "thing"] (spLPats n) := by
  refine gd_of D (fun _ _ _ _ _ _ us hl => match us, hl with | [_, _, _], _ => rfl) fun f fd F => ?_
  refine fun_q F sc_lare_patterns (fun vs H Q E h => by obtain ⟨v, z, u, kd, md, ks, d, rfl, _⟩ := h; rfl) (fun cdv A outer s H vs Q E hr hq h => ?_)
  obtain ⟨v, z, u, kd, md, ks, d, rfl, hd, k1, k2, hz, lk, hk, hu, okd, dep, lsz, k⟩ := h
  obtain ⟨za, zx, rfl, hza, ZA⟩ := hz.tupD
  obtain rfl := ZA.strs
  refine ⟨_, (pss_cons (ps_set (i := 3) sc_lare_patterns.nd rfl (Or.inr rfl) pe_dnewK)
      (pss_cons (ps_if (pt_not (pt_val (pe_g (G1.mono (by omega)) hr hq (pa_cons (pv 2) (pa_cons (pe_callB call_len_seq (by rfl) B.len (by decide +kernel) (pa_cons (pv 1) pa_nil)) pa_nil))))) (pss_one (ps_ret pe_bl)) pss_nil)
      (pss_one (ps_ret (pe_callB (cr_all rfl) (by rfl) B.all (by decide +kernel) (pa_cons (pe_lc (own := [("kind", 4), ("part", 5)]) (g := (gTup K 2 (gCons (gName 4) (gCons (gName 5) gNil)))) (tt := tYes) rfl sc_lare_patterns.nd (RZ.pi_zipA (by rfl) Bz (pa_cons (pv 1) (pa_cons (pv 2) pa_nil))) (blkOk_by (own := [("kind", 4), ("part", 5)]) (N := ["sig", "kinds", "thing", "known", "kind", "part"]) (sc := defScope s_lare_patterns) (by decide +kernel)) (fun _ _ _ _ _ => (pg_tup rfl (pgs_cons (pg_name (i := 4) sc_lare_patterns.nd rfl (Or.inl rfl)) (pgs_cons (pg_name (i := 5) sc_lare_patterns.nd rfl (Or.inl rfl)) pgs_nil)))) (fun _ _ _ _ _ => pts_nil) (fun _ _ _ _ _ => (pe_g G0 hr hq (pa_cons (pv 0) (pa_cons (pv 4) (pa_cons (pv 5) (pa_cons (pv 3) pa_nil))))))) pa_nil)))))), ?_⟩
  dsimp only
  refine fun fK hf => ?_
  have s1 : Same H (upd H fK (.dK [])) := same_new hf _
  refine ⟨_, rfl, _, rfl, za, _, rfl, .inr (SqT.of (s1 _ _ hza)), u, d, _, rfl, hu.mono s1, fun H2 s2 => ⟨_, rfl, ?_⟩⟩
  have s12 := s1.trans s2
  rw [List.length_map]
  cases ep : isTupB d ks.length ks.length with
  | false =>
    refine iteT ?_
    have q := k H2 s12
    rw [show patsB md ks d = false from ?_] at q
    · exact q
    · cases d with
      | tuple ps =>
        refine patsB_len fun w => ?_
        have ep : (decide ((ks.length : Int) ≤ ps.length) && decide ((ps.length : Int) ≤ ks.length)) = false := ep
        rw [w, decide_eq_true (Int.le_refl _)] at ep
        cases ep
      | _ => rfl
  | true =>
  obtain ⟨ps, rfl, t1, t2⟩ := tupB_n ep
  have lp : ps.length = ks.length := by omega
  obtain ⟨ua, ux, rfl, hua, UA⟩ := hu.tupD
  have lu := UA.length
  refine iteF ?_
  refine ⟨_, rfl, _, rfl, za, ua, _, _, rfl, .inr ⟨SqT.of (s12 _ _ hza), SqT.of (s12 _ _ hua), fun D hD => ?_⟩⟩
  have b2 : But fK (upd H fK (.dK [])) H2 := Same.but s2
  have ef2 : H2 fK = some (.dK []) := s2 _ _ upd_same
  have nDf : D ≠ fK := fun w => by rw [w, ef2] at hD; cases hD
  have pz : psz (.tuple ps) = 1 + pszs ps := by rw [psz]
  refine lc_it (walk_zipT (xs := ks.map V.str) (ys := ux) rfl) (fun i H5 => But fK H2 H5 ∧ ∃ bs kvs5 g5, H5 D = some (.lst ((bs : List Bool).map V.bl)) ∧ bs.length = i ∧ H5 fK = some (.dK kvs5) ∧ KG kvs5 g5 ∧ kvs5.length ≤ pszs (ps.take i) ∧ TPost (fun _ => none) g5 (pkL md (ps.take i) (ks.take i)) (bs.all id))
    ⟨Same.but (same_new hD _), [], [], fun _ => none, upd_same, rfl, same_new hD _ _ _ ef2, .nil, Nat.zero_le _, by rw [List.take_zero, List.take_zero, pkL]; exact .nil⟩
    (fun i H5 _ p => ⟨SqT.of (but_same hf (b2.trans p.1) _ _ hza), SqT.of (but_same hf (b2.trans p.1) _ _ hua)⟩) (fun i y H5p H5 hi p hy => ?_) (fun H5 p => ?_)
  · obtain ⟨T, a1, b1, rfl, nT, rfl, ea1, eb1⟩ := hy
    obtain ⟨b5, bs, kvs5, g5, e5, lbs, ef5, kg5, lk5, TP⟩ := p
    dsimp only at ea1 eb1
    rw [List.getElem?_map] at ea1
    obtain ⟨arg, ea, rfl⟩ := Option.map_eq_some_iff.mp ea1
    obtain ⟨dd, edd, hdd⟩ := UA.get eb1
    have b6 : But fK H2 (upd H5p T (.tup [.str arg, b1])) := b5.trans (Same.but (same_new nT _))
    have e6 := same_new nT (.tup [.str arg, b1]) _ _ e5
    have ef6 := same_new nT (.tup [.str arg, b1]) _ _ ef5
    have b06 : But fK (upd H fK (.dK [])) (upd H5p T (.tup [.str arg, b1])) := b2.trans b6
    refine ⟨T, _, rfl, SqT.of upd_same, rfl, _, _, rfl, _, _, rfl, rfl, rfl, ?_⟩
    have pm := psz_mem edd
    have pt := psz_take ps (i + 1)
    refine ⟨_, rfl, _, rfl, _, rfl, _, rfl, v, b1, kd, md, arg, dd, fK, kvs5, g5, rfl, (hd.mono (same_del hf)).but b06, k1, k2, hk arg (List.mem_of_getElem? ea), (hdd.mono (same_del hf)).but b06, okTs_mem okd dd (List.mem_of_getElem? edd), ?_, ef6, kg5, by omega, fun b H6 kvs6 g6 b7 ef7 kg6 lk6 TP6 => ?_⟩
    · have h1 := depth_mem (List.mem_of_getElem? edd)
      have h2 : (PyData.tuple ps).depth = PyData.depthAll ps + 1 := by rw [PyData.depth]
      omega
    · have e7 := b7 _ _ nDf e6
      refine ⟨_, e7, by rw [sizeLine_eq, List.length_map]; have := (List.getElem?_eq_some_iff.mp ea).1; omega, fun w o nz q => ?_, bs ++ [b], kvs6, g6, ?_, by rw [List.length_append, lbs]; rfl, by rw [upd_ne nDf.symm]; exact ef7, kg6, by omega, ?_⟩
      · have nz2 : w ≠ D := fun w' => by rw [w', hD] at q; cases q
        rw [upd_ne nz2]
        exact (b6.trans b7) w o nz q
      · rw [upd_same, List.map_append]; rfl
      · rw [List.take_add_one, List.take_add_one, ea, edd]
        show TPost (fun _ => none) g6 (pkL md (ps.take i ++ [dd]) (ks.take i ++ [arg])) ((bs ++ [b]).all id)
        rw [pkL_snoc (by rw [List.length_take, List.length_take, lp]), List.all_append]
        have := TP.app TP6
        simpa using this
  · obtain ⟨b5, bs, kvs5, g5, e5, lbs, ef5, kg5, lk5, TP⟩ := p
    have ez1 : ps.take (min (ks.map V.str).length ux.length) = ps := List.take_of_length_le (by rw [List.length_map]; omega)
    have ez2 : ks.take (min (ks.map V.str).length ux.length) = ks := List.take_of_length_le (by rw [List.length_map]; omega)
    rw [ez1, ez2] at TP
    have q := k H5 (but_same hf (b2.trans b5))
    rw [← pats_post TP] at q
    exact ⟨D, _, rfl, SqL.of e5, q⟩

end

def oneS : List PyData → Bool
  | [.str _] => true
  | _ => false
theorem oneS_of {ps : List PyData} (h : oneS ps = true) : ∃ n, ps = [.str n] := by
  unfold oneS at h
  split at h
  · exact ⟨_, rfl⟩
  · cases h
def twoB : List PyData → Bool
  | [.str _, .int _] => true
  | _ => false
theorem twoB_of {ps : List PyData} (h : twoB ps = true) : ∃ k i, ps = [.str k, .int i] := by
  unfold twoB at h
  split at h
  · exact ⟨_, _, rfl⟩
  · cases h
mutual
/-- a term or pattern, whatever the signature -/
def trB : PyData → Bool
  | .tuple ds => trH ds
  | _ => false
def trH : List PyData → Bool
  | .str h :: ps => if h = "?" then oneS ps else if h = "#" then twoB ps else trL ps
  | _ => false
def trL : List PyData → Bool
  | [] => true
  | d :: ds => trB d && trL ds
end
mutual
def szD : PyData → Nat
  | .tuple ds => szH ds
  | _ => 1
def szH : List PyData → Nat
  | .str h :: ps => if h = "?" ∨ h = "#" then 1 else 1 + szL ps
  | _ => 1
def szL : List PyData → Nat
  | [] => 0
  | d :: ds => szD d + szL ds
end
theorem trL_all : ∀ {ds : List PyData}, trL ds = true → ∀ d ∈ ds, trB d = true
  | [], _, _, hd => by cases hd
  | e :: ds, h, d, hd => by
    rw [trL, Bool.and_eq_true] at h
    rcases List.mem_cons.mp hd with z | z
    · subst z; exact h.1
    · exact trL_all h.2 d z
theorem trL_of : ∀ {ds : List PyData}, (∀ d ∈ ds, trB d = true) → trL ds = true
  | [], _ => by rw [trL]
  | e :: ds, h => by
    rw [trL, h e (List.mem_cons_self ..), trL_of fun d hd => h d (List.mem_cons_of_mem _ hd)]
    rfl
/-- the ways a term can look -/
theorem trB_of {d : PyData} (h : trB d = true) : (∃ n, d = .tuple [.str "?", .str n]) ∨ (∃ k i, d = .tuple [.str "#", .str k, .int i]) ∨ ∃ h ps, d = .tuple (.str h :: ps) ∧ h ≠ "?" ∧ h ≠ "#" ∧ ∀ p ∈ ps, trB p = true := by
  cases d with
  | tuple ds =>
    rw [trB] at h
    cases ds with
    | nil => rw [trH] at h; cases h; all_goals (intros; simp_all)
    | cons a ps =>
      cases a with
      | str x =>
        rw [trH] at h
        by_cases c1 : x = "?"
        · rw [if_pos c1] at h
          subst c1
          obtain ⟨n, rfl⟩ := oneS_of h
          exact .inl ⟨n, rfl⟩
        · rw [if_neg c1] at h
          by_cases c2 : x = "#"
          · subst c2
            rw [if_pos rfl] at h
            obtain ⟨k, i, rfl⟩ := twoB_of h
            exact .inr (.inl ⟨k, i, rfl⟩)
          · rw [if_neg c2] at h
            exact .inr (.inr ⟨x, ps, rfl, c1, c2, trL_all h⟩)
      | _ => cases h
  | _ => cases h
mutual
/-- a term lies in tuples alone -/
theorem trD_mono {H H' : Hp} (s : ∀ b xs, H b = some (.tup xs) → H' b = some (.tup xs)) : ∀ {v : V} {d : PyData}, trB d = true → Dd H v d → Dd H' v d
  | _, .tuple ds, h, .tup e A => by
    refine .tup (s _ _ e) ?_
    rcases trB_of h with ⟨n, q⟩ | ⟨k, i, q⟩ | ⟨x, ps, q, _, _, hp⟩
    · cases q
      cases A with
      | cons h1 A1 => cases h1; cases A1 with
        | cons h2 A2 => cases h2; cases A2; exact .cons (.str _) (.cons (.str _) .nil)
    · cases q
      cases A with
      | cons h1 A1 => cases h1; cases A1 with
        | cons h2 A2 => cases h2; cases A2 with
          | cons h3 A3 => cases h3; cases A3; exact .cons (.str _) (.cons (.str _) (.cons (.int _) .nil))
    · cases q
      cases A with
      | cons h1 A1 => cases h1; exact .cons (.str _) (trA_mono s hp A1)
theorem trA_mono {H H' : Hp} (s : ∀ b xs, H b = some (.tup xs) → H' b = some (.tup xs)) : ∀ {vs : List V} {ds : List PyData}, (∀ d ∈ ds, trB d = true) → DdA H vs ds → DdA H' vs ds
  | _, _, _, .nil => .nil
  | _, _, h, .cons a t => .cons (trD_mono s (h _ (List.mem_cons_self ..)) a) (trA_mono s (fun x hx => h x (List.mem_cons_of_mem _ hx)) t)
end
theorem szL_sum : ∀ ds : List PyData, ((ds.map fun d => ((szD d : Nat) : Int)).sum : Int) = ((szL ds : Nat) : Int)
  | [] => by rw [szL]; rfl
  | d :: ds => by rw [List.map_cons, List.sum_cons, szL_sum ds, szL]; omega
theorem depth_part {h : PyData} {ps : List PyData} {n : Nat} (dep : (PyData.tuple (h :: ps)).depth < n + 1) : ∀ p ∈ ps, p.depth < n := fun p hp => by
  have h1 := depth_mem hp
  have h2 : (PyData.tuple (h :: ps)).depth = PyData.depthAll (h :: ps) + 1 := by rw [PyData.depth]
  have h3 : PyData.depthAll ps ≤ PyData.depthAll (h :: ps) := by
    show _ ≤ max _ (PyData.depthAll ps)
    exact Nat.le_max_right _ _
  omega

section
variable {P : Program} {w : World} {K : PySem.W.Frag} {mg : Str → Option Value} {base : Heap}

def spSize (n : Nat) : Sp := fun vs H Q _ => ∃ (u : V) (d : PyData), vs = [u] ∧ Dd H u d ∧ trB d = true ∧ psz d ≤ 1000000 ∧ d.depth < n ∧ ∀ H', Same H H' → Q (.int (szD d : Nat)) H'
theorem sc_size : FnScope ["term", "part"] ["term"] (defScope s_size) := ⟨rfl, rfl, rfl, by decide +kernel, rfl, by decide +kernel, by decide +kernel⟩
theorem ok_size_step {n : Nat} (D : Df K mg "_law_size" s_size) (B : Bi mg) (Bs : mg "sum" = none) (G0 : Gd P w K mg base CX0 (n + 1) "_law_size" ["term"] (spSize n)) : Gd P w K mg base CX0 (n + 2) "_law_size" ["term"] (spSize (n + 1)) := by
  refine gd_of D (fun _ _ _ _ _ _ us hl => match us, hl with | [_], _ => rfl) fun f fd F => ?_
  refine fun_q F sc_size (fun vs H Q E h => by obtain ⟨u, d, rfl, _⟩ := h; rfl) (fun cdv A outer s H vs Q E hr hq h => ?_)
  obtain ⟨u, d, rfl, hu, ht, lsz, dep, k⟩ := h
  refine ⟨_, (pss_one (ps_ret (pe_ifExp (pt_cmpR op_notIn_seq (pe_ix ix_tup (pv 0) pe_int (fun _ _ => rfl)) (pe_tup (pa_cons pe_str (pa_cons pe_str pa_nil))) (by rfl)) (pe_op op_add pe_int (pe_callB (cr_sum rfl) (by rfl) Bs (by decide +kernel) (pa_cons (pe_lc (own := [("part", 1)]) (g := (gName 1)) (tt := tYes) rfl sc_size.nd (pi_tup (pe_slice sl_tupA (pv 0) (po_some pe_int) po_none)) (blkOk_by (own := [("part", 1)]) (N := ["term", "part"]) (sc := defScope s_size) (by decide +kernel)) (fun _ _ _ _ _ => (pg_name (i := 1) sc_size.nd rfl (Or.inl rfl))) (fun _ _ _ _ _ => pts_nil) (fun _ _ _ _ _ => (pe_g G0 hr hq (pa_cons (pv 1) pa_nil)))) pa_nil))) pe_int))), ?_⟩
  obtain ⟨h, ps, rfl⟩ : ∃ h ps, d = .tuple (.str h :: ps) := by
    rcases trB_of ht with ⟨n, rfl⟩ | ⟨k, i, rfl⟩ | ⟨h, ps, rfl, _⟩
    · exact ⟨_, _, rfl⟩
    · exact ⟨_, _, rfl⟩
    · exact ⟨_, _, rfl⟩
  obtain ⟨t, xs, rfl, e, A⟩ := hu.tupD
  cases A with
  | @cons v0 xs0 _ _ hv0 A0 =>
  cases hv0
  have la := A0.length
  refine ⟨_, rfl, t, _, 0, _, rfl, rfl, SqT.of e, atI_nat (j := 0) rfl, ?_⟩
  refine ⟨by show 2 ≤ sizeLine; rw [sizeLine_eq]; decide, fun t1 ht1 => ?_⟩
  have s1 := same_new ht1 (.tup [.str "?", .str "#"])
  refine ⟨t1, (["?", "#"] : List Str).map V.str, rfl, .inr (SqT.of upd_same), rfl, flat_strs' _, _, rfl, ?_⟩
  rw [inV_strs]
  generalize upd H t1 (.tup [.str "?", .str "#"]) = H1 at s1 ⊢
  have em : decide (h ∈ (["?", "#"] : List Str)) = decide (h = "?" ∨ h = "#") := decide_eq_decide.mpr (by simp)
  rw [em]
  have e0 : szD (.tuple (.str h :: ps)) = if h = "?" ∨ h = "#" then 1 else 1 + szL ps := by rw [szD, szH]
  rw [e0] at k
  by_cases c : h = "?" ∨ h = "#"
  · rw [if_pos c] at k
    rw [decide_eq_true c]
    exact iteF (k _ s1)
  rw [if_neg c] at k
  rw [decide_eq_false c]
  have hp : ∀ p ∈ ps, trB p = true := by
    rcases trB_of ht with ⟨n, e⟩ | ⟨_, _, e⟩ | ⟨h, ps, e, _, _, hp⟩
    · cases e; exact absurd (.inl rfl) c
    · cases e; exact absurd (.inr rfl) c
    · cases e; exact hp
  refine iteT ?_
  refine ⟨_, rfl, _, rfl, ?_⟩
  dsimp only [tNoPart]
  refine slA_tail (s1 _ _ e) fun c2 H2 s2 ec => ?_
  have dp := depth_part dep
  have pz : psz (.tuple (.str h :: ps)) = 2 + pszs ps := by
    rw [psz, pszs, psz]
    · omega
    · intros; simp_all
  have pl : ∀ ps : List PyData, ps.length ≤ pszs ps := fun ps => by
    induction ps with
    | nil => exact Nat.zero_le _
    | cons p ps ih => rw [pszs, List.length_cons]; have := psz_pos p; omega
  have pl := pl ps
  refine ⟨c2, rfl, ⟨_, SqT.of ec⟩, fun D hD => ?_⟩
  refine lc_vals walk_tup (fun i => ps[i]?.map fun d => V.int ((szD d : Nat) : Int)) hD (by rw [la, sizeLine_eq]; omega) (fun H s => SqT.of (s _ _ ec)) (fun i y H4 H5 K1 K0 hi s4 hy k1 k0 => ?_) (fun H4 s4 e4 => ?_)
  · obtain ⟨rfl, ey⟩ := hy
    obtain ⟨d, ed, hd⟩ := A0.get ey
    have hm := List.mem_of_getElem? ed
    refine ⟨rfl, ?_⟩
    refine ⟨_, rfl, y, d, rfl, hd.mono ((s1.trans s2).trans s4), hp d hm, ?_, dp d hm, fun H6 s6 => k1 _ _ (by rw [ed]; rfl) s6⟩
    have h1 := psz_mem ed
    have h2 := psz_take ps (i + 1)
    omega
  · rw [la, range_map' (fun d => V.int ((szD d : Nat) : Int)) ps] at e4
    have e5 : (ps.map fun d => V.int ((szD d : Nat) : Int)) = (ps.map fun d => ((szD d : Nat) : Int)).map V.int := by rw [List.map_map]; rfl
    rw [e5] at e4
    refine ⟨D, _, rfl, SqL.of e4, ?_⟩
    rw [szL_sum]
    have q := k H4 ((s1.trans s2).trans s4)
    walk_at "rd"
    rw [show ((1 + szL ps : Nat) : Int) = 1 + ((szL ps : Nat) : Int) from by omega] at q
    exact q

end

theorem catA_all {K : PySem.W.Frag} {a b : Addr} {xs ys : List V} {H : Hp} {Q : VK} (ha : H a = some (.tup xs)) (hb : H b = some (.tup ys)) (hl : xs.length + ys.length ≤ sizeLine)
    (k : ∀ c H', Same H H' → H' c = some (.tup (xs ++ ys)) → Q (.ref c) H') : rCatA K (.ref a) (.ref b) H Q :=
  ⟨a, b, xs, ys, rfl, rfl, SqT.of ha, SqT.of hb, hl, fun z => k b H (Same.refl H) (by subst z; exact hb), fun _ z => k a H (Same.refl H) (by subst z; rw [List.append_nil]; exact ha), fun _ _ c hc => k c _ (same_new hc _) upd_same⟩
theorem slA_head {K : PySem.W.Frag} {a : Addr} {x : V} {xs : List V} {H : Hp} {Q : VK} (ha : H a = some (.tup (x :: xs))) (h : ∀ (c : Addr) (H' : Hp), Same H H' → H' c = some (.tup [x]) → Q (.ref c) H') : rSlA K (.ref a) none (some 1) H Q := by
  refine ⟨a, _, rfl, SqT.of ha, fun w => ?_, fun _ p hp => h p _ (same_new hp _) (by rw [show cutV (x :: xs) none (some 1) = [x] from by unfold cutV; simp [HT.sIx]]; exact upd_same)⟩
  have w2 := w.2
  cases xs with
  | nil => exact h a H (Same.refl H) ha
  | cons y ys => simp [HT.sIx] at w2
def oneN : List PyData → Str
  | .str n :: _ => n
  | _ => Str.empty
mutual
/-- the variables put for -/
def mpD (f : Str → PyData) : PyData → PyData
  | .tuple ds => mpH f ds
  | d => d
def mpH (f : Str → PyData) : List PyData → PyData
  | .str h :: ps => if h = "?" then f (oneN ps) else if h = "#" then .tuple (.str h :: ps) else .tuple (.str h :: mpL f ps)
  | ds => .tuple ds
def mpL (f : Str → PyData) : List PyData → List PyData
  | [] => []
  | d :: ds => mpD f d :: mpL f ds
end
theorem mpL_map {f : Str → PyData} : ∀ ds : List PyData, mpL f ds = ds.map (mpD f)
  | [] => by rw [mpL]; rfl
  | d :: ds => by rw [mpL, mpL_map ds]; rfl
theorem mpD_tr {f : Str → PyData} (hf : ∀ m, trB (f m) = true) : ∀ (n : Nat) (d : PyData), psz d ≤ n → trB d = true → trB (mpD f d) = true
  | 0, d, h, _ => absurd (psz_pos d) (by omega)
  | n + 1, d, h, ht => by
    rcases trB_of ht with ⟨m, rfl⟩ | ⟨k, i, rfl⟩ | ⟨x, ps, rfl, c1, c2, hp⟩
    · rw [mpD, mpH, if_pos rfl]; exact hf _
    · rw [mpD, mpH, if_neg (by decide), if_pos rfl]; exact ht
    · rw [mpD, mpH, if_neg c1, if_neg c2, trB, trH, if_neg c1, if_neg c2, mpL_map]
      refine trL_of fun d hd => ?_
      obtain ⟨p, hp', rfl⟩ := List.mem_map.mp hd
      have pz : psz (.tuple (.str x :: ps)) = 2 + pszs ps := by
        rw [psz, pszs, psz]
        · omega
        · intros; simp_all
      obtain ⟨i, ei⟩ := List.mem_iff_getElem?.mp hp'
      have h1 := psz_mem ei
      have h2 := psz_take ps (i + 1)
      exact mpD_tr hf n p (by omega) (hp p hp')
theorem lst_get {H : Hp} {f : Nat → PyData} {vs : List V} : ∀ {n : Nat}, vs.length = n → (∀ i v, vs[i]? = some v → Dd H v (f i)) → DdA H vs ((List.range n).map f) := by
  intro n l h
  subst l
  induction vs generalizing f with
  | nil => exact .nil
  | cons v vs ih =>
    rw [List.length_cons, List.range_succ_eq_map, List.map_cons, List.map_map]
    exact .cons (h 0 v rfl) (ih (f := fun i => f (i + 1)) fun i w e => h (i + 1) w (by simpa using e))

section
variable {P : Program} {w : World} {K : PySem.W.Frag} {mg : Str → Option Value} {base : Heap}

/-- what a dict tells to put for the variables -/
def PutD (H : Hp) (kvs : List (Key × V)) (f : Str → PyData) : Prop := ∀ m, (valV kvs (Sum.inr m) = none ∧ f m = .tuple [.str "?", .str m]) ∨ ∃ w, valV kvs (Sum.inr m) = some w ∧ Dd H w (f m) ∧ trB (f m) = true
theorem PutD.mono {H H' : Hp} {kvs : List (Key × V)} {f : Str → PyData} (s : Same H H') (p : PutD H kvs f) : PutD H' kvs f := fun m => (p m).imp id fun ⟨w, e, h, t⟩ => ⟨w, e, h.mono s, t⟩
def spPlaced (n : Nat) : Sp := fun vs H Q _ => ∃ (u : V) (d : PyData) (D : Addr) (kvs : List (Key × V)) (f : Str → PyData), vs = [u, .ref D] ∧ Dd H u d ∧ trB d = true ∧ psz d ≤ 1000000 ∧ d.depth < n ∧ H D = some (.dK kvs) ∧ PutD H kvs f ∧ ∀ r H', Same H H' → Dd H' r (mpD f d) → Q r H'
theorem sc_placed : FnScope ["term", "put", "part"] ["term", "put"] (defScope s_placed) := ⟨rfl, rfl, rfl, by decide +kernel, rfl, by decide +kernel, by decide +kernel⟩
theorem ok_placed_step {n : Nat} (D : Df K mg "_law_placed" s_placed) (B : Bi mg) (G0 : Gd P w K mg base CX0 (n + 1) "_law_placed" ["term", "put"] (spPlaced n)) : Gd P w K mg base CX0 (n + 2) "_law_placed" ["term", "put"] (spPlaced (n + 1)) := by
  refine gd_of D (fun _ _ _ _ _ _ us hl => match us, hl with | [_, _], _ => rfl) fun f fd F => ?_
  refine fun_q F sc_placed (fun vs H Q E h => by obtain ⟨u, d, D, kvs, f, rfl, _⟩ := h; rfl) (fun cdv A outer s H vs Q E hr hq h => ?_)
  obtain ⟨u, d, Dp, kvs, f, rfl, hu, ht, lsz, dep, eD, PD, k⟩ := h
  refine ⟨_, (pss_cons (ps_if (pt_cmpR op_eq (pe_ix ix_tup (pv 0) pe_int (fun _ _ => rfl)) pe_str (nomark _)) (pss_one (ps_ret (pe_dget2 (hu_of hr) (pv 1) (pe_ix ix_tup (pv 0) pe_int (fun _ _ => rfl)) (pv 0) ⟨by rfl, by rfl, by rfl, by rfl⟩))) pss_nil)
      (pss_one (ps_ret (pe_ifExp (pt_cmpR op_eq (pe_ix ix_tup (pv 0) pe_int (fun _ _ => rfl)) pe_str (nomark _)) (pv 0) (pe_op op_catA (pe_slice sl_tupA (pv 0) po_none (po_some pe_int)) (pe_callTy call_tuple_of (by rfl) B.tuple (by decide +kernel) (pa_cons (pe_lc (own := [("part", 2)]) (g := (gName 2)) (tt := tYes) rfl sc_placed.nd (pi_tup (pe_slice sl_tupA (pv 0) (po_some pe_int) po_none)) (blkOk_by (own := [("part", 2)]) (N := ["term", "put", "part"]) (sc := defScope s_placed) (by decide +kernel)) (fun _ _ _ _ _ => (pg_name (i := 2) sc_placed.nd rfl (Or.inl rfl))) (fun _ _ _ _ _ => pts_nil) (fun _ _ _ _ _ => (pe_g G0 hr hq (pa_cons (pv 2) (pa_cons (pv 1) pa_nil))))) pa_nil))))))), ?_⟩
  obtain ⟨h, ps, rfl⟩ : ∃ h ps, d = .tuple (.str h :: ps) := by
    rcases trB_of ht with ⟨n, rfl⟩ | ⟨k, i, rfl⟩ | ⟨h, ps, rfl, _⟩
    · exact ⟨_, _, rfl⟩
    · exact ⟨_, _, rfl⟩
    · exact ⟨_, _, rfl⟩
  have hu0 := hu
  obtain ⟨t, xs, rfl, e, A⟩ := hu.tupD
  cases A with
  | @cons v0 xs0 _ _ hv0 A0 =>
  cases hv0
  have la := A0.length
  refine ⟨_, rfl, t, _, 0, _, rfl, rfl, SqT.of e, atI_nat (j := 0) rfl, rfl, _, rfl, ?_⟩
  rw [dec_str]
  by_cases c1 : h = "?"
  · subst c1
    rw [decide_eq_true rfl]
    obtain ⟨n, rfl⟩ : ∃ n, ps = [.str n] := by
      rcases trB_of ht with ⟨n, e⟩ | ⟨_, _, e⟩ | ⟨h, ps, e, c, _⟩
      · cases e; exact ⟨n, rfl⟩
      · cases e
      · cases e; exact absurd rfl c
    cases A0 with
    | @cons v1 xs1 _ _ hv1 A1 =>
    cases hv1
    cases A1
    have dg := DGet.k (k := Sum.inr n) eD
    refine iteT ⟨_, rfl, Dp, rfl, .inl ⟨kvs, .inl eD⟩, ?_⟩
    refine ⟨_, rfl, t, _, 1, _, rfl, rfl, SqT.of e, rfl, ?_⟩
    refine ⟨_, rfl, _, dg, ?_⟩
    have em : mpD f (.tuple [.str "?", .str n]) = f n := by rw [mpD, mpH, if_pos rfl]; rfl
    rcases PD n with ⟨e1, e2⟩ | ⟨w, e1, hw, _⟩
    · rw [e1]
      refine k _ H (Same.refl H) ?_
      rw [em, e2]
      exact hu0
    · rw [e1]
      refine k _ H (Same.refl H) ?_
      rw [em]
      exact hw
  rw [decide_eq_false c1]
  refine iteF ?_
  refine ⟨_, rfl, t, _, 0, _, rfl, rfl, SqT.of e, atI_nat (j := 0) rfl, rfl, _, rfl, ?_⟩
  rw [dec_str]
  by_cases c2 : h = "#"
  · subst c2
    rw [decide_eq_true rfl]
    refine iteT ⟨_, rfl, k _ H (Same.refl H) ?_⟩
    rw [show mpD f (.tuple (.str "#" :: ps)) = .tuple (.str "#" :: ps) from by rw [mpD, mpH, if_neg c1, if_pos rfl]]
    exact hu0
  rw [decide_eq_false c2]
  have hp : ∀ p ∈ ps, trB p = true := by
    rcases trB_of ht with ⟨n, e⟩ | ⟨_, _, e⟩ | ⟨h, ps, e, _, _, hp⟩
    · cases e; exact absurd rfl c1
    · cases e; exact absurd rfl c2
    · cases e; exact hp
  refine iteF ⟨_, rfl, ?_⟩
  dsimp only [tNoPart]
  refine ⟨_, rfl, ?_⟩
  refine slA_head e fun ch H2 s2 ech => ?_
  refine ⟨_, rfl, _, rfl, ?_⟩
  dsimp only [tNoPart]
  refine slA_tail (s2 _ _ e) fun ct H3 s3 ect => ?_
  have s13 := s2.trans s3
  have hf : ∀ m, trB (f m) = true := fun m => by
    rcases PD m with ⟨_, q⟩ | ⟨_, _, _, q⟩
    · rw [q, trB, trH, if_pos rfl]; rfl
    · exact q
  have dp := depth_part dep
  have pz : psz (.tuple (.str h :: ps)) = 2 + pszs ps := by
    rw [psz, pszs, psz]
    · omega
    · intros; simp_all
  have pl : ∀ ps : List PyData, ps.length ≤ pszs ps := fun ps => by
    induction ps with
    | nil => exact Nat.zero_le _
    | cons p ps ih => rw [pszs, List.length_cons]; have := psz_pos p; omega
  have pl := pl ps
  refine ⟨ct, rfl, ⟨_, SqT.of ect⟩, fun D hD => ?_⟩
  refine lc_it walk_tup (fun i H5 => Same H3 H5 ∧ ∃ vs, H5 D = some (.lst vs) ∧ DdA H5 vs ((ps.take i).map (mpD f))) ⟨same_new hD _, [], upd_same, by rw [List.take_zero]; exact .nil⟩ (fun i H5 _ p => SqT.of (p.1 _ _ ect)) (fun i y H5p H5 hi p hy => ?_) (fun H5 p => ?_)
  · obtain ⟨rfl, ey⟩ := hy
    obtain ⟨s5, vs, e5, A5⟩ := p
    obtain ⟨dd, ed, hdd⟩ := A0.get ey
    have hm := List.mem_of_getElem? ed
    have s15 := s13.trans s5
    have l5 := A5.length
    rw [List.length_map, List.length_take] at l5
    refine ⟨rfl, ?_⟩
    refine ⟨_, rfl, _, rfl, y, dd, Dp, kvs, f, rfl, hdd.mono s15, hp dd hm, ?_, dp dd hm, s15 _ _ eD, PD.mono s15, fun r H6 s6 hr6 => ?_⟩
    · have h1 := psz_mem ed
      have h2 := psz_take ps (i + 1)
      omega
    · have e6 := s6 _ _ e5
      refine ⟨vs, e6, by rw [sizeLine_eq]; omega, same_put (s5.trans s6) hD, vs ++ [r], upd_same, ?_⟩
      rw [List.take_add_one, ed, List.map_append]
      have keep : ∀ b xs, H6 b = some (.tup xs) → upd H6 D (.lst (vs ++ [r])) b = some (.tup xs) := fun b xs q => tup_put e6 q
      have tr : ∀ d ∈ (ps.take i).map (mpD f), trB d = true := fun d hd => by
        obtain ⟨p, hp', rfl⟩ := List.mem_map.mp hd
        exact mpD_tr hf _ p (Nat.le_refl _) (hp p (List.mem_of_mem_take hp'))
      exact DdA.append (trA_mono keep tr (A5.mono s6)) (.cons (trD_mono keep (mpD_tr hf _ dd (Nat.le_refl _) (hp dd hm)) hr6) .nil)
  · obtain ⟨s5, vs, e5, A5⟩ := p
    rw [la, List.take_length] at A5
    have l5 := A5.length
    rw [List.length_map] at l5
    refine ⟨D, vs, rfl, .inl ⟨SqL.of e5, fun tt htt => ?_⟩⟩
    have s6 : Same H5 (upd H5 tt (.tup vs)) := same_new htt _
    have s16 := (s13.trans s5).trans s6
    refine catA_all (xs := [V.str h]) (ys := vs) ((s3.trans (s5.trans s6)) _ _ ech) upd_same (by rw [sizeLine_eq]; show 1 + vs.length ≤ _; omega) fun c8 H8 s8 ec8 => ?_
    refine k _ H8 (s16.trans s8) ?_
    rw [show mpD f (.tuple (.str h :: ps)) = .tuple (.str h :: ps.map (mpD f)) from by rw [mpD, mpH, if_neg c1, if_neg c2, mpL_map]]
    exact .tup ec8 (.cons (.str h) ((A5.mono s6).mono s8))

end

mutual
/-- the variables of a term, from the left -/
def nmD : PyData → List Str
  | .tuple ds => nmH ds
  | _ => []
def nmH : List PyData → List Str
  | .str h :: ps => if h = "?" then [oneN ps] else if h = "#" then [] else nmL ps
  | _ => []
def nmL : List PyData → List Str
  | [] => []
  | d :: ds => nmD d ++ nmL ds
end
theorem nmL_map : ∀ ds : List PyData, nmL ds = ds.flatMap nmD
  | [] => by rw [nmL]; rfl
  | d :: ds => by rw [nmL, nmL_map ds]; rfl
theorem nm_part {h : Str} {ps : List PyData} (c1 : h ≠ "?") (c2 : h ≠ "#") {p : PyData} (hp : p ∈ ps) : ∀ m ∈ nmD p, m ∈ nmD (.tuple (.str h :: ps)) := fun m hm => by
  rw [nmD, nmH, if_neg c1, if_neg c2, nmL_map]
  exact List.mem_flatMap.mpr ⟨p, hp, hm⟩
def varS (sg : Str → Str) (m : Str) : PyData := .tuple [.str "?", .str (sg m)]

section
variable {P : Program} {w : World} {K : PySem.W.Frag} {mg : Str → Option Value} {base : Heap}

def spSwapped (n : Nat) : Sp := fun vs H Q _ => ∃ (u : V) (d : PyData) (D : Addr) (kvs : List (Key × V)) (sg : Str → Str), vs = [u, .ref D] ∧ Dd H u d ∧ trB d = true ∧ psz d ≤ 1000000 ∧ d.depth < n ∧ H D = some (.dK kvs) ∧ (∀ m ∈ nmD d, valV kvs (Sum.inr m) = some (.str (sg m))) ∧ ∀ r H', Same H H' → Dd H' r (mpD (varS sg) d) → Q r H'
theorem sc_swapped : FnScope ["term", "names", "part"] ["term", "names"] (defScope s_swapped) := ⟨rfl, rfl, rfl, by decide +kernel, rfl, by decide +kernel, by decide +kernel⟩
theorem ok_swapped_step {n : Nat} (D : Df K mg "_law_swapped" s_swapped) (B : Bi mg) (G0 : Gd P w K mg base CX0 (n + 1) "_law_swapped" ["term", "names"] (spSwapped n)) : Gd P w K mg base CX0 (n + 2) "_law_swapped" ["term", "names"] (spSwapped (n + 1)) := by
  refine gd_of D (fun _ _ _ _ _ _ us hl => match us, hl with | [_, _], _ => rfl) fun f fd F => ?_
  refine fun_q F sc_swapped (fun vs H Q E h => by obtain ⟨u, d, D, kvs, f, rfl, _⟩ := h; rfl) (fun cdv A outer s H vs Q E hr hq h => ?_)
  obtain ⟨u, d, Dp, kvs, sg, rfl, hu, ht, lsz, dep, eD, PD, k⟩ := h
  obtain ⟨f, ef⟩ : ∃ f, f = varS sg := ⟨_, rfl⟩
  rw [← ef] at k
  refine ⟨_, (pss_cons (ps_if (pt_cmpR op_eq (pe_ix ix_tup (pv 0) pe_int (fun _ _ => rfl)) pe_str (nomark _)) (pss_one (ps_ret (pe_tup (pa_cons pe_str (pa_cons (pe_dget (hu_of hr) (pv 1) (pe_ix ix_tup (pv 0) pe_int (fun _ _ => rfl)) (fun _ _ => rfl)) pa_nil))))) pss_nil)
      (pss_one (ps_ret (pe_ifExp (pt_cmpR op_eq (pe_ix ix_tup (pv 0) pe_int (fun _ _ => rfl)) pe_str (nomark _)) (pv 0) (pe_op op_catA (pe_slice sl_tupA (pv 0) po_none (po_some pe_int)) (pe_callTy call_tuple_of (by rfl) B.tuple (by decide +kernel) (pa_cons (pe_lc (own := [("part", 2)]) (g := (gName 2)) (tt := tYes) rfl sc_swapped.nd (pi_tup (pe_slice sl_tupA (pv 0) (po_some pe_int) po_none)) (blkOk_by (own := [("part", 2)]) (N := ["term", "names", "part"]) (sc := defScope s_swapped) (by decide +kernel)) (fun _ _ _ _ _ => (pg_name (i := 2) sc_swapped.nd rfl (Or.inl rfl))) (fun _ _ _ _ _ => pts_nil) (fun _ _ _ _ _ => (pe_g G0 hr hq (pa_cons (pv 2) (pa_cons (pv 1) pa_nil))))) pa_nil))))))), ?_⟩
  obtain ⟨h, ps, rfl⟩ : ∃ h ps, d = .tuple (.str h :: ps) := by
    rcases trB_of ht with ⟨n, rfl⟩ | ⟨k, i, rfl⟩ | ⟨h, ps, rfl, _⟩
    · exact ⟨_, _, rfl⟩
    · exact ⟨_, _, rfl⟩
    · exact ⟨_, _, rfl⟩
  have hu0 := hu
  obtain ⟨t, xs, rfl, e, A⟩ := hu.tupD
  cases A with
  | @cons v0 xs0 _ _ hv0 A0 =>
  cases hv0
  have la := A0.length
  refine ⟨_, rfl, t, _, 0, _, rfl, rfl, SqT.of e, atI_nat (j := 0) rfl, rfl, _, rfl, ?_⟩
  rw [dec_str]
  by_cases c1 : h = "?"
  · subst c1
    rw [decide_eq_true rfl]
    obtain ⟨n, rfl⟩ : ∃ n, ps = [.str n] := by
      rcases trB_of ht with ⟨n, e⟩ | ⟨_, _, e⟩ | ⟨h, ps, e, c, _⟩
      · cases e; exact ⟨n, rfl⟩
      · cases e
      · cases e; exact absurd rfl c
    cases A0 with
    | @cons v1 xs1 _ _ hv1 A1 =>
    cases hv1
    cases A1
    have en : nmD (.tuple [.str "?", .str n]) = [n] := by rw [nmD, nmH, if_pos rfl]; rfl
    have dg := DGet.k (k := Sum.inr n) eD
    rw [PD n (by rw [en]; exact List.mem_singleton_self n)] at dg
    refine iteT ?_
    refine ⟨_, rfl, _, rfl, t, _, 1, _, rfl, rfl, SqT.of e, rfl, Dp, _, rfl, dg, ?_⟩
    refine ⟨by show 2 ≤ sizeLine; rw [sizeLine_eq]; decide, fun q hq => ?_⟩
    refine k _ _ (same_new hq _) ?_
    have em : mpD f (.tuple [.str "?", .str n]) = .tuple [.str "?", .str (sg n)] := by rw [mpD, mpH, if_pos rfl, ef]; rfl
    rw [em]
    exact .tup upd_same (.cons (.str _) (.cons (.str _) .nil))
  rw [decide_eq_false c1]
  refine iteF ?_
  refine ⟨_, rfl, t, _, 0, _, rfl, rfl, SqT.of e, atI_nat (j := 0) rfl, rfl, _, rfl, ?_⟩
  rw [dec_str]
  by_cases c2 : h = "#"
  · subst c2
    rw [decide_eq_true rfl]
    refine iteT ⟨_, rfl, k _ H (Same.refl H) ?_⟩
    rw [show mpD f (.tuple (.str "#" :: ps)) = .tuple (.str "#" :: ps) from by rw [mpD, mpH, if_neg c1, if_pos rfl]]
    exact hu0
  rw [decide_eq_false c2]
  have hp : ∀ p ∈ ps, trB p = true := by
    rcases trB_of ht with ⟨n, e⟩ | ⟨_, _, e⟩ | ⟨h, ps, e, _, _, hp⟩
    · cases e; exact absurd rfl c1
    · cases e; exact absurd rfl c2
    · cases e; exact hp
  refine iteF ⟨_, rfl, ?_⟩
  dsimp only [tNoPart]
  refine ⟨_, rfl, ?_⟩
  refine slA_head e fun ch H2 s2 ech => ?_
  refine ⟨_, rfl, _, rfl, ?_⟩
  dsimp only [tNoPart]
  refine slA_tail (s2 _ _ e) fun ct H3 s3 ect => ?_
  have s13 := s2.trans s3
  have hf : ∀ m, trB (f m) = true := fun m => by rw [ef]; show trB (.tuple [.str "?", .str (sg m)]) = true; rw [trB, trH, if_pos rfl]; rfl
  have dp := depth_part dep
  have pz : psz (.tuple (.str h :: ps)) = 2 + pszs ps := by
    rw [psz, pszs, psz]
    · omega
    · intros; simp_all
  have pl : ∀ ps : List PyData, ps.length ≤ pszs ps := fun ps => by
    induction ps with
    | nil => exact Nat.zero_le _
    | cons p ps ih => rw [pszs, List.length_cons]; have := psz_pos p; omega
  have pl := pl ps
  refine ⟨ct, rfl, ⟨_, SqT.of ect⟩, fun D hD => ?_⟩
  refine lc_it walk_tup (fun i H5 => Same H3 H5 ∧ ∃ vs, H5 D = some (.lst vs) ∧ DdA H5 vs ((ps.take i).map (mpD f))) ⟨same_new hD _, [], upd_same, by rw [List.take_zero]; exact .nil⟩ (fun i H5 _ p => SqT.of (p.1 _ _ ect)) (fun i y H5p H5 hi p hy => ?_) (fun H5 p => ?_)
  · obtain ⟨rfl, ey⟩ := hy
    obtain ⟨s5, vs, e5, A5⟩ := p
    obtain ⟨dd, ed, hdd⟩ := A0.get ey
    have hm := List.mem_of_getElem? ed
    have s15 := s13.trans s5
    have l5 := A5.length
    rw [List.length_map, List.length_take] at l5
    refine ⟨rfl, ?_⟩
    refine ⟨_, rfl, _, rfl, y, dd, Dp, kvs, sg, rfl, hdd.mono s15, hp dd hm, ?_, dp dd hm, s15 _ _ eD, fun m hm2 => PD m (nm_part c1 c2 hm m hm2), fun r H6 s6 hr6 => ?_⟩
    · have h1 := psz_mem ed
      have h2 := psz_take ps (i + 1)
      omega
    · have e6 := s6 _ _ e5
      refine ⟨vs, e6, by rw [sizeLine_eq]; omega, same_put (s5.trans s6) hD, vs ++ [r], upd_same, ?_⟩
      rw [List.take_add_one, ed, List.map_append]
      have keep : ∀ b xs, H6 b = some (.tup xs) → upd H6 D (.lst (vs ++ [r])) b = some (.tup xs) := fun b xs q => tup_put e6 q
      have tr : ∀ d ∈ (ps.take i).map (mpD f), trB d = true := fun d hd => by
        obtain ⟨p, hp', rfl⟩ := List.mem_map.mp hd
        exact mpD_tr hf _ p (Nat.le_refl _) (hp p (List.mem_of_mem_take hp'))
      exact DdA.append (trA_mono keep tr (A5.mono s6)) (.cons (trD_mono keep (mpD_tr hf _ dd (Nat.le_refl _) (hp dd hm)) (ef ▸ hr6)) .nil)
  · obtain ⟨s5, vs, e5, A5⟩ := p
    rw [la, List.take_length] at A5
    have l5 := A5.length
    rw [List.length_map] at l5
    refine ⟨D, vs, rfl, .inl ⟨SqL.of e5, fun tt htt => ?_⟩⟩
    have s6 : Same H5 (upd H5 tt (.tup vs)) := same_new htt _
    have s16 := (s13.trans s5).trans s6
    refine catA_all (xs := [V.str h]) (ys := vs) ((s3.trans (s5.trans s6)) _ _ ech) upd_same (by rw [sizeLine_eq]; show 1 + vs.length ≤ _; omega) fun c8 H8 s8 ec8 => ?_
    refine k _ H8 (s16.trans s8) ?_
    rw [show mpD f (.tuple (.str h :: ps)) = .tuple (.str h :: ps.map (mpD f)) from by rw [mpD, mpH, if_neg c1, if_neg c2, mpL_map]]
    exact .tup ec8 (.cons (.str h) ((A5.mono s6).mono s8))


end

theorem noPart {σ : L2.St} {H : Hp} {Q : Option Int → Hp → Prop} (h : Q none H) : tNoPart σ H Q := h
theorem nm_len : ∀ (n : Nat) (d : PyData), psz d ≤ n → trB d = true → (nmD d).length ≤ psz d
  | 0, d, h, _ => absurd (psz_pos d) (by omega)
  | n + 1, d, h, ht => by
    rcases trB_of ht with ⟨m, rfl⟩ | ⟨k, i, rfl⟩ | ⟨x, ps, rfl, c1, c2, hp⟩
    · rw [nmD, nmH, if_pos rfl]; exact psz_pos _
    · rw [nmD, nmH, if_neg (by decide), if_pos rfl]; exact Nat.zero_le _
    · rw [nmD, nmH, if_neg c1, if_neg c2]
      have pz : psz (.tuple (.str x :: ps)) = 2 + pszs ps := by
        rw [psz, pszs, psz]
        · omega
        · intros; simp_all
      have all : ∀ qs : List PyData, (∀ p ∈ qs, trB p = true) → pszs qs ≤ n → (nmL qs).length ≤ pszs qs := fun qs => by
        induction qs with
        | nil => intro _ _; rw [nmL]; exact Nat.zero_le _
        | cons p qs ih =>
          intro hq l
          rw [pszs] at l
          have h1 := nm_len n p (by omega) (hq p (List.mem_cons_self ..))
          have h2 := ih (fun q hq' => hq q (List.mem_cons_of_mem _ hq')) (by omega)
          rw [nmL, pszs, List.length_append]
          omega
      have := all ps hp (by omega)
      omega

section
variable {P : Program} {w : World} {K : PySem.W.Frag} {mg : Str → Option Value} {base : Heap}

def spNamesL (n : Nat) : Sp := fun vs H Q _ => ∃ (u : V) (d : PyData), vs = [u] ∧ Dd H u d ∧ trB d = true ∧ psz d ≤ 1000000 ∧ d.depth < n ∧ ∀ p H', H p = none → Same H H' → H' p = some (.lst ((nmD d).map V.str)) → Q (.ref p) H'
theorem sc_names : FnScope ["term", "found", "part"] ["term"] (defScope s_names) := ⟨rfl, rfl, rfl, by decide +kernel, rfl, by decide +kernel, by decide +kernel⟩
theorem ok_names_step {n : Nat} (D : Df K mg "_law_names" s_names) (B : Bi mg) (G0 : Gd P w K mg base CX0 (n + 1) "_law_names" ["term"] (spNamesL n)) : Gd P w K mg base CX0 (n + 2) "_law_names" ["term"] (spNamesL (n + 1)) := by
  refine gd_of D (fun _ _ _ _ _ _ us hl => match us, hl with | [_], _ => rfl) fun f fd F => ?_
  refine fun_q F sc_names (fun vs H Q E h => by obtain ⟨u, d, rfl, _⟩ := h; rfl) (fun cdv A outer s H vs Q E hr hq h => ?_)
  obtain ⟨u, d, rfl, hu, ht, lsz, dep, k⟩ := h
  refine ⟨_, (pss_cons (ps_if (pt_cmpR op_eq (pe_ix ix_tup (pv 0) pe_int (fun _ _ => rfl)) pe_str (nomark _)) (pss_one (ps_ret (pe_lst (pa_cons (pe_ix ix_tup (pv 0) pe_int (fun _ _ => rfl)) pa_nil)))) pss_nil)
      (pss_cons (ps_set (i := 1) sc_names.nd rfl (Or.inl rfl) (pe_lst pa_nil))
      (pss_cons (ps_for PassesOwn.never rfl (pi_tup (pe_ifExp (pt_cmpR op_ne (pe_ix ix_tup (pv 0) pe_int (fun _ _ => rfl)) pe_str (nomark _)) (pe_slice sl_tupA (pv 0) (po_some pe_int) po_none) (pe_tup pa_nil))) (pg_name (i := 2) sc_names.nd rfl (Or.inl rfl)) (pss_one (ps_set (i := 1) sc_names.nd rfl (Or.inl rfl) (pe_op op_cat (pv 1) (pe_g G0 hr hq (pa_cons (pv 2) pa_nil))))))
      (pss_one (ps_ret (pv 1)))))), ?_⟩
  obtain ⟨h, ps, rfl⟩ : ∃ h ps, d = .tuple (.str h :: ps) := by
    rcases trB_of ht with ⟨n, rfl⟩ | ⟨k, i, rfl⟩ | ⟨h, ps, rfl, _⟩
    · exact ⟨_, _, rfl⟩
    · exact ⟨_, _, rfl⟩
    · exact ⟨_, _, rfl⟩
  obtain ⟨t, xs, rfl, e, A⟩ := hu.tupD
  cases A with
  | @cons v0 xs0 _ _ hv0 A0 =>
  cases hv0
  have la := A0.length
  refine ⟨_, rfl, t, _, 0, _, rfl, rfl, SqT.of e, atI_nat (j := 0) rfl, rfl, _, rfl, ?_⟩
  rw [dec_str]
  by_cases c1 : h = "?"
  · subst c1
    rw [decide_eq_true rfl]
    obtain ⟨n, rfl⟩ : ∃ n, ps = [.str n] := by
      rcases trB_of ht with ⟨n, e⟩ | ⟨_, _, e⟩ | ⟨h, ps, e, c, _⟩
      · cases e; exact ⟨n, rfl⟩
      · cases e
      · cases e; exact absurd rfl c
    cases A0 with
    | @cons v1 xs1 _ _ hv1 A1 =>
    cases hv1
    cases A1
    have en : nmD (.tuple [.str "?", .str n]) = [n] := by rw [nmD, nmH, if_pos rfl]; rfl
    refine iteT ?_
    refine ⟨_, rfl, t, _, 1, _, rfl, rfl, SqT.of e, rfl, ?_⟩
    refine ⟨by show 1 ≤ sizeLine; rw [sizeLine_eq]; decide, fun q hq => ?_⟩
    exact k q _ hq (same_new hq _) (by rw [en]; exact upd_same)
  rw [decide_eq_false c1]
  refine iteF ?_
  refine ⟨by show 0 ≤ sizeLine; exact Nat.zero_le _, fun p0 hp0 => ?_⟩
  have s1 : Same H (upd H p0 (.lst [])) := same_new hp0 _
  have e1 : upd H p0 (.lst []) p0 = some (.lst []) := upd_same
  generalize upd H p0 (.lst []) = H1 at s1 e1 ⊢
  refine ⟨_, rfl, t, _, 0, _, rfl, rfl, SqT.of (s1 _ _ e), atI_nat (j := 0) rfl, rfl, _, rfl, ?_⟩
  rw [dec_str]
  by_cases c2 : h = "#"
  · subst c2
    rw [decide_eq_true rfl]
    refine iteF ⟨Nat.zero_le _, fun t1 ht1 => ?_⟩
    have s2 : Same H1 (upd H1 t1 (.tup [])) := same_new ht1 _
    refine ⟨t1, rfl, ⟨_, SqT.of upd_same⟩, ?_⟩
    refine for_it (walk_tup (xs := [])) (fun i σ H3 => σ = [some (.ref t), some (.ref p0), none] ∧ Same (upd H1 t1 (.tup [])) H3) ⟨rfl, Same.refl _⟩ (fun i σ H3 _ p => SqT.of (p.2 _ _ upd_same)) (fun i y σ H3p H3 hi p hy => absurd hi (Nat.not_lt_zero _)) (fun σ H3 p => ?_)
    obtain ⟨rfl, s3⟩ := p
    refine ⟨_, rfl, k p0 H3 hp0 ((s1.trans s2).trans s3) ?_⟩
    rw [show nmD (.tuple (.str "#" :: ps)) = [] from by rw [nmD, nmH, if_neg c1, if_pos rfl]]
    exact s3 _ _ (s2 _ _ e1)
  rw [decide_eq_false c2]
  have hp : ∀ p ∈ ps, trB p = true := by
    rcases trB_of ht with ⟨n, e⟩ | ⟨_, _, e⟩ | ⟨h, ps, e, _, _, hp⟩
    · cases e; exact absurd rfl c1
    · cases e; exact absurd rfl c2
    · cases e; exact hp
  have dp := depth_part dep
  have pz : psz (.tuple (.str h :: ps)) = 2 + pszs ps := by
    rw [psz, pszs, psz]
    · omega
    · intros; simp_all
  refine iteT ⟨_, rfl, _, rfl, noPart ?_⟩
  refine slA_tail (s1 _ _ e) fun ct H2 s2 ect => ?_
  have s12 := s1.trans s2
  refine ⟨ct, rfl, ⟨_, SqT.of ect⟩, ?_⟩
  refine for_it walk_tup (fun i σ H3 => ∃ p np, σ = [some (.ref t), some (.ref p), np] ∧ Same H2 H3 ∧ H p = none ∧ H3 p = some (.lst (((ps.take i).flatMap nmD).map V.str)) ∧ ((ps.take i).flatMap nmD).length ≤ pszs (ps.take i))
    ⟨p0, none, rfl, Same.refl _, hp0, by rw [List.take_zero]; exact s2 _ _ e1, by rw [List.take_zero]; exact Nat.zero_le _⟩ (fun i σ H3 _ p => by obtain ⟨_, _, _, s, _⟩ := p; exact SqT.of (s _ _ ect)) (fun i y σ H3p H3 hi p hy => ?_) (fun σ H3 p => ?_)
  · obtain ⟨rfl, ey⟩ := hy
    obtain ⟨p, np, rfl, s3, hp0', e3, l3⟩ := p
    obtain ⟨dd, ed, hdd⟩ := A0.get ey
    have hm := List.mem_of_getElem? ed
    have s13 := s12.trans s3
    have h1 := psz_mem ed
    have h2 := psz_take ps (i + 1)
    refine ⟨_, rfl, _, rfl, y, dd, rfl, hdd.mono s13, hp dd hm, by omega, dp dd hm, fun q H4 hq s4 e4 => ?_⟩
    have ln := nm_len _ dd (Nat.le_refl _) (hp dd hm)
    have et : (ps.take (i + 1)).flatMap nmD = (ps.take i).flatMap nmD ++ nmD dd := by rw [List.take_add_one, ed, List.flatMap_append]; simp
    refine ⟨p, q, _, _, rfl, rfl, s4 _ _ e3, e4, by rw [sizeLine_eq, List.length_map, List.length_map]; omega, fun r hr9 => ?_⟩
    refine ⟨r, _, rfl, (s3.trans s4).trans (same_new hr9 _), ?_, ?_, ?_⟩
    · exact (s13.trans s4).free hr9
    · rw [upd_same, et, List.map_append]
    · rw [et, List.length_append]; omega
  · obtain ⟨p, np, rfl, s3, hp0', e3, l3⟩ := p
    rw [la, List.take_length] at e3
    refine ⟨_, rfl, k p H3 hp0' (s12.trans s3) ?_⟩
    rw [show nmD (.tuple (.str h :: ps)) = ps.flatMap nmD from by rw [nmD, nmH, if_neg c1, if_neg c2, nmL_map]]
    exact e3

theorem ok_size (D : Df K mg "_law_size" s_size) (B : Bi mg) (Bs : mg "sum" = none) : ∀ n : Nat, Gd P w K mg base CX0 (n + 1) "_law_size" ["term"] (spSize n)
  | 0 => by
    refine gd_of D (fun _ _ _ _ _ _ us hl => match us, hl with | [_], _ => rfl) fun f fd F => ?_
    have no : ∀ {vs : List V} {H : Hp} {Q : VK} {E : XK}, ¬ spSize 0 vs H Q E := fun h => by
      obtain ⟨_, _, _, _, _, _, z, _⟩ := h
      exact Nat.not_lt_zero _ z
    exact fun_q F sc_size (fun vs H Q E h => (no h).elim) (fun cdv A outer s H vs Q E hr hq h => (no h).elim)
  | n + 1 => ok_size_step D B Bs (ok_size D B Bs n)

theorem ok_names (D : Df K mg "_law_names" s_names) (B : Bi mg) : ∀ n : Nat, Gd P w K mg base CX0 (n + 1) "_law_names" ["term"] (spNamesL n)
  | 0 => by
    refine gd_of D (fun _ _ _ _ _ _ us hl => match us, hl with | [_], _ => rfl) fun f fd F => ?_
    have no : ∀ {vs : List V} {H : Hp} {Q : VK} {E : XK}, ¬ spNamesL 0 vs H Q E := fun h => by
      obtain ⟨_, _, _, _, _, _, z, _⟩ := h
      exact Nat.not_lt_zero _ z
    exact fun_q F sc_names (fun vs H Q E h => (no h).elim) (fun cdv A outer s H vs Q E hr hq h => (no h).elim)
  | n + 1 => ok_names_step D B (ok_names D B n)

theorem ok_placed (D : Df K mg "_law_placed" s_placed) (B : Bi mg) : ∀ n : Nat, Gd P w K mg base CX0 (n + 1) "_law_placed" ["term", "put"] (spPlaced n)
  | 0 => by
    refine gd_of D (fun _ _ _ _ _ _ us hl => match us, hl with | [_, _], _ => rfl) fun f fd F => ?_
    have no : ∀ {vs : List V} {H : Hp} {Q : VK} {E : XK}, ¬ spPlaced 0 vs H Q E := fun h => by
      obtain ⟨_, _, _, _, _, _, _, _, _, z, _⟩ := h
      exact Nat.not_lt_zero _ z
    exact fun_q F sc_placed (fun vs H Q E h => (no h).elim) (fun cdv A outer s H vs Q E hr hq h => (no h).elim)
  | n + 1 => ok_placed_step D B (ok_placed D B n)

theorem ok_swapped (D : Df K mg "_law_swapped" s_swapped) (B : Bi mg) : ∀ n : Nat, Gd P w K mg base CX0 (n + 1) "_law_swapped" ["term", "names"] (spSwapped n)
  | 0 => by
    refine gd_of D (fun _ _ _ _ _ _ us hl => match us, hl with | [_, _], _ => rfl) fun f fd F => ?_
    have no : ∀ {vs : List V} {H : Hp} {Q : VK} {E : XK}, ¬ spSwapped 0 vs H Q E := fun h => by
      obtain ⟨_, _, _, _, _, _, _, _, _, z, _⟩ := h
      exact Nat.not_lt_zero _ z
    exact fun_q F sc_swapped (fun vs H Q E h => (no h).elim) (fun cdv A outer s H vs Q E hr hq h => (no h).elim)
  | n + 1 => ok_swapped_step D B (ok_swapped D B n)

end

/-! ### the closed terms of a size -/
def waysG (cl : Str → Nat → List PyData) : List Str → Nat → List (List PyData)
  | [], s => if s = 0 then [[]] else []
  | k :: ks, s => (List.range s).flatMap fun i => (cl k (i + 1)).flatMap fun t => (waysG cl ks (s - (i + 1))).map fun r => t :: r
def closedP (md : List PyData) : Nat → Str → Nat → List PyData
  | 0, _, _ => []
  | f + 1, k, s => (ofKind md k).flatMap fun m => if (needsOf m).length < s then (waysG (closedP md f) (needsOf m) (s - 1)).map fun r => .tuple (.str (nameOf m) :: r) else []
theorem flat_congr {α β : Type} {l : List α} {f g : α → List β} (h : ∀ a ∈ l, f a = g a) : l.flatMap f = l.flatMap g := by
  induction l with
  | nil => rfl
  | cons a l ih => rw [List.flatMap_cons, List.flatMap_cons, h a (List.mem_cons_self ..), ih fun b hb => h b (List.mem_cons_of_mem _ hb)]
theorem waysG_congr {c c2 : Str → Nat → List PyData} : ∀ (ks : List Str) (s : Nat), (∀ k i, i ≤ s → c k i = c2 k i) → waysG c ks s = waysG c2 ks s
  | [], _, _ => rfl
  | k :: ks, s, h => by
    show (List.range s).flatMap _ = (List.range s).flatMap _
    refine flat_congr fun i hi => ?_
    have hi := List.mem_range.mp hi
    rw [h k (i + 1) (by omega), waysG_congr ks (s - (i + 1)) fun k j hj => h k j (by omega)]
theorem closedP_fuel {md : List PyData} : ∀ (f f2 s : Nat) (k : Str), s ≤ f → s ≤ f2 → closedP md f k s = closedP md f2 k s := by
  have zero : ∀ f k, closedP md f k 0 = [] := fun f k => by
    cases f with
    | zero => rfl
    | succ f =>
      show (ofKind md k).flatMap _ = []
      refine List.flatMap_eq_nil_iff.mpr fun m _ => ?_
      rw [if_neg (Nat.not_lt_zero _)]
  intro f
  induction f with
  | zero =>
    intro f2 s k h1 h2
    have : s = 0 := by omega
    subst this
    rw [zero, zero]
  | succ f ih =>
    intro f2 s k h1 h2
    cases f2 with
    | zero =>
      have : s = 0 := by omega
      subst this
      rw [zero, zero]
    | succ f2 =>
      show (ofKind md k).flatMap _ = (ofKind md k).flatMap _
      refine flat_congr fun m _ => ?_
      by_cases c : (needsOf m).length < s
      · rw [if_pos c, if_pos c, waysG_congr _ _ fun k i hi => ih f2 i k (by omega) (by omega)]
      · rw [if_neg c, if_neg c]
def clC (md : List PyData) (k : Str) (s : Nat) : List PyData := closedP md s k s
def waysC (md : List PyData) (ks : List Str) (s : Nat) : List (List PyData) := waysG (clC md) ks s
theorem clC_eq {md : List PyData} {k : Str} {s : Nat} : clC md k s = (ofKind md k).flatMap fun m => if (needsOf m).length < s then (waysC md (needsOf m) (s - 1)).map fun r => .tuple (.str (nameOf m) :: r) else [] := by
  cases s with
  | zero =>
    refine (List.flatMap_eq_nil_iff.mpr fun m _ => ?_).symm
    rw [if_neg (Nat.not_lt_zero _)]
  | succ s =>
    show (ofKind md k).flatMap _ = (ofKind md k).flatMap _
    refine flat_congr fun m _ => ?_
    by_cases c : (needsOf m).length < s + 1
    · rw [if_pos c, if_pos c, show s + 1 - 1 = s from rfl]
      unfold waysC
      rw [waysG_congr _ _ fun k i hi => closedP_fuel s i i k hi (Nat.le_refl _)]
      rfl
    · rw [if_neg c, if_neg c]
theorem waysC_cons {md : List PyData} {k : Str} {ks : List Str} {s : Nat} : waysC md (k :: ks) s = (List.range s).flatMap fun i => (clC md k (i + 1)).flatMap fun t => (waysC md ks (s - (i + 1))).map fun r => t :: r := rfl
theorem waysG_tr {c : Str → Nat → List PyData} : ∀ (ks : List Str) (s : Nat), (∀ k i, i ≤ s → ∀ d ∈ c k i, trB d = true) → ∀ r ∈ waysG c ks s, ∀ d ∈ r, trB d = true
  | [], s, _, r, hr, d, hd => by
    have hr : r ∈ (if s = 0 then [[]] else []) := hr
    by_cases c0 : s = 0
    · rw [if_pos c0, List.mem_singleton] at hr
      subst hr; cases hd
    · rw [if_neg c0] at hr; cases hr
  | k :: ks, s, h, r, hr, d, hd => by
    obtain ⟨i, hi, hr⟩ := List.mem_flatMap.mp (show r ∈ (List.range s).flatMap _ from hr)
    obtain ⟨t, ht, hr⟩ := List.mem_flatMap.mp hr
    obtain ⟨r0, hr0, rfl⟩ := List.mem_map.mp hr
    have hi := List.mem_range.mp hi
    rcases List.mem_cons.mp hd with z | z
    · subst z; exact h k (i + 1) (by omega) _ ht
    · exact waysG_tr ks (s - (i + 1)) (fun k j hj => h k j (by omega)) r0 hr0 d z
theorem waysG_len {c : Str → Nat → List PyData} : ∀ (ks : List Str) (s : Nat), ∀ r ∈ waysG c ks s, r.length = ks.length
  | [], s, r, hr => by
    have hr : r ∈ (if s = 0 then [[]] else []) := hr
    by_cases c0 : s = 0
    · rw [if_pos c0, List.mem_singleton] at hr
      subst hr; rfl
    · rw [if_neg c0] at hr; cases hr
  | k :: ks, s, r, hr => by
    obtain ⟨i, hi, hr⟩ := List.mem_flatMap.mp (show r ∈ (List.range s).flatMap _ from hr)
    obtain ⟨t, ht, hr⟩ := List.mem_flatMap.mp hr
    obtain ⟨r0, hr0, rfl⟩ := List.mem_map.mp hr
    exact congrArg Nat.succ (waysG_len ks _ r0 hr0)
theorem name_marks {ks : List Str} {m : PyData} (h : makerB ks m = true) : nameOf m ≠ "?" ∧ nameOf m ≠ "#" := by
  obtain ⟨x, ns, k, rfl, hx, _⟩ := makerB_of h
  have hx : nameS x = true := hx
  refine ⟨fun z => ?_, fun z => ?_⟩
  · have z : x = "?" := z
    rw [z] at hx
    exact absurd hx (by decide +kernel)
  · have z : x = "#" := z
    rw [z] at hx
    exact absurd hx (by decide +kernel)
theorem closedP_tr {md : List PyData} {ks : List Str} (mb : ∀ m ∈ md, makerB ks m = true) : ∀ (f : Nat) (k : Str) (s : Nat), ∀ d ∈ closedP md f k s, trB d = true
  | 0, _, _, d, h => by cases h
  | f + 1, k, s, d, h => by
    obtain ⟨m, hm, h⟩ := List.mem_flatMap.mp (show d ∈ (ofKind md k).flatMap _ from h)
    by_cases c : (needsOf m).length < s
    · rw [if_pos c] at h
      obtain ⟨r, hr, rfl⟩ := List.mem_map.mp h
      obtain ⟨n1, n2⟩ := name_marks (mb m (List.mem_filter.mp hm).1)
      rw [trB, trH, if_neg n1, if_neg n2]
      exact trL_of (waysG_tr _ _ (fun k i _ => closedP_tr mb f k i) r hr)
    · rw [if_neg c] at h; cases h
theorem clC_tr {md : List PyData} {ks : List Str} (mb : ∀ m ∈ md, makerB ks m = true) {k : Str} {s : Nat} : ∀ d ∈ clC md k s, trB d = true := closedP_tr mb s k s
theorem waysC_tr {md : List PyData} {ks : List Str} (mb : ∀ m ∈ md, makerB ks m = true) {us : List Str} {s : Nat} : ∀ r ∈ waysC md us s, ∀ d ∈ r, trB d = true := waysG_tr _ _ fun k i _ => clC_tr mb
/-- few terms, up to a size -/
def Few (md : List PyData) (S : Nat) : Prop := ∀ s, s ≤ S → (∀ k, (clC md k s).length ≤ 4000000) ∧ ∀ ks : List Str, ks.length ≤ 3 → (waysC md ks s).length ≤ 4000000
/-- rows, as they stand in the heap -/
inductive RwL (H : Hp) : List V → List (List PyData) → Prop
  | nil : RwL H [] []
  | cons {t : Addr} {xs : List V} {r : List PyData} {vs : List V} {rs : List (List PyData)} : H t = some (.tup xs) → DdA H xs r → RwL H vs rs → RwL H (.ref t :: vs) (r :: rs)
theorem RwL.mono {H H' : Hp} (s : ∀ b xs, H b = some (.tup xs) → H' b = some (.tup xs)) : ∀ {vs : List V} {rs : List (List PyData)}, (∀ r ∈ rs, ∀ d ∈ r, trB d = true) → RwL H vs rs → RwL H' vs rs
  | _, _, _, .nil => .nil
  | _, _, h, .cons e A t => .cons (s _ _ e) (trA_mono s (h _ (List.mem_cons_self ..)) A) (t.mono s fun r hr => h r (List.mem_cons_of_mem _ hr))
theorem RwL.app {H : Hp} : ∀ {vs ws : List V} {rs us : List (List PyData)}, RwL H vs rs → RwL H ws us → RwL H (vs ++ ws) (rs ++ us)
  | _, _, _, _, .nil, h => h
  | _, _, _, _, .cons e A t, h => .cons e A (t.app h)
theorem RwL.len {H : Hp} : ∀ {vs : List V} {rs : List (List PyData)}, RwL H vs rs → vs.length = rs.length
  | _, _, .nil => rfl
  | _, _, .cons _ _ t => congrArg Nat.succ t.len
theorem RwL.get {H : Hp} : ∀ {vs : List V} {rs : List (List PyData)} {i : Nat} {v : V}, RwL H vs rs → vs[i]? = some v → ∃ t xs r, v = .ref t ∧ rs[i]? = some r ∧ H t = some (.tup xs) ∧ DdA H xs r
  | _, _, 0, _, .cons e A _, h => by cases h; exact ⟨_, _, _, rfl, rfl, e, A⟩
  | _, _, i + 1, _, .cons _ _ t, h => t.get (i := i) (by simpa using h)
theorem op_catAK {X : Cx} {K : PySem.W.Frag} (h : X.K = K) : OpR X (binaryOp .Add) (rCatA K) := h ▸ op_catA

section
variable {P : Program} {w : World} {K : PySem.W.Frag} {mg : Str → Option Value} {base : Heap}

def spCl (n : Nat) : Sp := fun vs H Q _ => ∃ (v : V) (kd md : List PyData) (x : Str) (s S : Nat), vs = [v, .str x, .int s] ∧ Dd H v (.tuple [.tuple kd, .tuple md]) ∧ makersB (kd.map nameOf) (.tuple md) = true ∧ Few md S ∧ s ≤ S ∧ S ≤ 100 ∧ 5 * s < n ∧ ∀ p us H', H p = none → Same H H' → H' p = some (.lst us) → DdA H' us (clC md x s) → Q (.ref p) H'
def spWays (n : Nat) : Sp := fun vs H Q _ => ∃ (v z : V) (kd md : List PyData) (ks : List Str) (s S : Nat), vs = [v, z, .int s] ∧ Dd H v (.tuple [.tuple kd, .tuple md]) ∧ makersB (kd.map nameOf) (.tuple md) = true ∧ Dd H z (.tuple (ks.map PyData.str)) ∧ ks.length ≤ 3 ∧ Few md S ∧ s ≤ S ∧ S ≤ 100 ∧ 5 * s + ks.length + 1 < n ∧ ∀ p us H', H p = none → Same H H' → H' p = some (.lst us) → RwL H' us (waysC md ks s) → Q (.ref p) H'
theorem sc_closed : FnScope ["sig", "kind", "size", "found", "name", "args", "row"] ["sig", "kind", "size"] (defScope s_closed) := ⟨rfl, rfl, rfl, by decide +kernel, rfl, by decide +kernel, by decide +kernel⟩
theorem ok_closed_step {n : Nat} (D : Df K mg "_law_closed" s_closed) (B : Bi mg) (G0 : Gd P w K mg base CX0 (n + 2) "_law_ways" ["sig", "kinds", "size"] (spWays n)) (G1 : Gd P w K mg base CX0 1 "_law_makers" ["sig", "kind"] spLMakers) : Gd P w K mg base CX0 (n + 3) "_law_closed" ["sig", "kind", "size"] (spCl (n + 1)) := by
  refine gd_of D (fun _ _ _ _ _ _ us hl => match us, hl with | [_, _, _], _ => rfl) fun f fd F => ?_
  refine fun_q F sc_closed (fun vs H Q E h => by obtain ⟨v, kd, md, x, s, S, rfl, _⟩ := h; rfl) (fun cdv A outer s H vs Q E hr hq h => ?_)
  obtain ⟨v, kd, md, x, s, S, rfl, hd, k2, few, ls, lS, dep, k⟩ := h
  refine ⟨_, (pss_cons (ps_set (i := 3) sc_closed.nd rfl (Or.inl rfl) (pe_lst pa_nil))
      (pss_cons (ps_for PassesOwn.never rfl (pi_list (pe_g (G1.mono (by omega)) hr hq (pa_cons (pv 0) (pa_cons (pv 1) pa_nil)))) (pg_tup rfl (pgs_cons (pg_name (i := 4) sc_closed.nd rfl (Or.inr rfl)) (pgs_cons (pg_name (i := 5) sc_closed.nd rfl (Or.inl rfl)) pgs_nil))) (pss_one (ps_if (pt_cmpR op_lt (pe_callB call_len_seq (by rfl) B.len (by decide +kernel) (pa_cons (pv 5) pa_nil)) (pv 2) (nomark _)) (pss_one (ps_set (i := 3) sc_closed.nd rfl (Or.inl rfl) (pe_op op_cat (pv 3) (pe_lc (own := [("row", 6)]) (g := (gName 6)) (tt := tYes) rfl sc_closed.nd (pi_list (pe_g (G0.mono (by omega)) hr hq (pa_cons (pv 0) (pa_cons (pv 5) (pa_cons (pe_op op_sub (pv 2) pe_int) pa_nil))))) (blkOk_by (own := [("row", 6)]) (N := ["sig", "kind", "size", "found", "name", "args", "row"]) (sc := defScope s_closed) (by decide +kernel)) (fun _ _ _ _ _ => (pg_name (i := 6) sc_closed.nd rfl (Or.inl rfl))) (fun _ _ _ _ _ => pts_nil) (fun _ _ _ _ _ => (pe_op (op_catAK (K := K) rfl) (pe_tup (pa_cons (pv 4) pa_nil)) (pv 6))))))) pss_nil)))
      (pss_one (ps_ret (pv 3))))), ?_⟩
  obtain ⟨l24, mb, mnd⟩ := makersB_parts k2
  refine ⟨by show 0 ≤ sizeLine; exact Nat.zero_le _, fun p0 hp0 => ?_⟩
  have s1 : Same H (upd H p0 (.lst [])) := same_new hp0 _
  have e1 : upd H p0 (.lst []) p0 = some (.lst []) := upd_same
  generalize upd H p0 (.lst []) = H1 at s1 e1 ⊢
  refine ⟨_, rfl, _, rfl, v, kd, md, x, rfl, hd.mono s1, k2, fun l ys H2 s2 hl el M => ?_⟩
  have s12 := s1.trans s2
  have lM := M.len
  refine ⟨l, rfl, ⟨_, SqL.of el⟩, ?_⟩
  refine for_it walk_list (fun i σ H3 => ∃ p n4 n5 us, σ = [some v, some (.str x), some (.int s), some (.ref p), n4, n5, none] ∧ Same H2 H3 ∧ H p = none ∧ H3 p = some (.lst us) ∧ DdA H3 us (((ofKind md x).take i).flatMap fun m => if (needsOf m).length < s then (waysC md (needsOf m) (s - 1)).map fun r => .tuple (.str (nameOf m) :: r) else []))
    ⟨p0, none, none, [], rfl, Same.refl _, hp0, s2 _ _ e1, by rw [List.take_zero]; exact .nil⟩ (fun i σ H3 _ p => by obtain ⟨_, _, _, _, _, s, _⟩ := p; exact SqL.of (s _ _ el)) (fun i y σ H3p H3 hi p hy => ?_) (fun σ H3 p => ?_)
  rotate_left
  · obtain ⟨p, n4, n5, us, rfl, s3, hp, e3, A3⟩ := p
    rw [lM, List.take_length] at A3
    exact ⟨_, rfl, k p us H3 hp (s12.trans s3) e3 (by rw [clC_eq]; exact A3)⟩
  obtain ⟨rfl, ey⟩ := hy
  obtain ⟨p, n4, n5, us, rfl, s3, hp, e3, A3⟩ := p
  have s13 := s12.trans s3
  obtain ⟨m, em, tt, nv, na, rfl, ht, hna⟩ := (M.mono fun b o e _ => s3 _ _ e).get ey
  have hmm := List.mem_of_getElem? em
  obtain ⟨hmd, hmk⟩ := List.mem_filter.mp hmm
  have et : ((ofKind md x).take (i + 1)).flatMap (fun m => if (needsOf m).length < s then (waysC md (needsOf m) (s - 1)).map fun r => PyData.tuple (.str (nameOf m) :: r) else []) = ((ofKind md x).take i).flatMap (fun m => if (needsOf m).length < s then (waysC md (needsOf m) (s - 1)).map fun r => PyData.tuple (.str (nameOf m) :: r) else []) ++ if (needsOf m).length < s then (waysC md (needsOf m) (s - 1)).map fun r => PyData.tuple (.str (nameOf m) :: r) else [] := by
    rw [List.take_add_one, em, List.flatMap_append]; simp
  have all := (few s ls).1 x
  refine ⟨tt, _, rfl, SqT.of ht, rfl, _, _, rfl, _, _, rfl, rfl, ?_⟩
  refine ⟨_, rfl, na, _, rfl, .inr (SqT.of hna), _, rfl, ?_⟩
  walk_at "rd"
  rw [show decide ((((needsOf m).map V.str).length : Nat) < (s : Int)) = decide ((needsOf m).length < s) from by rw [List.length_map]; exact decide_eq_decide.mpr (by omega)]
  by_cases c : (needsOf m).length < s
  case neg =>
    rw [decide_eq_false c]
    refine iteF ⟨p, _, _, us, rfl, s3, hp, e3, ?_⟩
    rw [et, if_neg c, List.append_nil]
    exact A3
  rw [decide_eq_true c]
  rw [if_pos c] at et
  refine iteT ?_
  have lns := needs_few (mb m hmd)
  have dna : Dd H3 (.ref na) (.tuple ((needsOf m).map PyData.str)) := .tup hna (DdA.ofStrs _)
  refine ⟨_, rfl, ?_⟩
  refine ⟨_, rfl, _, rfl, _, rfl, ?_⟩
  walk_at "rd"
  refine ⟨v, .ref na, kd, md, needsOf m, s - 1, S, (by show [v, V.ref na, V.int ((s : Int) - 1)] = [v, V.ref na, V.int ((s - 1 : Nat) : Int)]; rw [show (s : Int) - 1 = ((s - 1 : Nat) : Int) from by omega]), hd.mono s13, k2, dna, lns, few, by omega, lS, by omega, fun q ws H4 hq s4 e4 R4 => ?_⟩
  have s14 := s13.trans s4
  have lR := R4.len
  have wl := (few (s - 1) (by omega)).2 (needsOf m) lns
  refine ⟨q, rfl, ⟨_, SqL.of e4⟩, fun D hD => ?_⟩
  obtain ⟨fr, hfr⟩ : ∃ fr : List PyData → PyData, fr = fun r => PyData.tuple (.str (nameOf m) :: r) := ⟨_, rfl⟩
  have wtr := waysC_tr mb (us := needsOf m) (s := s - 1)
  obtain ⟨n1, n2⟩ := name_marks (mb m hmd)
  have frt : ∀ r, (∀ d ∈ r, trB d = true) → trB (fr r) = true := fun r h => by
    rw [hfr]
    show trB (.tuple (.str (nameOf m) :: r)) = true
    rw [trB, trH, if_neg n1, if_neg n2]
    exact trL_of h
  refine lc_it walk_list (fun i H5 => Same H4 H5 ∧ ∃ zs, H5 D = some (.lst zs) ∧ DdA H5 zs (((waysC md (needsOf m) (s - 1)).take i).map fr)) ⟨same_new hD _, [], upd_same, by rw [List.take_zero]; exact .nil⟩ (fun i H5 _ p => SqL.of (p.1 _ _ e4)) (fun i y H5p H5 hi p hy => ?_) (fun H5 p => ?_)
  · obtain ⟨rfl, ey⟩ := hy
    obtain ⟨s5, zs, e5, A5⟩ := p
    obtain ⟨tr, xr, r, rfl, er, htr, Ar⟩ := R4.get ey
    have rl : r.length = (needsOf m).length := waysG_len _ _ r (List.mem_of_getElem? er)
    have lr := Ar.length
    have l5 := A5.length
    rw [List.length_map, List.length_take] at l5
    refine ⟨rfl, ?_⟩
    refine ⟨_, rfl, by show 1 ≤ sizeLine; rw [sizeLine_eq]; decide, fun tn htn => ?_⟩
    have s6 : Same H5 (upd H5 tn (.tup [.str (nameOf m)])) := same_new htn _
    refine ⟨_, rfl, ?_⟩
    refine catA_all (xs := [V.str (nameOf m)]) (ys := xr) upd_same ((s5.trans s6) _ _ htr) (by rw [sizeLine_eq]; show 1 + xr.length ≤ _; omega) fun c8 H8 s8 ec8 => ?_
    have e8 := s8 _ _ (s6 _ _ e5)
    refine ⟨zs, e8, by rw [sizeLine_eq]; omega, same_put ((s5.trans s6).trans s8) hD, zs ++ [.ref c8], upd_same, ?_⟩
    rw [List.take_add_one, er, List.map_append]
    have keep : ∀ b xs, H8 b = some (.tup xs) → upd H8 D (.lst (zs ++ [.ref c8])) b = some (.tup xs) := fun b xs q => tup_put e8 q
    have tr1 : ∀ d ∈ ((waysC md (needsOf m) (s - 1)).take i).map fr, trB d = true := fun d hd => by
      obtain ⟨r, hr, rfl⟩ := List.mem_map.mp hd
      exact frt r (wtr r (List.mem_of_mem_take hr))
    refine DdA.append (trA_mono keep tr1 ((A5.mono s6).mono s8)) (.cons (trD_mono keep (frt r (wtr r (List.mem_of_getElem? er))) ?_) .nil)
    rw [hfr]
    exact .tup ec8 (.cons (.str _) (Ar.mono ((s5.trans s6).trans s8)))
  · obtain ⟨s5, zs, e5, A5⟩ := p
    rw [lR, List.take_length] at A5
    have l5 := A5.length
    have l3 := A3.length
    rw [List.length_map] at l5
    have pre : (((ofKind md x).take i).flatMap fun m => if (needsOf m).length < s then (waysC md (needsOf m) (s - 1)).map fun r => PyData.tuple (.str (nameOf m) :: r) else []).length ≤ (clC md x s).length := by
      rw [clC_eq]
      conv => rhs; rw [← List.take_append_drop i (ofKind md x)]
      rw [List.flatMap_append, List.length_append]
      omega
    have s35 := s4.trans s5
    refine ⟨p, D, us, zs, rfl, rfl, s35 _ _ e3, e5, by rw [sizeLine_eq]; omega, fun r hr => ?_⟩
    refine ⟨r, _, _, us ++ zs, rfl, (s3.trans s35).trans (same_new hr _), (s13.trans s35).free hr, upd_same, ?_⟩
    rw [et, ← hfr]
    exact DdA.append ((A3.mono s35).mono (same_new hr _)) (A5.mono (same_new hr _))

end

/-- what the turns up to i find -/
def wayN (md : List PyData) (k : Str) (ks : List Str) (s i : Nat) : List (List PyData) := (List.range i).flatMap fun j => (clC md k (j + 1)).flatMap fun t => (waysC md ks (s - (j + 1))).map fun r => t :: r
theorem wayN_succ {md : List PyData} {k : Str} {ks : List Str} {s i : Nat} : wayN md k ks s (i + 1) = wayN md k ks s i ++ (clC md k (i + 1)).flatMap fun t => (waysC md ks (s - (i + 1))).map fun r => t :: r := by
  unfold wayN
  rw [List.range_succ, List.flatMap_append]
  simp
theorem range_flat_le {α : Type} {f : Nat → List α} {i : Nat} : ∀ {s : Nat}, i ≤ s → ((List.range i).flatMap f).length ≤ ((List.range s).flatMap f).length
  | 0, h => by
    have : i = 0 := by omega
    subst this
    exact Nat.le_refl _
  | s + 1, h => by
    by_cases c : i = s + 1
    · subst c; exact Nat.le_refl _
    · have := range_flat_le (f := f) (i := i) (s := s) (by omega)
      rw [List.range_succ, List.flatMap_append, List.length_append]
      omega
theorem wayN_le {md : List PyData} {k : Str} {ks : List Str} {s i : Nat} (h : i ≤ s) : (wayN md k ks s i).length ≤ (waysC md (k :: ks) s).length := range_flat_le h
theorem wayN_tr {md : List PyData} {us : List Str} (mb : ∀ m ∈ md, makerB us m = true) {k : Str} {ks : List Str} {s i : Nat} (h : i ≤ s) : ∀ r ∈ wayN md k ks s i, ∀ d ∈ r, trB d = true := fun r hr d hd => by
  obtain ⟨j, hj, hr⟩ := List.mem_flatMap.mp hr
  have hj := List.mem_range.mp hj
  exact waysC_tr mb (us := k :: ks) (s := s) r (by rw [waysC_cons]; exact List.mem_flatMap.mpr ⟨j, List.mem_range.mpr (by omega), hr⟩) d hd

section
variable {P : Program} {w : World} {K : PySem.W.Frag} {mg : Str → Option Value} {base : Heap}

theorem sc_ways : FnScope ["sig", "kinds", "size", "found", "first", "rest", "term", "row"] ["sig", "kinds", "size"] (defScope s_ways) := ⟨rfl, rfl, rfl, by decide +kernel, rfl, by decide +kernel, by decide +kernel⟩
theorem ok_ways_step {n : Nat} (D : Df K mg "_law_ways" s_ways) (B : Bi mg) (G0 : Gd P w K mg base CX0 (n + 2) "_law_ways" ["sig", "kinds", "size"] (spWays n)) (G1 : Gd P w K mg base CX0 (n + 2) "_law_closed" ["sig", "kind", "size"] (spCl n)) : Gd P w K mg base CX0 (n + 3) "_law_ways" ["sig", "kinds", "size"] (spWays (n + 1)) := by
  refine gd_of D (fun _ _ _ _ _ _ us hl => match us, hl with | [_, _, _], _ => rfl) fun f fd F => ?_
  refine fun_q F sc_ways (fun vs H Q E h => by obtain ⟨v, z, kd, md, ks, s, S, rfl, _⟩ := h; rfl) (fun cdv A outer s H vs Q E hr hq h => ?_)
  obtain ⟨v, z, kd, md, ks, s, S, rfl, hd, k2, hz, lk, few, ls, lS, dep, k⟩ := h
  obtain ⟨za, zx, rfl, hza, ZA⟩ := hz.tupD
  obtain rfl := ZA.strs
  refine ⟨_, (pss_cons (ps_if (pt_cmpR (op_eqE (un0 hr)) (pv 1) (pe_tup pa_nil) (nomark _)) (pss_one (ps_ret (pe_ifExp (pt_cmpR op_eq (pv 2) pe_int (nomark _)) (pe_lst (pa_cons (pe_tup pa_nil) pa_nil)) (pe_lst pa_nil)))) pss_nil)
      (pss_cons (ps_set (i := 3) sc_ways.nd rfl (Or.inl rfl) (pe_lst pa_nil))
      (pss_cons (ps_for PassesOwn.never rfl (pi_range2 rfl B.range (pa_cons pe_int (pa_cons (pe_op op_add (pv 2) pe_int) pa_nil))) (pg_name (i := 4) sc_ways.nd rfl (Or.inl rfl)) (pss_cons (ps_set (i := 5) sc_ways.nd rfl (Or.inl rfl) (pe_g (G0.mono (by omega)) hr hq (pa_cons (pv 0) (pa_cons (pe_slice sl_tupA (pv 1) (po_some pe_int) po_none) (pa_cons (pe_op op_sub (pv 2) (pv 4)) pa_nil)))))
      (pss_one (ps_if (pt_cmpR (op_neL (un0 hr)) (pv 5) (pe_lst pa_nil) (nomark _)) (pss_one (ps_for PassesOwn.never rfl (pi_list (pe_g (G1.mono (by omega)) hr hq (pa_cons (pv 0) (pa_cons (pe_ix ix_tup (pv 1) pe_int (fun _ _ => rfl)) (pa_cons (pv 4) pa_nil))))) (pg_name (i := 6) sc_ways.nd rfl (Or.inr rfl)) (pss_one (ps_set (i := 3) sc_ways.nd rfl (Or.inl rfl) (pe_op op_cat (pv 3) (pe_lc (own := [("row", 7)]) (g := (gName 7)) (tt := tYes) rfl sc_ways.nd (pi_list (pv 5)) (blkOk_by (own := [("row", 7)]) (N := ["sig", "kinds", "size", "found", "first", "rest", "term", "row"]) (sc := defScope s_ways) (by decide +kernel)) (fun _ _ _ _ _ => (pg_name (i := 7) sc_ways.nd rfl (Or.inl rfl))) (fun _ _ _ _ _ => pts_nil) (fun _ _ _ _ _ => (pe_op (op_catAK (K := K) rfl) (pe_tup (pa_cons (pv 6) pa_nil)) (pv 7))))))))) pss_nil))))
      (pss_one (ps_ret (pv 3)))))), ?_⟩
  obtain ⟨l24, mb, mnd⟩ := makersB_parts k2
  refine ⟨_, rfl, Nat.zero_le _, fun t0 ht0 => ?_⟩
  have s0 : Same H (upd H t0 (.tup [])) := same_new ht0 _
  refine ⟨za, t0, _, rfl, rfl, SqT.of (s0 _ _ hza), SqT.of upd_same, ?_⟩
  cases ks with
  | nil =>
    refine ⟨_, rfl, iteT ?_⟩
    refine ⟨_, rfl, rfl, _, rfl, ?_⟩
    rw [show decide (V.int ((s : Nat) : Int) = V.int 0) = decide (s = 0) from decide_eq_decide.mpr ⟨fun z => by injection z with z; omega, fun z => by rw [z]; rfl⟩]
    by_cases c : s = 0
    · rw [decide_eq_true c]
      refine iteT ?_
      refine ⟨Nat.zero_le _, fun t1 ht1 => ?_⟩
      have s1 : Same (upd H t0 (.tup [])) (upd (upd H t0 (.tup [])) t1 (.tup [])) := same_new ht1 _
      refine ⟨by show 1 ≤ sizeLine; rw [sizeLine_eq]; decide, fun p hp => ?_⟩
      have s2 := same_new hp (.lst [.ref t1])
      refine k p _ _ ((s0.trans s1).free hp) ((s0.trans s1).trans s2) upd_same ?_
      rw [show waysC md [] s = [[]] from by rw [c]; rfl]
      exact .cons (s2 _ _ upd_same) .nil .nil
    · rw [decide_eq_false c]
      refine iteF ?_
      refine ⟨by show 0 ≤ sizeLine; exact Nat.zero_le _, fun p hp => ?_⟩
      refine k p _ _ (s0.free hp) (s0.trans (same_new hp _)) upd_same ?_
      rw [show waysC md [] s = [] from by show (if s = 0 then [[]] else []) = []; rw [if_neg c]]
      exact .nil
  | cons k0 ks =>
  refine ⟨_, rfl, iteF ?_⟩
  refine ⟨by show 0 ≤ sizeLine; exact Nat.zero_le _, fun p0 hp0 => ?_⟩
  have s1 : Same H (upd (upd H t0 (.tup [])) p0 (.lst [])) := s0.trans (same_new hp0 _)
  have e1 : upd (upd H t0 (.tup [])) p0 (.lst []) p0 = some (.lst []) := upd_same
  have hp0' : H p0 = none := s0.free hp0
  generalize upd (upd H t0 (.tup [])) p0 (.lst []) = H1 at s1 e1 ⊢
  walk_at "rd"
  have hn : ((s : Int) + 1 - 1).toNat = s := by omega
  have wall := (few s ls).2 (k0 :: ks) lk
  have lk : ks.length + 1 ≤ 3 := lk
  have dep : 5 * s + (ks.length + 1) + 1 < n + 1 := dep
  refine for_it (walk_range (lo := 1)) (fun i σ H3 => ∃ p n4 n5 n6 us, σ = [some v, some (.ref za), some (.int s), some (.ref p), n4, n5, n6, none] ∧ Same H1 H3 ∧ H p = none ∧ H3 p = some (.lst us) ∧ RwL H3 us (wayN md k0 ks s i))
    ⟨p0, none, none, none, [], rfl, Same.refl _, hp0', e1, .nil⟩ (fun _ _ _ _ _ => True.intro) (fun i y σ H3p H3 hi pp hy => ?_) (fun σ H3 pp => ?_)
  rotate_left
  · obtain ⟨p, n4, n5, n6, us, rfl, s3, hp, e3, R3⟩ := pp
    rw [hn] at R3
    exact ⟨_, rfl, k p us H3 hp (s1.trans s3) e3 R3⟩
  obtain ⟨rfl, rfl⟩ := hy
  obtain ⟨p, n4, n5, n6, us, rfl, s3, hp, e3, R3⟩ := pp
  have s13 := s1.trans s3
  have hi : i < s := by omega
  refine ⟨_, rfl, _, rfl, _, rfl, noPart ?_⟩
  refine slA_tail (s13 _ _ hza) fun c H4 s4 ec => ?_
  walk_at "rd"
  have s14 := s13.trans s4
  refine ⟨v, .ref c, kd, md, ks, s - (i + 1), S, (by show [v, V.ref c, V.int ((s : Int) - (1 + (i : Int)))] = [v, V.ref c, V.int ((s - (i + 1) : Nat) : Int)]; rw [show (s : Int) - (1 + (i : Int)) = ((s - (i + 1) : Nat) : Int) from by omega]), hd.mono s14, k2, .tup ec (DdA.ofStrs _), by omega, few, by omega, lS, by omega, fun q ws H5 hq s5 e5 R5 => ?_⟩
  have s15 := s14.trans s5
  have wl := (few (s - (i + 1)) (by omega)).2 ks (by omega)
  have lR := R5.len
  have wtr := waysC_tr mb (us := ks) (s := s - (i + 1))
  refine ⟨_, rfl, by show 0 ≤ sizeLine; exact Nat.zero_le _, fun t1 ht1 => ?_⟩
  have s6 : Same H5 (upd H5 t1 (.lst [])) := same_new ht1 _
  refine ⟨q, t1, ws, rfl, rfl, SqL.of (s6 _ _ e5), SqL.of upd_same, ?_⟩
  refine ⟨_, rfl, ?_⟩
  have s16 := s15.trans s6
  have s36 : Same H3 (upd H5 t1 (.lst [])) := s4.trans (s5.trans s6)
  generalize upd H5 t1 (.lst []) = H6 at s6 s16 s36 ⊢
  have R3tr := wayN_tr mb (k := k0) (ks := ks) (s := s) (i := i) (by omega)
  by_cases cw : ws = []
  · rw [decide_eq_true cw]
    have w0 : waysC md ks (s - (i + 1)) = [] := List.length_eq_zero_iff.mp (by rw [← lR, cw]; rfl)
    refine iteF ⟨p, _, _, _, us, rfl, s3.trans s36, hp, s36 _ _ e3, ?_⟩
    rw [wayN_succ, w0]
    have : ((clC md k0 (i + 1)).flatMap fun t => ([] : List (List PyData)).map fun r => t :: r) = [] := List.flatMap_eq_nil_iff.mpr fun _ _ => rfl
    rw [this, List.append_nil]
    exact R3.mono (fun b xs e => s36 _ _ e) R3tr
  rw [decide_eq_false cw]
  refine iteT ?_
  refine ⟨_, rfl, _, rfl, za, _, 0, _, rfl, rfl, SqT.of (s16 _ _ hza), atI_nat (j := 0) rfl, _, rfl, v, kd, md, k0, i + 1, S, (by show [v, V.str k0, V.int (1 + (i : Int))] = [v, V.str k0, V.int ((i + 1 : Nat) : Int)]; rw [show (1 + (i : Int)) = ((i + 1 : Nat) : Int) from by omega]), hd.mono s16, k2, few, by omega, lS, by omega, fun q2 ts H7 hq2 s7 e7 A7 => ?_⟩
  have s17 := s16.trans s7
  have s37 := s36.trans s7
  have lts := A7.length
  have ctr := clC_tr mb (k := k0) (s := i + 1)
  have w1 := wayN_le (md := md) (k := k0) (ks := ks) (s := s) (i := i) (by omega)
  have w2 := wayN_le (md := md) (k := k0) (ks := ks) (s := s) (i := i + 1) (by omega)
  rw [wayN_succ, List.length_append] at w2
  refine ⟨q2, rfl, ⟨_, SqL.of e7⟩, ?_⟩
  refine for_it walk_list (fun j σ H8 => ∃ p n6 us, σ = [some v, some (.ref za), some (.int s), some (.ref p), some (.int (1 + (i : Int))), some (.ref q), n6, none] ∧ Same H7 H8 ∧ H p = none ∧ H8 p = some (.lst us) ∧ RwL H8 us (wayN md k0 ks s i ++ ((clC md k0 (i + 1)).take j).flatMap fun t => (waysC md ks (s - (i + 1))).map fun r => t :: r))
    ⟨p, n6, us, rfl, Same.refl _, hp, s37 _ _ e3, by rw [List.take_zero]; show RwL H7 us (_ ++ []); rw [List.append_nil]; exact R3.mono (fun b xs e => s37 _ _ e) R3tr⟩
    (fun j σ H8 _ p => by obtain ⟨_, _, _, _, s, _⟩ := p; exact SqL.of (s _ _ e7)) (fun j y σ H8p H8 hj pp hy => ?_) (fun σ H8 pp => ?_)
  rotate_left
  · obtain ⟨p, n6, us, rfl, s8, hp, e8, R8⟩ := pp
    rw [lts, List.take_length] at R8
    exact ⟨p, _, _, _, us, rfl, s3.trans (s37.trans s8), hp, e8, by rw [wayN_succ]; exact R8⟩
  obtain ⟨rfl, ey⟩ := hy
  obtain ⟨p, n6, us, rfl, s8, hp, e8, R8⟩ := pp
  obtain ⟨tm, et, htm⟩ := A7.get ey
  have ttr : trB tm = true := ctr tm (List.mem_of_getElem? et)
  have s18 := s17.trans s8
  have s58 : Same H5 H8 := s6.trans (s7.trans s8)
  have etk : ((clC md k0 (i + 1)).take (j + 1)).flatMap (fun t => (waysC md ks (s - (i + 1))).map fun r => t :: r) = ((clC md k0 (i + 1)).take j).flatMap (fun t => (waysC md ks (s - (i + 1))).map fun r => t :: r) ++ (waysC md ks (s - (i + 1))).map fun r => tm :: r := by
    rw [List.take_add_one, et, List.flatMap_append]; simp
  have pre : (((clC md k0 (i + 1)).take j).flatMap fun t => (waysC md ks (s - (i + 1))).map fun r => t :: r).length ≤ ((clC md k0 (i + 1)).flatMap fun t => (waysC md ks (s - (i + 1))).map fun r => t :: r).length := by
    conv => rhs; rw [← List.take_append_drop j (clC md k0 (i + 1))]
    rw [List.flatMap_append, List.length_append]
    omega
  have l8 := R8.len
  rw [List.length_append] at l8
  refine ⟨_, rfl, _, rfl, q, rfl, ⟨_, SqL.of (s58 _ _ e5)⟩, fun D hD => ?_⟩
  refine lc_it walk_list (fun g H9 => Same H8 H9 ∧ ∃ zs, H9 D = some (.lst zs) ∧ RwL H9 zs (((waysC md ks (s - (i + 1))).take g).map fun r => tm :: r)) ⟨same_new hD _, [], upd_same, by rw [List.take_zero]; exact .nil⟩ (fun g H9 _ p => SqL.of (p.1 _ _ (s58 _ _ e5))) (fun g y9 H9p H9 hg pg hy9 => ?_) (fun H9 pg => ?_)
  · obtain ⟨rfl, ey9⟩ := hy9
    obtain ⟨s9, zs, e9, R9⟩ := pg
    obtain ⟨tr, xr, r, rfl, er, htr, Ar⟩ := R5.get ey9
    have rl : r.length = ks.length := waysG_len _ _ r (List.mem_of_getElem? er)
    have lr := Ar.length
    have l9 := R9.len
    rw [List.length_map, List.length_take] at l9
    refine ⟨rfl, ?_⟩
    refine ⟨_, rfl, by show 1 ≤ sizeLine; rw [sizeLine_eq]; decide, fun tn htn => ?_⟩
    have s10 : Same H9 (upd H9 tn (.tup [y])) := same_new htn _
    refine ⟨_, rfl, ?_⟩
    have s5t := s58.trans (s9.trans s10)
    refine catA_all (xs := [y]) (ys := xr) upd_same (s5t _ _ htr) (by rw [sizeLine_eq]; show 1 + xr.length ≤ _; omega) fun c8 H10 s11 ec8 => ?_
    have e10 := s11 _ _ (s10 _ _ e9)
    refine ⟨zs, e10, by rw [sizeLine_eq]; omega, same_put ((s9.trans s10).trans s11) hD, zs ++ [.ref c8], upd_same, ?_⟩
    rw [List.take_add_one, er, List.map_append]
    have keep : ∀ b xs, H10 b = some (.tup xs) → upd H10 D (.lst (zs ++ [.ref c8])) b = some (.tup xs) := fun b xs q => tup_put e10 q
    have tr1 : ∀ r ∈ ((waysC md ks (s - (i + 1))).take g).map (fun r => tm :: r), ∀ d ∈ r, trB d = true := fun r' hr' d hd => by
      obtain ⟨r0, hr0, rfl⟩ := List.mem_map.mp hr'
      rcases List.mem_cons.mp hd with z | z
      · subst z; exact ttr
      · exact wtr r0 (List.mem_of_mem_take hr0) d z
    have rtr : ∀ d ∈ r, trB d = true := wtr r (List.mem_of_getElem? er)
    have same11 : Same H9 H10 := s10.trans s11
    refine RwL.app ((R9.mono (fun b xs e => same11 _ _ e) tr1).mono keep tr1) (.cons (keep _ _ ec8) ?_ .nil)
    refine .cons (trD_mono keep ttr (htm.mono (s8.trans (s9.trans same11)))) (trA_mono keep rtr (Ar.mono (s5t.trans s11)))
  · obtain ⟨s9, zs, e9, R9⟩ := pg
    rw [lR, List.take_length] at R9
    have l9 := R9.len
    rw [List.length_map] at l9
    refine ⟨p, D, us, zs, rfl, rfl, s9 _ _ e8, e9, by rw [sizeLine_eq]; omega, fun r hr => ?_⟩
    have s11 := same_new hr (.lst (us ++ zs))
    refine ⟨r, _, us ++ zs, rfl, s8.trans (s9.trans s11), (s18.trans s9).free hr, upd_same, ?_⟩
    rw [etk, ← List.append_assoc]
    have tra : ∀ r ∈ wayN md k0 ks s i ++ ((clC md k0 (i + 1)).take j).flatMap (fun t => (waysC md ks (s - (i + 1))).map fun r => t :: r), ∀ d ∈ r, trB d = true := fun r' hr' d hd => by
      rcases List.mem_append.mp hr' with w | w
      · exact R3tr r' w d hd
      · obtain ⟨t', ht', hr'⟩ := List.mem_flatMap.mp w
        obtain ⟨r0, hr0, rfl⟩ := List.mem_map.mp hr'
        rcases List.mem_cons.mp hd with z | z
        · subst z; exact ctr _ (List.mem_of_mem_take ht')
        · exact wtr r0 hr0 d z
    have trb : ∀ r ∈ (waysC md ks (s - (i + 1))).map (fun r => tm :: r), ∀ d ∈ r, trB d = true := fun r' hr' d hd => by
      obtain ⟨r0, hr0, rfl⟩ := List.mem_map.mp hr'
      rcases List.mem_cons.mp hd with z | z
      · subst z; exact ttr
      · exact wtr r0 hr0 d z
    exact RwL.app (R8.mono (fun b xs e => (s9.trans s11) _ _ e) tra) (R9.mono (fun b xs e => s11 _ _ e) trb)

end

section
variable {P : Program} {w : World} {K : PySem.W.Frag} {mg : Str → Option Value} {base : Heap}

theorem ok_cw (D1 : Df K mg "_law_ways" s_ways) (D2 : Df K mg "_law_closed" s_closed) (B : Bi mg) (G : Gd P w K mg base CX0 1 "_law_makers" ["sig", "kind"] spLMakers) :
    ∀ n : Nat, Gd P w K mg base CX0 (n + 2) "_law_ways" ["sig", "kinds", "size"] (spWays n) ∧ Gd P w K mg base CX0 (n + 2) "_law_closed" ["sig", "kind", "size"] (spCl n)
  | 0 => by
    have no1 : ∀ {vs : List V} {H : Hp} {Q : VK} {E : XK}, ¬ spWays 0 vs H Q E := fun h => by
      obtain ⟨_, _, _, _, _, _, _, _, _, _, _, _, _, _, _, z, _⟩ := h
      exact Nat.not_lt_zero _ z
    have no2 : ∀ {vs : List V} {H : Hp} {Q : VK} {E : XK}, ¬ spCl 0 vs H Q E := fun h => by
      obtain ⟨_, _, _, _, _, _, _, _, _, _, _, _, z, _⟩ := h
      exact Nat.not_lt_zero _ z
    refine ⟨gd_of D1 (fun _ _ _ _ _ _ us hl => match us, hl with | [_, _, _], _ => rfl) fun f fd F => ?_, gd_of D2 (fun _ _ _ _ _ _ us hl => match us, hl with | [_, _, _], _ => rfl) fun f fd F => ?_⟩
    · exact fun_q F sc_ways (fun vs H Q E h => (no1 h).elim) (fun cdv A outer s H vs Q E hr hq h => (no1 h).elim)
    · exact fun_q F sc_closed (fun vs H Q E h => (no2 h).elim) (fun cdv A outer s H vs Q E hr hq h => (no2 h).elim)
  | n + 1 => ⟨ok_ways_step D1 B (ok_cw D1 D2 B G n).1 (ok_cw D1 D2 B G n).2, ok_closed_step D2 B (ok_cw D1 D2 B G n).1 G⟩

end

section
variable {P : Program} {w : World} {K : PySem.W.Frag} {mg : Str → Option Value} {base : Heap}

/-- _law_held(sig, kinds, patterns): what the variables are of -/
def spHeld (n : Nat) : Sp := fun vs H Q _ => ∃ (v z u : V) (kd md : List PyData) (ks : List Str) (ps : List PyData), vs = [v, z, u] ∧ Dd H v (.tuple [.tuple kd, .tuple md]) ∧ kindsB (.tuple kd) = true ∧ makersB (kd.map nameOf) (.tuple md) = true ∧ Dd H z (.tuple (ks.map PyData.str)) ∧ ks.length ≤ 4 ∧ (∀ x ∈ ks, x ∈ kd.map nameOf) ∧ Dd H u (.tuple ps) ∧ ps.length = ks.length ∧ okT (.tuple ps) = true ∧ (PyData.tuple ps).depth ≤ n ∧ psz (.tuple ps) ≤ 1000000 ∧
  ∀ f kvs g2 b H', H f = none → Same H H' → H' f = some (.dK kvs) → KG kvs g2 → TPost (fun _ => none) g2 (pkL md ps ks) b → Q (.ref f) H'
theorem sc_held : FnScope ["sig", "kinds", "patterns", "known", "kind", "part"] ["sig", "kinds", "patterns"] (defScope s_held) := ⟨rfl, rfl, rfl, by decide +kernel, rfl, by decide +kernel, by decide +kernel⟩
theorem ok_held {n : Nat} (D : Df K mg "_law_held" s_held) (B : Bi mg) (Bz : mg "zip" = none) (G0 : Gd P w K mg base CX0 (n + 2) "_law_is_term_of" ["sig", "kind", "thing", "known"] (spTP n)) : Gd P w K mg base CX0 (n + 3) "_law_held" ["sig", "kinds", "patterns"] (spHeld n) := by
  refine gd_of D (fun _ _ _ _ _ _ us hl => match us, hl with | [_, _, _], _ => rfl) fun f fd F => ?_
  refine fun_q F sc_held (fun vs H Q E h => by obtain ⟨v, z, u, kd, md, ks, ps, rfl, _⟩ := h; rfl) (fun cdv A outer s H vs Q E hr hq h => ?_)
  obtain ⟨v, z, u, kd, md, ks, ps, rfl, hd, k1, k2, hz, lk, hk, hu, lp, okd, dep, lsz, k⟩ := h
  obtain ⟨za, zx, rfl, hza, ZA⟩ := hz.tupD
  obtain rfl := ZA.strs
  obtain ⟨ua, ux, rfl, hua, UA⟩ := hu.tupD
  have lu := UA.length
  refine ⟨_, (pss_cons (ps_set (i := 3) sc_held.nd rfl (Or.inl rfl) pe_dnewK)
      (pss_cons (ps_for PassesOwn.never rfl (RZ.pi_zipA (by rfl) Bz (pa_cons (pv 1) (pa_cons (pv 2) pa_nil))) (pg_tup rfl (pgs_cons (pg_name (i := 4) sc_held.nd rfl (Or.inl rfl)) (pgs_cons (pg_name (i := 5) sc_held.nd rfl (Or.inl rfl)) pgs_nil))) (pss_one (ps_expr (pe_g G0 hr hq (pa_cons (pv 0) (pa_cons (pv 4) (pa_cons (pv 5) (pa_cons (pv 3) pa_nil))))))))
      (pss_one (ps_ret (pv 3))))), ?_⟩
  refine fun fK hf => ?_
  have s2 : Same H (upd H fK (.dK [])) := same_new hf _
  have ef2 : upd H fK (.dK []) fK = some (.dK []) := upd_same
  obtain ⟨H2, eH2⟩ : ∃ H2, H2 = upd H fK (.dK []) := ⟨_, rfl⟩
  rw [← eH2] at s2 ef2 ⊢
  refine ⟨_, rfl, _, rfl, za, ua, _, _, rfl, .inr ⟨SqT.of (s2 _ _ hza), SqT.of (s2 _ _ hua), ?_⟩⟩
  have pz : psz (.tuple ps) = 1 + pszs ps := by rw [psz]
  refine for_it (walk_zipT (xs := ks.map V.str) (ys := ux) rfl) (fun i σ H5 => ∃ n4 n5 kvs5 g5 b, σ = [some v, some (.ref za), some (.ref ua), some (.ref fK), n4, n5] ∧ But fK H2 H5 ∧ H5 fK = some (.dK kvs5) ∧ KG kvs5 g5 ∧ kvs5.length ≤ pszs (ps.take i) ∧ TPost (fun _ => none) g5 (pkL md (ps.take i) (ks.take i)) b)
    ⟨none, none, [], fun _ => none, true, rfl, But.refl, ef2, .nil, Nat.zero_le _, by rw [List.take_zero, List.take_zero, pkL]; exact .nil⟩
    (fun i σ H5 _ p => by obtain ⟨_, _, _, _, _, _, b5, _⟩ := p; rw [eH2] at b5; exact ⟨SqT.of (but_same hf b5 _ _ hza), SqT.of (but_same hf b5 _ _ hua)⟩) (fun i y σ H5p H5 hi p hy => ?_) (fun σ H5 p => ?_)
  · obtain ⟨T, a1, b1, rfl, nT, rfl, ea1, eb1⟩ := hy
    obtain ⟨n4, n5, kvs5, g5, b, rfl, b5, ef5, kg5, lk5, TP⟩ := p
    dsimp only at ea1 eb1
    rw [List.getElem?_map] at ea1
    obtain ⟨arg, ea, rfl⟩ := Option.map_eq_some_iff.mp ea1
    obtain ⟨dd, edd, hdd⟩ := UA.get eb1
    have b6 : But fK H2 (upd H5p T (.tup [.str arg, b1])) := b5.trans (Same.but (same_new nT _))
    have ef6 := same_new nT (.tup [.str arg, b1]) _ _ ef5
    have b06 := b6
    rw [eH2] at b06
    have pm := psz_mem edd
    have pt := psz_take ps (i + 1)
    refine ⟨T, _, rfl, SqT.of upd_same, rfl, _, _, rfl, _, _, rfl, rfl, ?_⟩
    refine ⟨_, rfl, _, rfl, _, rfl, _, rfl, v, b1, kd, md, arg, dd, fK, kvs5, g5, rfl, (hd.mono (same_del hf)).but b06, k1, k2, hk arg (List.mem_of_getElem? ea), (hdd.mono (same_del hf)).but b06, okTs_mem okd dd (List.mem_of_getElem? edd), ?_, ef6, kg5, by omega, fun b' H6 kvs6 g6 b7 ef7 kg6 lk6 TP6 => ?_⟩
    · have h1 := depth_mem (List.mem_of_getElem? edd)
      have h2 : (PyData.tuple ps).depth = PyData.depthAll ps + 1 := by rw [PyData.depth]
      omega
    · refine ⟨_, _, kvs6, g6, b && b', rfl, b6.trans b7, ef7, kg6, by omega, ?_⟩
      rw [List.take_add_one, List.take_add_one, ea, edd]
      show TPost (fun _ => none) g6 (pkL md (ps.take i ++ [dd]) (ks.take i ++ [arg])) (b && b')
      rw [pkL_snoc (by rw [List.length_take, List.length_take, lp])]
      exact TP.app TP6
  · obtain ⟨n4, n5, kvs5, g5, b, rfl, b5, ef5, kg5, lk5, TP⟩ := p
    have ez1 : ps.take (min (ks.map V.str).length ux.length) = ps := List.take_of_length_le (by rw [List.length_map]; omega)
    have ez2 : ks.take (min (ks.map V.str).length ux.length) = ks := List.take_of_length_le (by rw [List.length_map]; omega)
    rw [ez1, ez2] at TP
    rw [eH2] at b5
    exact ⟨_, rfl, k fK kvs5 g5 b H5 hf (but_same hf b5) ef5 kg5 TP⟩

end

/-- how great the closed terms of a size are -/
theorem waysG_psz {c : Str → Nat → List PyData} {n : Nat} : ∀ (ks : List Str) (s : Nat), s ≤ n → (∀ k i, i ≤ n → ∀ d ∈ c k i, psz d ≤ 2 * i ∧ d.depth ≤ i) → ∀ r ∈ waysG c ks s, pszs r ≤ 2 * s ∧ PyData.depthAll r ≤ s
  | [], s, _, _, r, hr => by
    have hr : r ∈ (if s = 0 then [[]] else []) := hr
    by_cases c0 : s = 0
    · rw [if_pos c0, List.mem_singleton] at hr
      subst hr
      exact ⟨by rw [pszs]; exact Nat.zero_le _, by unfold PyData.depthAll; exact Nat.zero_le _⟩
    · rw [if_neg c0] at hr; cases hr
  | k :: ks, s, l, h, r, hr => by
    obtain ⟨i, hi, hr⟩ := List.mem_flatMap.mp (show r ∈ (List.range s).flatMap _ from hr)
    obtain ⟨t, ht, hr⟩ := List.mem_flatMap.mp hr
    obtain ⟨r0, hr0, rfl⟩ := List.mem_map.mp hr
    have hi := List.mem_range.mp hi
    have h1 := h k (i + 1) (by omega) t ht
    have h2 := waysG_psz ks (s - (i + 1)) (by omega) h r0 hr0
    refine ⟨by rw [pszs]; omega, ?_⟩
    unfold PyData.depthAll
    exact Nat.max_le.mpr ⟨by omega, by omega⟩
theorem closedP_psz {md : List PyData} : ∀ (f : Nat) (k : Str) (s : Nat), ∀ d ∈ closedP md f k s, psz d ≤ 2 * s ∧ d.depth ≤ s
  | 0, _, _, d, h => by cases h
  | f + 1, k, s, d, h => by
    obtain ⟨m, hm, h⟩ := List.mem_flatMap.mp (show d ∈ (ofKind md k).flatMap _ from h)
    by_cases c : (needsOf m).length < s
    · rw [if_pos c] at h
      obtain ⟨r, hr, rfl⟩ := List.mem_map.mp h
      obtain ⟨h1, h2⟩ := waysG_psz (n := s - 1) _ _ (Nat.le_refl _) (fun k i _ => closedP_psz f k i) r hr
      have pz : psz (.tuple (.str (nameOf m) :: r)) = 2 + pszs r := by
        rw [psz, pszs, psz]
        · omega
        · intros; simp_all
      refine ⟨by omega, ?_⟩
      rw [PyData.depth]
      have : PyData.depthAll (.str (nameOf m) :: r) ≤ s - 1 := by
        unfold PyData.depthAll
        exact Nat.max_le.mpr ⟨Nat.zero_le _, h2⟩
      omega
    · rw [if_neg c] at h; cases h
theorem clC_psz {md : List PyData} {k : Str} {s : Nat} {d : PyData} (h : d ∈ clC md k s) : psz d ≤ 2 * s ∧ d.depth ≤ s := closedP_psz s k s d h
theorem waysG_sh {c : Str → Nat → List PyData} {n : Nat} : ∀ (ks : List Str) (s : Nat), (∀ k i, ∀ d ∈ c k i, shB n d = true) → ∀ r ∈ waysG c ks s, ∀ d ∈ r, shB n d = true
  | [], s, _, r, hr, d, hd => by
    have hr : r ∈ (if s = 0 then [[]] else [] : List (List PyData)) := hr
    by_cases c : s = 0
    · rw [if_pos c] at hr
      rw [List.mem_singleton.mp hr] at hd
      cases hd
    · rw [if_neg c] at hr; cases hr
  | k :: ks, s, h, r, hr, d, hd => by
    obtain ⟨i, hi, hr⟩ := List.mem_flatMap.mp (show r ∈ (List.range s).flatMap _ from hr)
    obtain ⟨t, ht, hr⟩ := List.mem_flatMap.mp hr
    obtain ⟨r2, hr2, rfl⟩ := List.mem_map.mp hr
    rcases List.mem_cons.mp hd with rfl | hd
    · exact h k (i + 1) _ ht
    · exact waysG_sh ks (s - (i + 1)) h r2 hr2 d hd
theorem name_of_maker {ks : List Str} {m : PyData} (h : makerB ks m = true) : nameS (nameOf m) = true := by
  unfold makerB at h
  split at h
  · rename_i a ns k
    simp only [Bool.and_eq_true] at h
    have h1 := h.1.1.1
    cases a with
    | str x => exact h1
    | _ => exact absurd h1 (by simp [isNameB])
  · cases h
theorem closedP_sh {md : List PyData} {ks : List Str} (mb : ∀ m ∈ md, makerB ks m = true) : ∀ (f : Nat) (k : Str) (s : Nat), ∀ d ∈ closedP md f k s, shB f d = true
  | 0, _, _, d, h => by cases h
  | f + 1, k, s, d, h => by
    obtain ⟨m, hm, h⟩ := List.mem_flatMap.mp (show d ∈ (ofKind md k).flatMap _ from h)
    have hmd := (List.mem_filter.mp hm).1
    by_cases c : (needsOf m).length < s
    · rw [if_pos c] at h
      obtain ⟨r, hr, rfl⟩ := List.mem_map.mp h
      have lr := waysG_len _ _ r hr
      have l3 := needs_few (mb m hmd)
      refine shB_of (by rw [List.length_cons]; omega) fun x hx => ?_
      rcases List.mem_cons.mp hx with w | w
      · rw [w]; exact shB_mono (Nat.zero_le _) (name_ok (name_of_maker (mb m hmd)))
      · exact waysG_sh _ _ (fun k i => closedP_sh mb f k i) r hr x w
    · rw [if_neg c] at h; cases h
theorem clC_sh {md : List PyData} {ks : List Str} (mb : ∀ m ∈ md, makerB ks m = true) {k : Str} {s : Nat} : ∀ d ∈ clC md k s, shB s d = true := closedP_sh mb s k s
theorem stranger_sh {x : Str} {i : Int} (h : nameS x = true) : shB 1 (.tuple [.str "#", .str x, .int i]) = true := by
  refine shB_of (by show 3 ≤ 1000; decide) fun d hd => ?_
  rcases List.mem_cons.mp hd with w | hd
  · rw [w]; decide +kernel
  rcases List.mem_cons.mp hd with w | hd
  · rw [w]; exact name_ok h
  · rw [List.mem_singleton.mp hd]; rfl
/-- a kind that is open, or has a closed term of at most eight parts -/
def Small (kd md : List PyData) (x : Str) : Prop := S0 kd x = true ∨ ∃ s, 1 ≤ s ∧ s ≤ 8 ∧ clC md x s ≠ []

section
variable {P : Program} {w : World} {K : PySem.W.Frag} {mg : Str → Option Value} {base : Heap}

def spNo : Sp := fun _ _ _ _ => False
theorem sc_least : FnScope ["sig", "kind", "size", "term", "name", "args", "arg"] ["sig", "kind"] (defScope s_least) := ⟨rfl, rfl, rfl, by decide +kernel, rfl, by decide +kernel, by decide +kernel⟩
theorem no_least (D : Df K mg "_law_least" s_least) : Gd P w K mg base CX0 1 "_law_least" ["sig", "kind"] spNo := by
  refine gd_of D (fun _ _ _ _ _ _ us hl => match us, hl with | [_, _], _ => rfl) fun f fd F => ?_
  exact fun_q F sc_least (fun vs H Q E h => h.elim) (fun cdv A outer s H vs Q E hr hq h => h.elim)
/-- _law_least(sig, kind), of a kind that is open or small -/
def spLeast : Sp := fun vs H Q _ => ∃ (v : V) (kd md : List PyData) (x : Str), vs = [v, .str x] ∧ Dd H v (.tuple [.tuple kd, .tuple md]) ∧ kindsB (.tuple kd) = true ∧ makersB (kd.map nameOf) (.tuple md) = true ∧ x ∈ kd.map nameOf ∧ Few md 8 ∧ Small kd md x ∧
  ∀ r d H', Same H H' → Dd H' r d → trB d = true → psz d ≤ 20 → d.depth ≤ 8 → shB 8 d = true → Q r H'

theorem ok_least (D : Df K mg "_law_least" s_least) (B : Bi mg) (G0 : Gd P w K mg base CX0 1 "_law_least" ["sig", "kind"] spNo) (G1 : Gd P w K mg base CX0 1 "_law_is_open" ["sig", "kind"] spIsOpen) (G2 : Gd P w K mg base CX0 49 "_law_closed" ["sig", "kind", "size"] (spCl 47)) (G3 : Gd P w K mg base CX0 1 "_law_makers" ["sig", "kind"] spLMakers) : Gd P w K mg base CX0 50 "_law_least" ["sig", "kind"] spLeast := by
  refine gd_of D (fun _ _ _ _ _ _ us hl => match us, hl with | [_, _], _ => rfl) fun f fd F => ?_
  refine fun_q F sc_least (fun vs H Q E h => by obtain ⟨v, kd, md, x, rfl, _⟩ := h; rfl) (fun cdv A outer s H vs Q E hr hq h => ?_)
  obtain ⟨v, kd, md, x, rfl, hd, k1, k2, hx, few, sm, k⟩ := h
  refine ⟨_, (pss_cons (ps_if (pt_val (pe_g (G1.mono (by decide)) hr hq (pa_cons (pv 0) (pa_cons (pv 1) pa_nil)))) (pss_one (ps_ret (pe_tup (pa_cons pe_str (pa_cons (pv 1) (pa_cons pe_int pa_nil)))))) pss_nil)
      (pss_cons (ps_for PassesOwn.never rfl (pi_range2 rfl B.range (pa_cons pe_int (pa_cons pe_int pa_nil))) (pg_name (i := 2) sc_least.nd rfl (Or.inl rfl)) (pss_one (ps_for PassesOwn.never rfl (pi_list (pe_slice sl_list (pe_g (G2.mono (by decide)) hr hq (pa_cons (pv 0) (pa_cons (pv 1) (pa_cons (pv 2) pa_nil)))) po_none (po_some pe_int))) (pg_name (i := 3) sc_least.nd rfl (Or.inl rfl)) (pss_one (ps_ret (pv 3))))))
      (pss_cons (ps_for PassesOwn.never rfl (pi_list (pe_g (G3.mono (by decide)) hr hq (pa_cons (pv 0) (pa_cons (pv 1) pa_nil)))) (pg_tup rfl (pgs_cons (pg_name (i := 4) sc_least.nd rfl (Or.inl rfl)) (pgs_cons (pg_name (i := 5) sc_least.nd rfl (Or.inl rfl)) pgs_nil))) (pss_one (ps_if (pt_cmpR op_notIn_seq (pv 1) (pv 5) (by rfl)) (pss_one (ps_ret (pe_op op_catA (pe_tup (pa_cons (pv 4) pa_nil)) (pe_callTy call_tuple_of (by rfl) B.tuple (by decide +kernel) (pa_cons (pe_lc (own := [("arg", 6)]) (g := (gName 6)) (tt := tYes) rfl sc_least.nd (pi_tup (pv 5)) (blkOk_by (own := [("arg", 6)]) (N := ["sig", "kind", "size", "term", "name", "args", "arg"]) (sc := defScope s_least) (by decide +kernel)) (fun _ _ _ _ _ => (pg_name (i := 6) sc_least.nd rfl (Or.inl rfl))) (fun _ _ _ _ _ => pts_nil) (fun _ _ _ _ _ => (pe_g (G0.mono (by decide)) hr hq (pa_cons (pv 0) (pa_cons (pv 6) pa_nil))))) pa_nil))))) pss_nil)))
      (pss_one (ps_ret (pe_tup pa_nil)))))), ?_⟩
  obtain ⟨l24, mb, mnd⟩ := makersB_parts k2
  obtain ⟨l1, l8, kb, knd⟩ := kindsB_parts k1
  refine ⟨_, rfl, _, rfl, v, kd, _, x, rfl, hd, k1, name_of_kind kb hx, fun H1 s1 => ⟨_, rfl, ?_⟩⟩
  cases eo : S0 kd x with
  | true =>
    refine iteT ?_
    walk_at "rd"
    refine fun q hq => ?_
    refine k _ (.tuple [.str "#", .str x, .int 1]) _ (s1.trans (same_new hq _)) (.tup upd_same (.cons (.str _) (.cons (.str _) (.cons (.int _) .nil)))) ?_ ?_ ?_ (shB_mono (by decide) (stranger_sh (name_of_kind kb hx)))
    · rw [trB, trH, if_neg (by decide), if_pos rfl]; rfl
    · simp [psz, pszs]
    · simp [PyData.depth, PyData.depthAll]
  | false =>
  have sm : ∃ s, 1 ≤ s ∧ s ≤ 8 ∧ clC md x s ≠ [] := sm.resolve_left (by rw [eo]; decide)
  refine iteF ?_
  walk_at "rd"
  have h8 : ((9 : Int) - 1).toNat = 8 := by decide
  refine for_it (walk_range (lo := 1)) (fun i σ H3 => ∃ n2 n3, σ = [some v, some (.str x), n2, n3, none, none, none] ∧ Same H1 H3 ∧ ∀ s, 1 ≤ s → s ≤ i → clC md x s = []) ⟨none, none, rfl, Same.refl _, fun s h1 h2 => absurd h2 (by omega)⟩ (fun _ _ _ _ _ => True.intro) (fun i y σ H3p H3 hi pp hy => ?_) (fun σ H3 pp => ?_)
  rotate_left
  · obtain ⟨n2, n3, rfl, s3, no⟩ := pp
    obtain ⟨s, h1, h2, h3⟩ := sm
    exact absurd (no s h1 (by rw [h8]; exact h2)) h3
  obtain ⟨rfl, rfl⟩ := hy
  obtain ⟨n2, n3, rfl, s3, no⟩ := pp
  have s13 := s1.trans s3
  have hi : i < 8 := by rw [h8] at hi; exact hi
  refine ⟨_, rfl, _, rfl, _, rfl, v, kd, md, x, i + 1, 8, (by show [v, V.str x, V.int (1 + (i : Int))] = [v, V.str x, V.int ((i + 1 : Nat) : Int)]; rw [show (1 + (i : Int)) = ((i + 1 : Nat) : Int) from by omega]), hd.mono s13, k2, few, by omega, by omega, by omega, fun q us H4 hq s4 e4 A4 => ?_⟩
  have s34 := s3.trans s4
  refine noPart ?_
  refine ⟨_, rfl, ?_⟩
  refine ⟨q, us, rfl, SqL.of e4, fun p hp => ?_⟩
  have s5 : Same H4 (upd H4 p (.lst (cutV us none (some 1)))) := same_new hp _
  have e5 : upd H4 p (.lst (cutV us none (some 1))) p = some (.lst (cutV us none (some 1))) := upd_same
  generalize upd H4 p (.lst (cutV us none (some 1))) = H5 at s5 e5 ⊢
  refine ⟨p, rfl, ⟨_, SqL.of e5⟩, ?_⟩
  cases ec : clC md x (i + 1) with
  | nil =>
    rw [ec] at A4
    cases A4
    have e5 : H5 p = some (.lst []) := e5
    refine for_it (walk_list (xs := [])) (fun j σ H6 => ∃ n2 n3, σ = [some v, some (.str x), n2, n3, none, none, none] ∧ Same H5 H6) ⟨_, _, rfl, Same.refl _⟩ (fun j σ H6 _ p => by obtain ⟨_, _, _, s⟩ := p; exact SqL.of (s _ _ e5)) (fun j y σ H6p H6 hj pp hy => absurd hj (Nat.not_lt_zero _)) (fun σ H6 pp => ?_)
    obtain ⟨n2, n3, rfl, s6⟩ := pp
    refine ⟨_, _, rfl, s34.trans (s5.trans s6), fun s h1 h2 => ?_⟩
    by_cases c : s = i + 1
    · rw [c]; exact ec
    · exact no s h1 (by omega)
  | cons t0 ts0 =>
    have htr := clC_tr mb (k := x) (s := i + 1) t0 (by rw [ec]; exact List.mem_cons_self ..)
    have hsh := clC_sh mb (k := x) (s := i + 1) t0 (by rw [ec]; exact List.mem_cons_self ..)
    have hps := clC_psz (md := md) (k := x) (s := i + 1) (d := t0) (by rw [ec]; exact List.mem_cons_self ..)
    rw [ec] at A4
    cases A4 with
    | @cons w ws _ _ hw Aw =>
    have e5 : H5 p = some (.lst [w]) := by rw [e5]; unfold cutV; simp [HT.sIx]
    refine for_it (walk_list (xs := [w])) (fun j σ H6 => j = 0 ∧ ∃ n2 n3, σ = [some v, some (.str x), n2, n3, none, none, none] ∧ Same H5 H6) ⟨rfl, _, _, rfl, Same.refl _⟩ (fun j σ H6 _ p => by obtain ⟨_, _, _, _, s⟩ := p; exact SqL.of (s _ _ e5)) (fun j y σ H6p H6 hj pp hy => ?_) (fun σ H6 pp => absurd pp.1 (Nat.succ_ne_zero _))
    obtain ⟨rfl, ey⟩ := hy
    obtain ⟨rfl, n2, n3, rfl, s6⟩ := pp
    cases ey
    exact ⟨_, rfl, k _ t0 H6 (s1.trans (s34.trans (s5.trans s6))) (hw.mono (s5.trans s6)) htr (by omega) (by omega) (shB_mono (by omega) hsh)⟩

end

theorem del_at {H : Hp} {p : Addr} : L2.del H p p = none := by simp [L2.del]

section
variable {P : Program} {w : World} {K : PySem.W.Frag} {mg : Str → Option Value} {base : Heap}

/-- _law_kinds(well, sig, most) -/
def spKindsD : Sp := fun vs H Q _ => ∃ (p : Addr) (v : V) (kd : List PyData) (md : PyData) (most : Int), vs = [.ref p, v, .int most] ∧ Well H p ∧ Dd (L2.del H p) v (.tuple [.tuple kd, md]) ∧ kindsB (.tuple kd) = true ∧ 1 ≤ most ∧ most ≤ 4 ∧
  ∀ (r : V) (ks : List Str) (H' : Hp), Well H' p → But p H H' → Dd (L2.del H' p) r (.tuple (ks.map PyData.str)) → 1 ≤ ks.length → ks.length ≤ 4 → (∀ x ∈ ks, x ∈ kd.map nameOf) → Q r H'
theorem sc_kinds : FnScope ["well", "sig", "most", "turn"] ["well", "sig", "most"] (defScope s_kinds) := ⟨rfl, rfl, rfl, by decide +kernel, rfl, by decide +kernel, by decide +kernel⟩
theorem ok_kinds (D : Df K mg "_law_kinds" s_kinds) (B : Bi mg) (G1 : Gd P w K mg base CX0 1 "_law_draw" ["well", "few"] spDraw) (G2 : Gd P w K mg base CX0 2 "_law_one" ["well", "some"] (spOne K)) : Gd P w K mg base CX0 3 "_law_kinds" ["well", "sig", "most"] spKindsD := by
  refine gd_of D (fun _ _ _ _ _ _ us hl => match us, hl with | [_, _, _], _ => rfl) fun f fd F => ?_
  refine fun_q F sc_kinds (fun vs H Q E h => by obtain ⟨p, v, kd, md, most, rfl, _⟩ := h; rfl) (fun cdv A outer s H vs Q E hr hq h => ?_)
  obtain ⟨p, v, kd, md, most, rfl, W, hd, k1, m1, m4, k⟩ := h
  refine ⟨_, (pss_one (ps_ret (pe_callTy call_tuple_of (by rfl) B.tuple (by decide +kernel) (pa_cons (pe_lc (own := [("turn", 3)]) (g := (gName 3)) (tt := tYes) rfl sc_kinds.nd (pi_range1 rfl B.range (pa_cons (pe_op op_add pe_int (pe_g (G1.mono (by decide)) hr hq (pa_cons (pv 0) (pa_cons (pv 2) pa_nil)))) pa_nil)) (blkOk_by (own := [("turn", 3)]) (N := ["well", "sig", "most", "turn"]) (sc := defScope s_kinds) (by decide +kernel)) (fun _ _ _ _ _ => (pg_name (i := 3) sc_kinds.nd rfl (Or.inl rfl))) (fun _ _ _ _ _ => pts_nil) (fun _ _ _ _ _ => (pe_ix (ix_tupK (K := K) rfl) (pe_g (G2.mono (by decide)) hr hq (pa_cons (pv 0) (pa_cons (pe_ix (ix_tupK (K := K) rfl) (pv 1) pe_int (fun _ _ => rfl)) pa_nil))) pe_int (fun _ _ => rfl)))) pa_nil)))), ?_⟩
  obtain ⟨l1, l8, kb, knd⟩ := kindsB_parts k1
  obtain ⟨sa, vk, vm, rfl, hsa, hk, hm⟩ := dd2 hd
  obtain ⟨ka, kx, rfl, hka, KA⟩ := hk.tupD
  have lk := KA.length
  walk_at "rd"
  have up : ∀ {H' : Hp}, But p H H' → ∀ {a : Addr} {o : HO}, L2.del H p a = some o → H' a = some o := fun {H'} b {a o} e => del_old _ _ (b.del _ _ e)
  have npk : p ≠ ka := fun z => by rw [← z, del_at] at hka; cases hka
  refine fun n H1 h0 h1 W1 b1 => ?_
  walk_at "rd"
  refine fun D hD => ?_
  have nDp : D ≠ p := fun z => W1.some (z ▸ hD)
  have bD : But p H (upd H1 D (.lst [])) := b1.trans (new_but hD)
  refine lc_it (walk_range (lo := 0)) (fun i H5 => Well H5 p ∧ But p H1 H5 ∧ ∃ ks : List Str, H5 D = some (.lst (ks.map V.str)) ∧ ks.length = i ∧ ∀ x ∈ ks, x ∈ kd.map nameOf) ⟨W1.new hD, new_but hD, [], upd_same, rfl, fun x hx => by cases hx⟩ (fun _ _ _ _ => True.intro) (fun i y H5p H5 hi pp hy => ?_) (fun H5 pp => ?_)
  · obtain ⟨rfl, rfl⟩ := hy
    obtain ⟨W5, b5, ks, e5, lks, hks⟩ := pp
    have b15 := b1.trans b5
    refine ⟨rfl, ?_⟩
    refine ⟨_, rfl, _, rfl, sa, _, 0, _, rfl, rfl, SqT.of (up b15 hsa), rfl, p, ka, kx, rfl, W5, SqT.of (up b15 hka), npk, by omega, by omega, fun j w H6 ej W6 b6 => ?_⟩
    obtain ⟨q, x, b, ed, rfl, hq2, _⟩ := kind_at KA kb ej
    have b16 := b15.trans b6
    refine ⟨q, _, 0, _, rfl, rfl, SqT.of (up b16 hq2), rfl, ?_⟩
    have e6 := b6 _ _ nDp e5
    refine ⟨_, e6, by rw [sizeLine_eq, List.length_map]; omega, ?_, fun a o na e => ?_, ks ++ [x], ?_, by rw [List.length_append, lks]; rfl, fun z hz => ?_⟩
    · obtain ⟨a, m, c, N, ew⟩ := W6
      exact ⟨a, m, c, N, by rw [upd_ne nDp.symm]; exact ew⟩
    · have c : a ≠ D := fun z => by rw [z, hD] at e; cases e
      rw [upd_ne c]
      exact (b5.trans b6) a o na e
    · rw [upd_same, List.map_append]; rfl
    · rcases List.mem_append.mp hz with w | w
      · exact hks z w
      · rw [List.mem_singleton.mp w]
        exact List.mem_map.mpr ⟨_, List.mem_of_getElem? ed, rfl⟩
  · obtain ⟨W5, b5, ks, e5, lks, hks⟩ := pp
    refine ⟨D, _, rfl, .inl ⟨SqL.of e5, fun q hq => ?_⟩⟩
    have nqp : q ≠ p := fun z => W5.some (z ▸ hq)
    refine k _ ks _ (W5.new hq) ((b1.trans b5).trans (new_but hq)) (.tup (del_new nqp) (DdA.ofStrs ks)) (by omega) (by omega) hks

end

/-- how great a drawn term can be -/
def tbN : Nat → Nat
  | 0 => 20
  | n + 1 => 2 + 3 * tbN n
theorem tbN_ge (n : Nat) : 20 ≤ tbN n := by cases n <;> simp [tbN] <;> (have := tbN_ge ‹_›; omega)
theorem pszs_le {n : Nat} : ∀ ds : List PyData, (∀ d ∈ ds, psz d ≤ n) → pszs ds ≤ ds.length * n
  | [], _ => by rw [pszs]; exact Nat.zero_le _
  | d :: ds, h => by
    have h1 := h d (List.mem_cons_self ..)
    have h2 := pszs_le ds fun x hx => h x (List.mem_cons_of_mem _ hx)
    rw [pszs, List.length_cons, Nat.add_mul]
    omega
theorem dd_apart {H : Hp} {p : Addr} {r : V} {d : PyData} (W : Well H p) (t : trB d = true) (h : Dd H r d) : Dd (L2.del H p) r d :=
  trD_mono (fun b xs e => by
    obtain ⟨_, _, _, _, ew⟩ := W
    rw [del_ne (fun z => by rw [z, ew] at e; cases e)]
    exact e) t h
theorem depthAll_of {n : Nat} {ds : List PyData} (h : ∀ d ∈ ds, d.depth ≤ n) : PyData.depthAll ds ≤ n := depthAll_le h

section
variable {P : Program} {w : World} {K : PySem.W.Frag} {mg : Str → Option Value} {base : Heap}

/-- _law_one(well, some), some a list -/
def spOneL (K : PySem.W.Frag) : Sp := fun vs H Q _ => ∃ (p t : Addr) (xs : List V), vs = [.ref p, .ref t] ∧ Well H p ∧ H t = some (.lst xs) ∧ p ≠ t ∧ 0 < xs.length ∧ xs.length < 1000000 ∧
  ∀ (i : Nat) (v : V) (H' : Hp), xs[i]? = some v → Well H' p → But p H H' → Q v H'
theorem ok_oneL (D : Df K mg "_law_one" s_one) (B : Bi mg) (G : Gd P w K mg base CX0 1 "_law_draw" ["well", "few"] spDraw) : Gd P w K mg base CX0 2 "_law_one" ["well", "some"] (spOneL K) := by
  refine gd_of D (fun _ _ _ _ _ _ us hl => match us, hl with | [_, _], _ => rfl) fun f fd F => ?_
  refine fun_q F sc_one (fun vs H Q E h => ?_) (fun cdv A outer s H vs Q E hr hq h => ?_)
  · obtain ⟨p, t, xs, rfl, _⟩ := h
    rfl
  obtain ⟨p, t, xs, rfl, W, hS, ne, l0, l1, k⟩ := h
  refine ⟨_, pss_one (ps_ret (pe_ix ix_list (pv 1) (pe_g G hr hq (pa_cons (pv 0) (pa_cons (pe_callB call_len_seq (by rfl) B.len PySem.boot_len (pa_cons (pv 1) pa_nil)) pa_nil))) (fun _ _ => rfl))), ?_⟩
  walk_at "rd"
  refine ⟨_, _, rfl, .inl (SqL.of hS), p, _, rfl, W, by omega, by omega, fun d H' d0 d1 W' bt => ?_⟩
  have hd : d.toNat < xs.length := by omega
  refine ⟨t, xs, d, xs[d.toNat], rfl, rfl, SqL.of (bt _ _ ne.symm hS), ?_, k d.toNat _ H' (List.getElem?_eq_getElem hd) W' bt⟩
  have e : d = ((d.toNat : Nat) : Int) := by omega
  have q : atI xs ((d.toNat : Nat) : Int) = some xs[d.toNat] := atI_nat (List.getElem?_eq_getElem hd)
  rw [← e] at q
  exact q

/-- _law_term(well, sig, kind, deep) -/
def spTermD (n : Nat) : Sp := fun vs H Q _ => ∃ (p : Addr) (v : V) (kd md : List PyData) (x : Str), vs = [.ref p, v, .str x, .int ((n : Nat) : Int)] ∧ Well H p ∧ Dd (L2.del H p) v (.tuple [.tuple kd, .tuple md]) ∧ kindsB (.tuple kd) = true ∧ makersB (kd.map nameOf) (.tuple md) = true ∧ x ∈ kd.map nameOf ∧ Few md 8 ∧ (∀ y ∈ kd.map nameOf, Small kd md y) ∧
  ∀ (r : V) (d : PyData) (H' : Hp), Well H' p → But p H H' → Dd (L2.del H' p) r d → trB d = true → psz d ≤ tbN n → d.depth ≤ 8 + n → shB (8 + n) d = true → Q r H'
theorem sc_term : FnScope ["well", "sig", "kind", "deep", "makers", "name", "args", "arg"] ["well", "sig", "kind", "deep"] (defScope s_term) := ⟨rfl, rfl, rfl, by decide +kernel, rfl, by decide +kernel, by decide +kernel⟩
/-- the promise one less deep -/
def spPrev : Nat → Sp
  | 0 => fun _ _ _ _ => False
  | n + 1 => spTermD n

theorem ok_term_step {n : Nat} (D : Df K mg "_law_term" s_term) (B : Bi mg) (G0 : Gd P w K mg base CX0 (n + 51) "_law_term" ["well", "sig", "kind", "deep"] (spPrev n)) (G1 : Gd P w K mg base CX0 1 "_law_is_open" ["sig", "kind"] spIsOpen) (G2 : Gd P w K mg base CX0 1 "_law_draw" ["well", "few"] spDraw) (G3 : Gd P w K mg base CX0 1 "_law_makers" ["sig", "kind"] spLMakers) (G4 : Gd P w K mg base CX0 50 "_law_least" ["sig", "kind"] spLeast) (G5 : Gd P w K mg base CX0 2 "_law_one" ["well", "some"] (spOneL K)) : Gd P w K mg base CX0 (n + 52) "_law_term" ["well", "sig", "kind", "deep"] (spTermD n) := by
  refine gd_of D (fun _ _ _ _ _ _ us hl => match us, hl with | [_, _, _, _], _ => rfl) fun f fd F => ?_
  refine fun_q F sc_term (fun vs H Q E h => by obtain ⟨p, v, kd, md, x, rfl, _⟩ := h; rfl) (fun cdv A outer s H vs Q E hr hq h => ?_)
  obtain ⟨p, v, kd, md, x, rfl, W, hd, k1, k2, hx, few, sm, k⟩ := h
  refine ⟨_, (pss_cons (ps_set (i := 4) sc_term.nd rfl (Or.inl rfl) (pe_g (G3.mono (by omega)) hr hq (pa_cons (pv 1) (pa_cons (pv 2) pa_nil))))
      (pss_cons (ps_if (PW.pt (pw_and (pt_val (pe_g (G1.mono (by omega)) hr hq (pa_cons (pv 1) (pa_cons (pv 2) pa_nil)))) (pw_and1 (pt_cmpR op_eq (pe_g (G2.mono (by omega)) hr hq (pa_cons (pv 0) (pa_cons pe_int pa_nil))) pe_int (nomark _))))) (pss_one (ps_ret (pe_tup (pa_cons pe_str (pa_cons (pv 2) (pa_cons (pe_op op_add pe_int (pe_g (G2.mono (by omega)) hr hq (pa_cons (pv 0) (pa_cons pe_int pa_nil)))) pa_nil)))))) pss_nil)
      (pss_cons (ps_if (PW.pt (pw_or (pt_cmpR op_eq (pv 3) pe_int (nomark _)) (pw_or1 (pt_cmpR (op_eqL (un0 hr)) (pv 4) (pe_lst pa_nil) (nomark _))))) (pss_one (ps_ret (pe_g (G4.mono (by omega)) hr hq (pa_cons (pv 1) (pa_cons (pv 2) pa_nil))))) pss_nil)
      (pss_cons (ps_asg (pe_g (G5.mono (by omega)) hr hq (pa_cons (pv 0) (pa_cons (pv 4) pa_nil))) (pg_tup rfl (pgs_cons (pg_name (i := 5) sc_term.nd rfl (Or.inl rfl)) (pgs_cons (pg_name (i := 6) sc_term.nd rfl (Or.inl rfl)) pgs_nil))))
      (pss_one (ps_ret (pe_op op_catA (pe_tup (pa_cons (pv 5) pa_nil)) (pe_callTy call_tuple_of (by rfl) B.tuple (by decide +kernel) (pa_cons (pe_lc (own := [("arg", 7)]) (g := (gName 7)) (tt := tYes) rfl sc_term.nd (pi_tup (pv 6)) (blkOk_by (own := [("arg", 7)]) (N := ["well", "sig", "kind", "deep", "makers", "name", "args", "arg"]) (sc := defScope s_term) (by decide +kernel)) (fun _ _ _ _ _ => (pg_name (i := 7) sc_term.nd rfl (Or.inl rfl))) (fun _ _ _ _ _ => pts_nil) (fun _ _ _ _ _ => (pe_g (G0.mono (by omega)) hr hq (pa_cons (pv 0) (pa_cons (pv 1) (pa_cons (pv 7) (pa_cons (pe_op op_sub (pv 3) pe_int) pa_nil))))))) pa_nil))))))))), ?_⟩
  obtain ⟨l24, mb, mnd⟩ := makersB_parts k2
  obtain ⟨l1, l8, kb, knd⟩ := kindsB_parts k1
  have t20 := tbN_ge n
  refine ⟨_, rfl, _, rfl, v, kd, md, x, rfl, hd.all, k2, fun l ys H1 s1 hl el M => ?_⟩
  dsimp only
  have W1 := W.same s1
  have b1 : But p H H1 := Same.but s1
  have nlp : l ≠ p := fun z => W.some (z ▸ hl)
  show tSeq _ _ _ _ _
  refine seq_nx (a := tIfS _ _ _) (fun σ H3 => σ = [some (.ref p), some v, some (.str x), some (.int ((n : Nat) : Int)), some (.ref l), none, none, none] ∧ Well H3 p ∧ But p H1 H3) (fun σ H3 pp => ?_) (fun N hN => ?_)
  rotate_left
  · refine ⟨_, rfl, _, rfl, v, kd, _, x, rfl, hd.all.mono s1, k1, name_of_kind kb hx, fun H2 s2 => ⟨_, rfl, ?_⟩⟩
    have W2 := W1.same s2
    cases eo : S0 kd x with
    | false => exact iteF (iteF (hN _ _ ⟨rfl, W2, Same.but s2⟩))
    | true =>
    refine iteT ⟨_, rfl, p, 3, rfl, W2, by decide, by decide, fun j H3 j0 j3 W3 b3 => ?_⟩
    refine ⟨rfl, _, rfl, ?_⟩
    rw [dec_int]
    by_cases cj : j = 0
    · subst cj
      refine iteT ?_
      refine ⟨_, rfl, _, rfl, p, 3, rfl, W3, by decide, by decide, fun i H4 i0 i3 W4 b4 => ?_⟩
      walk_at "rd"
      refine fun q hq => ?_
      have nqp : q ≠ p := fun z => W4.some (z ▸ hq)
      refine k _ (.tuple [.str "#", .str x, .int (1 + i)]) _ (W4.new hq) (b1.trans (((Same.but s2).trans (b3.trans b4)).trans (new_but hq))) (.tup (del_new nqp) (.cons (.str _) (.cons (.str _) (.cons (.int _) .nil)))) ?_ ?_ ?_ (shB_mono (by omega) (stranger_sh (name_of_kind kb hx)))
      · rw [trB, trH, if_neg (by decide), if_pos rfl]; rfl
      · have : psz (.tuple [.str "#", .str x, .int (1 + i)]) = 4 := by simp [psz, pszs]
        omega
      · have : (PyData.tuple [.str "#", .str x, .int (1 + i)]).depth = 1 := by simp [PyData.depth, PyData.depthAll]
        omega
    · rw [show (j == 0) = false from by simpa using cj]
      exact iteF (hN _ _ ⟨rfl, W3, (Same.but s2).trans b3⟩)
  obtain ⟨rfl, W3, b13⟩ := pp
  have b03 := b1.trans b13
  have el3 := b13 _ _ nlp el
  have lst : ∀ {H' : Hp}, Well H' p → But p H H' → ∀ r d H5, Same H' H5 → Dd H5 r d → trB d = true → psz d ≤ 20 → d.depth ≤ 8 → shB 8 d = true → Q r H5 := fun {H'} W' b' r d H5 s5 hr5 t5 p5 d5 sh5 => k r d H5 (W'.same s5) (b'.trans (Same.but s5)) (dd_apart (W'.same s5) t5 hr5) t5 (by omega) (by omega) (shB_mono (by omega) sh5)
  refine ⟨_, rfl, rfl, _, rfl, ?_⟩
  rw [show decide (V.int ((n : Nat) : Int) = V.int 0) = decide (n = 0) from decide_eq_decide.mpr ⟨fun z => by injection z with z; omega, fun z => by rw [z]; rfl⟩]
  by_cases c0 : n = 0
  · rw [decide_eq_true c0]
    exact iteT (iteT ⟨_, rfl, _, rfl, v, kd, md, x, rfl, (hd.but b03).all, k1, k2, hx, few, sm x hx, lst W3 b03⟩)
  rw [decide_eq_false c0]
  refine iteF ⟨_, rfl, by show 0 ≤ sizeLine; exact Nat.zero_le _, fun t1 ht1 => ?_⟩
  have s4 : Same H3 (upd H3 t1 (.lst [])) := same_new ht1 _
  refine ⟨l, t1, ys, rfl, rfl, SqL.of (s4 _ _ el3), SqL.of upd_same, _, rfl, ?_⟩
  have W4 := W3.same s4
  have b14 := b13.trans (Same.but s4)
  have b04 := b1.trans b14
  generalize upd H3 t1 (.lst []) = H4 at s4 W4 b14 b04 ⊢
  by_cases cy : ys = []
  · rw [decide_eq_true cy]
    exact iteT (⟨_, rfl, _, rfl, v, kd, md, x, rfl, (hd.but b04).all, k1, k2, hx, few, sm x hx, lst W4 b04⟩)
  rw [decide_eq_false cy]
  have lM := M.len
  have lof : (ofKind md x).length ≤ md.length := List.length_filter_le _ _
  have ypos : 0 < ys.length := List.length_pos_iff.mpr cy
  refine iteF ?_
  refine ⟨_, rfl, _, rfl, p, l, ys, rfl, W4, s4 _ _ el3, nlp.symm, ypos, by omega, fun i w H5 ei W5 b5 => ?_⟩
  obtain ⟨m, em, tt, nv, na, rfl, ht, hna⟩ := M.get ei
  obtain ⟨a0, m0, c0', N0, ew0⟩ := id W1
  have keep : ∀ {H' : Hp}, But p H1 H' → ∀ {b : Addr} {zs : List V}, H1 b = some (.tup zs) → H' b = some (.tup zs) := fun {H'} bt {b zs} q => bt _ _ (fun z => by rw [z, ew0] at q; cases q) q
  have b15 := b14.trans b5
  have hmm := List.mem_of_getElem? em
  have hmd := (List.mem_filter.mp hmm).1
  have lns := needs_few (mb m hmd)
  have nok := needs_ok2 (mb m hmd)
  obtain ⟨nm1, nm2⟩ := name_marks (mb m hmd)
  refine ⟨tt, _, rfl, SqT.of (keep b15 ht), rfl, _, _, rfl, _, _, rfl, rfl, ?_⟩
  refine ⟨_, rfl, by show 1 ≤ sizeLine; rw [sizeLine_eq]; decide, fun t2 ht2 => ?_⟩
  have s6 : Same H5 (upd H5 t2 (.tup [.str (nameOf m)])) := same_new ht2 _
  have et2 : upd H5 t2 (.tup [.str (nameOf m)]) t2 = some (.tup [.str (nameOf m)]) := upd_same
  have W6 := W5.same s6
  have b16 := b15.trans (Same.but s6)
  generalize upd H5 t2 (.tup [.str (nameOf m)]) = H6 at s6 et2 W6 b16 ⊢
  refine ⟨_, rfl, na, rfl, ⟨_, SqT.of (keep b16 hna)⟩, fun D hD => ?_⟩
  cases n with
  | zero => exact absurd rfl c0
  | succ n =>
  have nDp : D ≠ p := fun z => W6.some (z ▸ hD)
  refine lc_it walk_tup (fun j H7 => Well H7 p ∧ But p H6 H7 ∧ ∃ us ds, H7 D = some (.lst us) ∧ DdA (L2.del H7 p) us ds ∧ ds.length = j ∧ (∀ d ∈ ds, trB d = true) ∧ (∀ d ∈ ds, psz d ≤ tbN n) ∧ ∀ d ∈ ds, d.depth ≤ 8 + n ∧ shB (8 + n) d = true)
    ⟨W6.new hD, new_but hD, [], [], upd_same, .nil, rfl, (fun d hd => by cases hd), (fun d hd => by cases hd), fun d hd => by cases hd⟩ (fun j H7 _ pp => SqT.of (keep (b16.trans pp.2.1) hna)) (fun j y H7p H7 hj pp hy => ?_) (fun H7 pp => ?_)
  · obtain ⟨rfl, ey⟩ := hy
    obtain ⟨W7, b7, us, ds, e7, A7, l7, t7, p7, d7⟩ := pp
    rw [List.getElem?_map] at ey
    obtain ⟨arg, ea, rfl⟩ := Option.map_eq_some_iff.mp ey
    have b17 := b16.trans b7
    have b07 := b1.trans b17
    refine ⟨rfl, ?_⟩
    refine ⟨_, rfl, _, rfl, _, rfl, _, rfl, ?_⟩
    walk_at "rd"
    refine ⟨p, v, kd, md, arg, (by show [V.ref p, v, V.str arg, V.int (((n + 1 : Nat) : Int) - 1)] = [V.ref p, v, V.str arg, V.int ((n : Nat) : Int)]; rw [show ((n + 1 : Nat) : Int) - 1 = ((n : Nat) : Int) from by omega]), W7, hd.but b07, k1, k2, nok arg (List.mem_of_getElem? ea), few, sm, fun r d H8 W8 b8 hr8 t8 p8 d8 sh8 => ?_⟩
    have e8 := b8 _ _ nDp e7
    have l7' := A7.length
    have ja := (List.getElem?_eq_some_iff.mp ea).1
    have keepD : ∀ b xs, L2.del H8 p b = some (.tup xs) → L2.del (upd H8 D (.lst (us ++ [r]))) p b = some (.tup xs) := fun b xs q => by
      have nb : b ≠ p := fun z => by rw [z, del_same] at q; cases q
      rw [del_ne nb] at q ⊢
      exact tup_put e8 q
    refine ⟨us, e8, by rw [sizeLine_eq]; omega, ?_, fun a o na' e => ?_, us ++ [r], ds ++ [d], upd_same, ?_, by rw [List.length_append, l7]; rfl, fun z hz => ?_, fun z hz => ?_, fun z hz => ?_⟩
    · obtain ⟨a, m, c, N, ew⟩ := W8
      exact ⟨a, m, c, N, by rw [upd_ne nDp.symm]; exact ew⟩
    · have c : a ≠ D := fun z => by rw [z, hD] at e; cases e
      rw [upd_ne c]
      exact (b7.trans b8) a o na' e
    · exact DdA.append (trA_mono keepD t7 (A7.but b8)) (.cons (trD_mono keepD t8 hr8) .nil)
    · rcases List.mem_append.mp hz with w | w
      · exact t7 z w
      · rw [List.mem_singleton.mp w]; exact t8
    · rcases List.mem_append.mp hz with w | w
      · exact p7 z w
      · rw [List.mem_singleton.mp w]; exact p8
    · rcases List.mem_append.mp hz with w | w
      · exact d7 z w
      · rw [List.mem_singleton.mp w]; exact ⟨d8, sh8⟩
  · obtain ⟨W7, b7, us, ds, e7, A7, l7, t7, p7, d7⟩ := pp
    have l7' := A7.length
    rw [List.length_map] at l7
    refine ⟨D, us, rfl, .inl ⟨SqL.of e7, fun tt htt => ?_⟩⟩
    have ntp : tt ≠ p := fun z => W7.some (z ▸ htt)
    have s8 : Same H7 (upd H7 tt (.tup us)) := same_new htt _
    have nt2 : t2 ≠ p := fun z => W5.some (z ▸ ht2)
    have b68 : But p H6 (upd H7 tt (.tup us)) := b7.trans (Same.but s8)
    refine catA_all (xs := [V.str (nameOf m)]) (ys := us) (b68 _ _ nt2 et2) upd_same (by rw [sizeLine_eq]; show 1 + us.length ≤ _; omega) fun c8 H8 s9 ec8 => ?_
    have W8 := (W7.same s8).same s9
    have n8 : c8 ≠ p := fun z => by
      obtain ⟨_, _, _, _, ew⟩ := W8
      rw [z, ew] at ec8
      cases ec8
    have ps := pszs_le ds p7
    have da := depthAll_of fun d hd => (d7 d hd).1
    have pz : psz (.tuple (.str (nameOf m) :: ds)) = 2 + pszs ds := by
      rw [psz, pszs, psz]
      · omega
      · intros; simp_all
    have l3 : ds.length * tbN n ≤ 3 * tbN n := Nat.mul_le_mul_right _ (by omega)
    refine k _ (.tuple (.str (nameOf m) :: ds)) H8 W8 (b1.trans ((b16.trans b68).trans (Same.but s9))) (.tup (by rw [del_ne n8]; exact ec8) (.cons (.str _) (A7.but ((Same.but s8).trans (Same.but s9))))) ?_ ?_ ?_ (show shB ((8 + n) + 1) _ = true from shB_of (by rw [List.length_cons]; omega) fun x hx => by
      rcases List.mem_cons.mp hx with w | w
      · rw [w]; exact shB_mono (Nat.zero_le _) (name_ok (name_of_maker (mb m hmd)))
      · exact (d7 x w).2)
    · rw [trB, trH, if_neg nm1, if_neg nm2]; exact trL_of t7
    · rw [pz]; show _ ≤ 2 + 3 * tbN n; omega
    · rw [PyData.depth]
      have : PyData.depthAll (.str (nameOf m) :: ds) ≤ 8 + n := by
        unfold PyData.depthAll
        exact Nat.max_le.mpr ⟨Nat.zero_le _, da⟩
      omega

theorem ok_term (D : Df K mg "_law_term" s_term) (B : Bi mg) (G1 : Gd P w K mg base CX0 1 "_law_is_open" ["sig", "kind"] spIsOpen) (G2 : Gd P w K mg base CX0 1 "_law_draw" ["well", "few"] spDraw) (G3 : Gd P w K mg base CX0 1 "_law_makers" ["sig", "kind"] spLMakers) (G4 : Gd P w K mg base CX0 50 "_law_least" ["sig", "kind"] spLeast) (G5 : Gd P w K mg base CX0 2 "_law_one" ["well", "some"] (spOneL K)) :
    ∀ n : Nat, Gd P w K mg base CX0 (n + 52) "_law_term" ["well", "sig", "kind", "deep"] (spTermD n)
  | 0 => ok_term_step (n := 0) D B (by
    refine gd_of D (fun _ _ _ _ _ _ us hl => match us, hl with | [_, _, _, _], _ => rfl) fun f fd F => ?_
    exact fun_q F sc_term (fun vs H Q E h => (show False from h).elim) (fun cdv A outer s H vs Q E hr hq h => (show False from h).elim)) G1 G2 G3 G4 G5
  | n + 1 => ok_term_step (n := n + 1) D B (ok_term D B G1 G2 G3 G4 G5 n) G1 G2 G3 G4 G5

end

section
variable {P : Program} {w : World} {K : PySem.W.Frag} {mg : Str → Option Value} {base : Heap}

theorem But.at {p q : Addr} {H H1 : Hp} {o : HO} (a : But p H H1) (n : H q = none) : But p H (upd H1 q o) := fun c u nc e => by
  rw [upd_ne (ne_of_none e n)]
  exact a c u nc e
/-- _law_mixed(well, some): the same in another order -/
def spMixed : Sp := fun vs H Q _ => ∃ (p t : Addr) (xs : List V) (ds : List PyData), vs = [.ref p, .ref t] ∧ Well H p ∧ H t = some (.tup xs) ∧ t ≠ p ∧ DdA (L2.del H p) xs ds ∧ (∀ d ∈ ds, shB 20 d = true) ∧ ds.length ≤ 1000 ∧
  ∀ (l : Addr) (ys : List V) (es : List PyData) (H' : Hp), Well H' p → But p H H' → l ≠ p → H l = none → H' l = some (.lst ys) → DdA (L2.del H' p) ys es → es.Perm ds → Q (.ref l) H'
theorem perm_erase {α : Type} {d : α} : ∀ {l : List α} {i : Nat}, l[i]? = some d → ([d] ++ l.eraseIdx i).Perm l
  | [], _, e => by simp at e
  | x :: l, 0, e => by
    simp only [List.getElem?_cons_zero, Option.some.injEq] at e
    subst e
    exact List.Perm.refl _
  | x :: l, i + 1, e => by
    have h := perm_erase (l := l) (i := i) (by simpa using e)
    exact (List.Perm.swap x d _).trans (h.cons x)
theorem perm_turn {fds lds ds : List PyData} {i : Nat} {d : PyData} (h : (fds ++ lds).Perm ds) (e : lds[i]? = some d) : ((fds ++ [d]) ++ lds.eraseIdx i).Perm ds := by
  refine List.Perm.trans ?_ h
  rw [List.append_assoc]
  exact (perm_erase e).append_left fds
theorem seqIx_nat {n k : Nat} (h : k < n) : seqIndex? ((k : Nat) : Int) n = some k := by
  have := ixN_seq (n := n) (i := ((k : Nat) : Int)) (j := k) (by unfold ixN; rw [if_pos (by omega), if_pos (by omega)]; simp)
  exact this.1
theorem sc_mixed : FnScope ["well", "some", "left", "found"] ["well", "some"] (defScope s_mixed) := ⟨rfl, rfl, rfl, by decide +kernel, rfl, by decide +kernel, by decide +kernel⟩
theorem ok_mixed (D : Df K mg "_law_mixed" s_mixed) (B : Bi mg) (G1 : Gd P w K mg base CX0 1 "_law_draw" ["well", "few"] spDraw) : Gd P w K mg base CX0 2 "_law_mixed" ["well", "some"] spMixed := by
  refine gd_of D (fun _ _ _ _ _ _ us hl => match us, hl with | [_, _], _ => rfl) fun f fd F => ?_
  refine fun_q F sc_mixed (fun vs H Q E h => by obtain ⟨p, t, xs, ds, rfl, _⟩ := h; rfl) (fun cdv A outer s H vs Q E hr hq h => ?_)
  obtain ⟨p, t, xs, ds, rfl, W, ht, ntp, A, sh, lz, k⟩ := h
  have la := A.length
  refine ⟨_, (pss_cons (ps_par (i := 2) (j := 3) (by rfl) sc_mixed.nd rfl rfl (by decide) rfl rfl (pa_cons (pe_callTy call_list_of (by rfl) B.list (by decide +kernel) (pa_cons (pv 1) pa_nil)) (pa_cons (pe_lst pa_nil) pa_nil)) (by rfl))
      (pss_cons (ps_while PassesOwn.never (pt_cmpR (op_neD hr.units) (pv 2) (pe_lst pa_nil) (nomark _)) (pss_one (ps_expr (pe_bm PySem.F.plainAttrs_list PySem.F.slot_list_append PySem.F.type_list_append mt_append (pv 3) (pa_cons (pe_bm PySem.F.plainAttrs_list PySem.F.slot_list_pop PySem.F.type_list_pop mt_popAt (pv 2) (pa_cons (pe_g G1 hr hq (pa_cons (pv 0) (pa_cons (pe_callB call_len_seq (by rfl) B.len (by decide +kernel) (pa_cons (pv 2) pa_nil)) pa_nil))) pa_nil)) pa_nil)))))
      (pss_one (ps_ret (pv 3))))), ?_⟩
  walk_at "rd"
  refine ⟨t, xs, rfl, .inr (SqT.of ht), fun a ha => ?_⟩
  refine ⟨by show 0 ≤ sizeLine; exact Nat.zero_le _, fun b hb => ?_⟩
  have nba : b ≠ a := fun z => by rw [z, upd_same] at hb; cases hb
  have hb0 : H b = none := by rw [upd_ne nba] at hb; exact hb
  have npa : a ≠ p := fun z => W.some (z ▸ ha)
  have npb : b ≠ p := fun z => W.some (z ▸ hb0)
  refine ⟨_, _, rfl, ?_⟩
  refine ⟨fun m σ H1 => ∃ ls fs lds fds, σ = [some (.ref p), some (.ref t), some (.ref a), some (.ref b)] ∧ m = ls.length ∧ Well H1 p ∧ But p H H1 ∧ H1 a = some (.lst ls) ∧ H1 b = some (.lst fs) ∧ DdA (L2.del H p) ls lds ∧ DdA (L2.del H p) fs fds ∧ (fds ++ lds).Perm ds,
    ⟨_, xs, [], ds, [], rfl, rfl, (W.new ha).new hb, (But.refl.at ha).at hb0, by rw [upd_ne nba.symm, upd_same], upd_same, A, .nil, List.Perm.refl _⟩, ?_⟩
  rintro m σ H1 ⟨ls, fs, lds, fds, rfl, rfl, W1, bt, ea, eb, LA, FA, pm⟩
  have ll := LA.length
  have lf := FA.length
  have lp := pm.length_eq
  rw [List.length_append] at lp
  walk_at "rd"
  refine fun c hc => ?_
  have ea2 : upd H1 c (.lst []) a = some (.lst ls) := by rw [upd_ne (ne_of_none ea hc)]; exact ea
  have mem : ∀ d ∈ lds, shB 20 d = true := fun d hd => sh d (pm.mem_iff.mp (List.mem_append_right _ hd))
  refine ⟨.list lds, .list [], .lst (SqL.of ea2) (DdA.dp mem ((LA.but (bt.new hc)).all)), .lst (SqL.of upd_same) .nil, list_shaped mem (by decide), rfl, ?_⟩
  refine ⟨_, rfl, ?_⟩
  cases lds with
  | nil =>
    cases LA
    refine iteF ?_
    walk_at "rd"
    refine k b fs fds _ (W1.new hc) (bt.new hc) npb hb0 (by rw [upd_ne (ne_of_none eb hc)]; exact eb) (FA.but (bt.new hc)) ?_
    rw [List.append_nil] at pm
    exact pm
  | cons d0 lds =>
  have pos : 0 < ls.length := by rw [ll]; exact Nat.succ_pos _
  refine iteT ⟨fun σ' H' => ∃ m', m' < ls.length ∧ ∃ ls fs lds fds, σ' = [some (.ref p), some (.ref t), some (.ref a), some (.ref b)] ∧ m' = ls.length ∧ Well H' p ∧ But p H H' ∧ H' a = some (.lst ls) ∧ H' b = some (.lst fs) ∧ DdA (L2.del H p) ls lds ∧ DdA (L2.del H p) fs fds ∧ (fds ++ lds).Perm ds, fun _ _ z => z, ?_⟩
  have eb2 : upd H1 c (.lst []) b = some (.lst fs) := by rw [upd_ne (ne_of_none eb hc)]; exact eb
  have W2 := W1.new (o := .lst []) hc
  have bt2 := bt.new (o := .lst []) hc
  refine ⟨_, rfl, .inl ⟨rfl, _, SqL.of eb2⟩, ?_⟩
  refine ⟨_, rfl, .inl ⟨rfl, _, SqL.of ea2⟩, ?_⟩
  refine ⟨_, rfl, _, rfl, _, _, rfl, .inl (SqL.of ea2), p, _, rfl, W2, by omega, by omega, fun n H3 n0 n1 W3 b3 => ?_⟩
  have hn : n.toNat < ls.length := by omega
  have en : n = ((n.toNat : Nat) : Int) := by omega
  have ea3 := b3 _ _ npa ea2
  have eb3 := b3 _ _ npb eb2
  have bt3 := bt2.trans b3
  obtain ⟨d, ed, hd⟩ := LA.get (List.getElem?_eq_getElem hn)
  refine ⟨a, ls, n, n.toNat, _, rfl, rfl, ea3, by omega, by omega, by rw [en]; exact seqIx_nat hn, List.getElem?_eq_getElem hn, ?_⟩
  refine ⟨b, fs, _, rfl, rfl, by rw [upd_ne nba]; exact eb3, by rw [sizeLine_eq]; omega, ?_⟩
  refine ⟨_, ?_, ls.eraseIdx n.toNat, fs ++ [ls[n.toNat]], _, fds ++ [d], rfl, rfl, ?_, (bt3.at ha).at hb0, ?_, upd_same, LA.erase n.toNat, FA.append (.cons hd .nil), perm_turn pm ed⟩
  · rw [List.length_eraseIdx_of_lt hn]
    omega
  · obtain ⟨x, y, z, N, e⟩ := W3
    exact ⟨x, y, z, N, by rw [upd_ne npb.symm, upd_ne npa.symm]; exact e⟩
  · rw [upd_ne nba.symm, upd_same]

end

theorem del_get {H : Hp} {p b : Addr} {o : HO} (h : L2.del H p b = some o) : b ≠ p ∧ H b = some o := by
  by_cases e : b = p
  · subst e
    rw [del_same] at h
    cases h
  · rw [del_ne e] at h
    exact ⟨e, h⟩

/-- the signatures that are drawn from -/
def sigL : List PyData := [(.tuple [(.tuple [(.tuple [(.str "count"), (.str "closed")]), (.tuple [(.str "truth"), (.str "closed")]), (.tuple [(.str "type"), (.str "open")]), (.tuple [(.str "row"), (.str "closed")])]), (.tuple [(.tuple [(.str "z"), (.tuple []), (.str "count")]), (.tuple [(.str "s"), (.tuple [(.str "count")]), (.str "count")]), (.tuple [(.str "yes"), (.tuple []), (.str "truth")]), (.tuple [(.str "no"), (.tuple []), (.str "truth")]), (.tuple [(.str "int"), (.tuple []), (.str "type")]), (.tuple [(.str "ptr"), (.tuple [(.str "type")]), (.str "type")]), (.tuple [(.str "nil"), (.tuple []), (.str "row")]), (.tuple [(.str "cons"), (.tuple [(.str "type"), (.str "row")]), (.str "row")])])]),
  (.tuple [(.tuple [(.tuple [(.str "bit"), (.str "closed")]), (.tuple [(.str "nat"), (.str "closed")]), (.tuple [(.str "pair"), (.str "closed")])]), (.tuple [(.tuple [(.str "o"), (.tuple []), (.str "bit")]), (.tuple [(.str "i"), (.tuple []), (.str "bit")]), (.tuple [(.str "z"), (.tuple []), (.str "nat")]), (.tuple [(.str "s"), (.tuple [(.str "nat")]), (.str "nat")]), (.tuple [(.str "p"), (.tuple [(.str "bit"), (.str "nat")]), (.str "pair")]), (.tuple [(.str "q"), (.tuple [(.str "pair"), (.str "bit")]), (.str "pair")])])]),
  (.tuple [(.tuple [(.tuple [(.str "type"), (.str "open")]), (.tuple [(.str "opt"), (.str "closed")]), (.tuple [(.str "size"), (.str "open")])]), (.tuple [(.tuple [(.str "int"), (.tuple []), (.str "type")]), (.tuple [(.str "fn"), (.tuple [(.str "type"), (.str "type")]), (.str "type")]), (.tuple [(.str "none"), (.tuple []), (.str "opt")]), (.tuple [(.str "some"), (.tuple [(.str "type")]), (.str "opt")]), (.tuple [(.str "arr"), (.tuple [(.str "type"), (.str "size")]), (.str "type")])])]),
  (.tuple [(.tuple [(.tuple [(.str "t"), (.str "closed")]), (.tuple [(.str "u"), (.str "closed")]), (.tuple [(.str "w"), (.str "closed")])]), (.tuple [(.tuple [(.str "a"), (.tuple []), (.str "t")]), (.tuple [(.str "b"), (.tuple []), (.str "t")]), (.tuple [(.str "c"), (.tuple []), (.str "t")]), (.tuple [(.str "m"), (.tuple [(.str "t"), (.str "t")]), (.str "u")]), (.tuple [(.str "e"), (.tuple []), (.str "u")]), (.tuple [(.str "n"), (.tuple [(.str "u")]), (.str "w")])])]),
  (.tuple [(.tuple [(.tuple [(.str "ev"), (.str "closed")]), (.tuple [(.str "od"), (.str "closed")]), (.tuple [(.str "t"), (.str "closed")]), (.tuple [(.str "x"), (.str "open")])]), (.tuple [(.tuple [(.str "z"), (.tuple []), (.str "ev")]), (.tuple [(.str "se"), (.tuple [(.str "od")]), (.str "ev")]), (.tuple [(.str "so"), (.tuple [(.str "ev")]), (.str "od")]), (.tuple [(.str "a"), (.tuple []), (.str "t")]), (.tuple [(.str "b"), (.tuple []), (.str "t")]), (.tuple [(.str "k"), (.tuple [(.str "t"), (.str "x")]), (.str "x")])])]),
  (.tuple [(.tuple [(.tuple [(.str "n"), (.str "closed")])]), (.tuple [(.tuple [(.str "z"), (.tuple []), (.str "n")]), (.tuple [(.str "s"), (.tuple [(.str "n")]), (.str "n")]), (.tuple [(.str "d"), (.tuple [(.str "n"), (.str "n")]), (.str "n")])])])]

def kshape (d : PyData) : Bool := match d with | .tuple [.str _, .str _] => shB 1 d | _ => false
def mshape (d : PyData) : Bool := match d with | .tuple [.str _, .tuple _, .str _] => shB 2 d | _ => false
structure SigF (kd md : List PyData) : Prop where
  k1 : 1 ≤ kd.length
  k4 : kd.length ≤ 4
  m1 : 1 ≤ md.length
  m8 : md.length ≤ 8
  kk : ∀ d ∈ kd, kshape d = true
  mm : ∀ d ∈ md, mshape d = true
def okSig (d : PyData) : Bool := match d with | .tuple [.tuple kd, .tuple md] => decide (1 ≤ kd.length) && decide (kd.length ≤ 4) && decide (1 ≤ md.length) && decide (md.length ≤ 8) && kd.all kshape && md.all mshape | _ => false
theorem okSig_all : ∀ d ∈ sigL, okSig d = true := by
  have h : sigL.all okSig = true := by decide +kernel
  exact List.all_eq_true.mp h
theorem okSig_f {kd md : List PyData} (h : okSig (.tuple [.tuple kd, .tuple md]) = true) : SigF kd md := by
  have h : (decide (1 ≤ kd.length) && decide (kd.length ≤ 4) && decide (1 ≤ md.length) && decide (md.length ≤ 8) && kd.all kshape && md.all mshape) = true := h
  simp only [Bool.and_eq_true, decide_eq_true_iff, List.all_eq_true] at h
  obtain ⟨⟨⟨⟨⟨a, b⟩, c⟩, d⟩, e⟩, f⟩ := h
  exact ⟨a, b, c, d, e, f⟩
theorem okSig_tup {d : PyData} (h : okSig d = true) : ∃ kd md, d = .tuple [.tuple kd, .tuple md] := by
  unfold okSig at h
  split at h
  · exact ⟨_, _, rfl⟩
  · cases h
theorem SigF.perm {kd md kd' md' : List PyData} (h : SigF kd md) (p : kd'.Perm kd) (q : md'.Perm md) : SigF kd' md' :=
  ⟨by rw [p.length_eq]; exact h.k1, by rw [p.length_eq]; exact h.k4, by rw [q.length_eq]; exact h.m1, by rw [q.length_eq]; exact h.m8, fun d hd => h.kk d (p.mem_iff.mp hd), fun d hd => h.mm d (q.mem_iff.mp hd)⟩
theorem kshape_sh {d : PyData} (h : kshape d = true) : shB 1 d = true := by
  unfold kshape at h
  split at h
  · exact h
  · cases h
theorem mshape_sh {d : PyData} (h : mshape d = true) : shB 2 d = true := by
  unfold mshape at h
  split at h
  · exact h
  · cases h
theorem SigF.sh {kd md : List PyData} (h : SigF kd md) : shB 20 (.tuple [.tuple kd, .tuple md]) = true := by
  refine shB_mono (n := 4) (by decide) (shB_of (show 2 ≤ 1000 by decide) fun d hd => ?_)
  rcases List.mem_cons.mp hd with z | z
  · subst z
    exact shB_mono (n := 2) (by decide) (shB_of (by have := h.k4; omega) fun d hd => kshape_sh (h.kk d hd))
  · rw [List.mem_singleton] at z
    subst z
    exact shB_of (by have := h.m8; omega) fun d hd => mshape_sh (h.mm d hd)
/-- _law_some_sig(well): one of them -/
def spSomeSig : Sp := fun vs H Q _ => ∃ p : Addr, vs = [.ref p] ∧ Well H p ∧ ∀ (v : V) (d : PyData) (H' : Hp), Well H' p → But p H H' → Dd (L2.del H' p) v d → d ∈ sigL → Q v H'

section
variable {P : Program} {w : World} {K : PySem.W.Frag} {mg : Str → Option Value} {base : Heap}

theorem sc_some_sig : FnScope ["well", "way"] ["well"] (defScope s_some_sig) := ⟨rfl, rfl, rfl, by decide +kernel, rfl, by decide +kernel, by decide +kernel⟩
theorem ok_some_sig (D : Df K mg "_law_some_sig" s_some_sig) (G1 : Gd P w K mg base CX0 1 "_law_draw" ["well", "few"] spDraw) : Gd P w K mg base CX0 2 "_law_some_sig" ["well"] spSomeSig := by
  refine gd_of D (fun _ _ _ _ _ _ us hl => match us, hl with | [_], _ => rfl) fun f fd F => ?_
  refine fun_q F sc_some_sig (fun vs H Q E h => by obtain ⟨p, rfl, _⟩ := h; rfl) (fun cdv A outer s H vs Q E hr hq h => ?_)
  obtain ⟨p, rfl, W, k⟩ := h
  refine ⟨_, (pss_cons (ps_set (i := 1) sc_some_sig.nd rfl (Or.inl rfl) (pe_g G1 hr hq (pa_cons (pv 0) (pa_cons pe_int pa_nil))))
      (pss_cons (ps_if (pt_cmpR op_eq (pv 1) pe_int (nomark _)) (pss_one (ps_ret (dw_c (p := p) (P := fun d => d ∈ sigL) (fun H0 => (da_tup (da_cons (by walk_at "st") (da_tup (da_cons (by walk_at "st") (da_tup (da_cons (by walk_at "st") da_str (da_cons (by walk_at "st") da_str da_nil))) (da_cons (by walk_at "st") (da_tup (da_cons (by walk_at "st") da_str (da_cons (by walk_at "st") da_str da_nil))) (da_cons (by walk_at "st") (da_tup (da_cons (by walk_at "st") da_str (da_cons (by walk_at "st") da_str da_nil))) (da_cons (by walk_at "st") (da_tup (da_cons (by walk_at "st") da_str (da_cons (by walk_at "st") da_str da_nil))) da_nil))))) (da_cons (by walk_at "st") (da_tup (da_cons (by walk_at "st") (da_tup (da_cons (by walk_at "st") da_str (da_cons (by walk_at "st") (da_tup da_nil) (da_cons (by walk_at "st") da_str da_nil)))) (da_cons (by walk_at "st") (da_tup (da_cons (by walk_at "st") da_str (da_cons (by walk_at "st") (da_tup (da_cons (by walk_at "st") da_str da_nil)) (da_cons (by walk_at "st") da_str da_nil)))) (da_cons (by walk_at "st") (da_tup (da_cons (by walk_at "st") da_str (da_cons (by walk_at "st") (da_tup da_nil) (da_cons (by walk_at "st") da_str da_nil)))) (da_cons (by walk_at "st") (da_tup (da_cons (by walk_at "st") da_str (da_cons (by walk_at "st") (da_tup da_nil) (da_cons (by walk_at "st") da_str da_nil)))) (da_cons (by walk_at "st") (da_tup (da_cons (by walk_at "st") da_str (da_cons (by walk_at "st") (da_tup da_nil) (da_cons (by walk_at "st") da_str da_nil)))) (da_cons (by walk_at "st") (da_tup (da_cons (by walk_at "st") da_str (da_cons (by walk_at "st") (da_tup (da_cons (by walk_at "st") da_str da_nil)) (da_cons (by walk_at "st") da_str da_nil)))) (da_cons (by walk_at "st") (da_tup (da_cons (by walk_at "st") da_str (da_cons (by walk_at "st") (da_tup da_nil) (da_cons (by walk_at "st") da_str da_nil)))) (da_cons (by walk_at "st") (da_tup (da_cons (by walk_at "st") da_str (da_cons (by walk_at "st") (da_tup (da_cons (by walk_at "st") da_str (da_cons (by walk_at "st") da_str da_nil))) (da_cons (by walk_at "st") da_str da_nil)))) da_nil))))))))) da_nil)))) (fun _ _ => by walk_at "pre") (.head _)))) pss_nil)
      (pss_cons (ps_if (pt_cmpR op_eq (pv 1) pe_int (nomark _)) (pss_one (ps_ret (dw_c (p := p) (P := fun d => d ∈ sigL) (fun H0 => (da_tup (da_cons (by walk_at "st") (da_tup (da_cons (by walk_at "st") (da_tup (da_cons (by walk_at "st") da_str (da_cons (by walk_at "st") da_str da_nil))) (da_cons (by walk_at "st") (da_tup (da_cons (by walk_at "st") da_str (da_cons (by walk_at "st") da_str da_nil))) (da_cons (by walk_at "st") (da_tup (da_cons (by walk_at "st") da_str (da_cons (by walk_at "st") da_str da_nil))) da_nil)))) (da_cons (by walk_at "st") (da_tup (da_cons (by walk_at "st") (da_tup (da_cons (by walk_at "st") da_str (da_cons (by walk_at "st") (da_tup da_nil) (da_cons (by walk_at "st") da_str da_nil)))) (da_cons (by walk_at "st") (da_tup (da_cons (by walk_at "st") da_str (da_cons (by walk_at "st") (da_tup da_nil) (da_cons (by walk_at "st") da_str da_nil)))) (da_cons (by walk_at "st") (da_tup (da_cons (by walk_at "st") da_str (da_cons (by walk_at "st") (da_tup da_nil) (da_cons (by walk_at "st") da_str da_nil)))) (da_cons (by walk_at "st") (da_tup (da_cons (by walk_at "st") da_str (da_cons (by walk_at "st") (da_tup (da_cons (by walk_at "st") da_str da_nil)) (da_cons (by walk_at "st") da_str da_nil)))) (da_cons (by walk_at "st") (da_tup (da_cons (by walk_at "st") da_str (da_cons (by walk_at "st") (da_tup (da_cons (by walk_at "st") da_str (da_cons (by walk_at "st") da_str da_nil))) (da_cons (by walk_at "st") da_str da_nil)))) (da_cons (by walk_at "st") (da_tup (da_cons (by walk_at "st") da_str (da_cons (by walk_at "st") (da_tup (da_cons (by walk_at "st") da_str (da_cons (by walk_at "st") da_str da_nil))) (da_cons (by walk_at "st") da_str da_nil)))) da_nil))))))) da_nil)))) (fun _ _ => by walk_at "pre") (.tail _ (.head _))))) pss_nil)
      (pss_cons (ps_if (pt_cmpR op_eq (pv 1) pe_int (nomark _)) (pss_one (ps_ret (dw_c (p := p) (P := fun d => d ∈ sigL) (fun H0 => (da_tup (da_cons (by walk_at "st") (da_tup (da_cons (by walk_at "st") (da_tup (da_cons (by walk_at "st") da_str (da_cons (by walk_at "st") da_str da_nil))) (da_cons (by walk_at "st") (da_tup (da_cons (by walk_at "st") da_str (da_cons (by walk_at "st") da_str da_nil))) (da_cons (by walk_at "st") (da_tup (da_cons (by walk_at "st") da_str (da_cons (by walk_at "st") da_str da_nil))) da_nil)))) (da_cons (by walk_at "st") (da_tup (da_cons (by walk_at "st") (da_tup (da_cons (by walk_at "st") da_str (da_cons (by walk_at "st") (da_tup da_nil) (da_cons (by walk_at "st") da_str da_nil)))) (da_cons (by walk_at "st") (da_tup (da_cons (by walk_at "st") da_str (da_cons (by walk_at "st") (da_tup (da_cons (by walk_at "st") da_str (da_cons (by walk_at "st") da_str da_nil))) (da_cons (by walk_at "st") da_str da_nil)))) (da_cons (by walk_at "st") (da_tup (da_cons (by walk_at "st") da_str (da_cons (by walk_at "st") (da_tup da_nil) (da_cons (by walk_at "st") da_str da_nil)))) (da_cons (by walk_at "st") (da_tup (da_cons (by walk_at "st") da_str (da_cons (by walk_at "st") (da_tup (da_cons (by walk_at "st") da_str da_nil)) (da_cons (by walk_at "st") da_str da_nil)))) (da_cons (by walk_at "st") (da_tup (da_cons (by walk_at "st") da_str (da_cons (by walk_at "st") (da_tup (da_cons (by walk_at "st") da_str (da_cons (by walk_at "st") da_str da_nil))) (da_cons (by walk_at "st") da_str da_nil)))) da_nil)))))) da_nil)))) (fun _ _ => by walk_at "pre") (.tail _ (.tail _ (.head _)))))) pss_nil)
      (pss_cons (ps_if (pt_cmpR op_eq (pv 1) pe_int (nomark _)) (pss_one (ps_ret (dw_c (p := p) (P := fun d => d ∈ sigL) (fun H0 => (da_tup (da_cons (by walk_at "st") (da_tup (da_cons (by walk_at "st") (da_tup (da_cons (by walk_at "st") da_str (da_cons (by walk_at "st") da_str da_nil))) (da_cons (by walk_at "st") (da_tup (da_cons (by walk_at "st") da_str (da_cons (by walk_at "st") da_str da_nil))) (da_cons (by walk_at "st") (da_tup (da_cons (by walk_at "st") da_str (da_cons (by walk_at "st") da_str da_nil))) da_nil)))) (da_cons (by walk_at "st") (da_tup (da_cons (by walk_at "st") (da_tup (da_cons (by walk_at "st") da_str (da_cons (by walk_at "st") (da_tup da_nil) (da_cons (by walk_at "st") da_str da_nil)))) (da_cons (by walk_at "st") (da_tup (da_cons (by walk_at "st") da_str (da_cons (by walk_at "st") (da_tup da_nil) (da_cons (by walk_at "st") da_str da_nil)))) (da_cons (by walk_at "st") (da_tup (da_cons (by walk_at "st") da_str (da_cons (by walk_at "st") (da_tup da_nil) (da_cons (by walk_at "st") da_str da_nil)))) (da_cons (by walk_at "st") (da_tup (da_cons (by walk_at "st") da_str (da_cons (by walk_at "st") (da_tup (da_cons (by walk_at "st") da_str (da_cons (by walk_at "st") da_str da_nil))) (da_cons (by walk_at "st") da_str da_nil)))) (da_cons (by walk_at "st") (da_tup (da_cons (by walk_at "st") da_str (da_cons (by walk_at "st") (da_tup da_nil) (da_cons (by walk_at "st") da_str da_nil)))) (da_cons (by walk_at "st") (da_tup (da_cons (by walk_at "st") da_str (da_cons (by walk_at "st") (da_tup (da_cons (by walk_at "st") da_str da_nil)) (da_cons (by walk_at "st") da_str da_nil)))) da_nil))))))) da_nil)))) (fun _ _ => by walk_at "pre") (.tail _ (.tail _ (.tail _ (.head _))))))) pss_nil)
      (pss_cons (ps_if (pt_cmpR op_eq (pv 1) pe_int (nomark _)) (pss_one (ps_ret (dw_c (p := p) (P := fun d => d ∈ sigL) (fun H0 => (da_tup (da_cons (by walk_at "st") (da_tup (da_cons (by walk_at "st") (da_tup (da_cons (by walk_at "st") da_str (da_cons (by walk_at "st") da_str da_nil))) (da_cons (by walk_at "st") (da_tup (da_cons (by walk_at "st") da_str (da_cons (by walk_at "st") da_str da_nil))) (da_cons (by walk_at "st") (da_tup (da_cons (by walk_at "st") da_str (da_cons (by walk_at "st") da_str da_nil))) (da_cons (by walk_at "st") (da_tup (da_cons (by walk_at "st") da_str (da_cons (by walk_at "st") da_str da_nil))) da_nil))))) (da_cons (by walk_at "st") (da_tup (da_cons (by walk_at "st") (da_tup (da_cons (by walk_at "st") da_str (da_cons (by walk_at "st") (da_tup da_nil) (da_cons (by walk_at "st") da_str da_nil)))) (da_cons (by walk_at "st") (da_tup (da_cons (by walk_at "st") da_str (da_cons (by walk_at "st") (da_tup (da_cons (by walk_at "st") da_str da_nil)) (da_cons (by walk_at "st") da_str da_nil)))) (da_cons (by walk_at "st") (da_tup (da_cons (by walk_at "st") da_str (da_cons (by walk_at "st") (da_tup (da_cons (by walk_at "st") da_str da_nil)) (da_cons (by walk_at "st") da_str da_nil)))) (da_cons (by walk_at "st") (da_tup (da_cons (by walk_at "st") da_str (da_cons (by walk_at "st") (da_tup da_nil) (da_cons (by walk_at "st") da_str da_nil)))) (da_cons (by walk_at "st") (da_tup (da_cons (by walk_at "st") da_str (da_cons (by walk_at "st") (da_tup da_nil) (da_cons (by walk_at "st") da_str da_nil)))) (da_cons (by walk_at "st") (da_tup (da_cons (by walk_at "st") da_str (da_cons (by walk_at "st") (da_tup (da_cons (by walk_at "st") da_str (da_cons (by walk_at "st") da_str da_nil))) (da_cons (by walk_at "st") da_str da_nil)))) da_nil))))))) da_nil)))) (fun _ _ => by walk_at "pre") (.tail _ (.tail _ (.tail _ (.tail _ (.head _)))))))) pss_nil)
      (pss_one (ps_ret (dw_c (p := p) (P := fun d => d ∈ sigL) (fun H0 => (da_tup (da_cons (by walk_at "st") (da_tup (da_cons (by walk_at "st") (da_tup (da_cons (by walk_at "st") da_str (da_cons (by walk_at "st") da_str da_nil))) da_nil)) (da_cons (by walk_at "st") (da_tup (da_cons (by walk_at "st") (da_tup (da_cons (by walk_at "st") da_str (da_cons (by walk_at "st") (da_tup da_nil) (da_cons (by walk_at "st") da_str da_nil)))) (da_cons (by walk_at "st") (da_tup (da_cons (by walk_at "st") da_str (da_cons (by walk_at "st") (da_tup (da_cons (by walk_at "st") da_str da_nil)) (da_cons (by walk_at "st") da_str da_nil)))) (da_cons (by walk_at "st") (da_tup (da_cons (by walk_at "st") da_str (da_cons (by walk_at "st") (da_tup (da_cons (by walk_at "st") da_str (da_cons (by walk_at "st") da_str da_nil))) (da_cons (by walk_at "st") da_str da_nil)))) da_nil)))) da_nil)))) (fun _ _ => by walk_at "pre") (.tail _ (.tail _ (.tail _ (.tail _ (.tail _ (.head _))))))))))))))), ?_⟩
  refine ⟨_, rfl, p, _, rfl, W, by decide, by decide, fun n H1 n0 n1 W1 b1 => ?_⟩
  refine ⟨_, rfl, rfl, _, rfl, ?_⟩
  refine ite2 (fun _ => ?_) (fun _ => ?_)
  · refine ⟨W1, True.intro, fun v d H' W' bt hd m => k v d H' W' (b1.trans bt) hd m⟩
  refine ⟨_, rfl, rfl, _, rfl, ?_⟩
  refine ite2 (fun _ => ?_) (fun _ => ?_)
  · refine ⟨W1, True.intro, fun v d H' W' bt hd m => k v d H' W' (b1.trans bt) hd m⟩
  refine ⟨_, rfl, rfl, _, rfl, ?_⟩
  refine ite2 (fun _ => ?_) (fun _ => ?_)
  · refine ⟨W1, True.intro, fun v d H' W' bt hd m => k v d H' W' (b1.trans bt) hd m⟩
  refine ⟨_, rfl, rfl, _, rfl, ?_⟩
  refine ite2 (fun _ => ?_) (fun _ => ?_)
  · refine ⟨W1, True.intro, fun v d H' W' bt hd m => k v d H' W' (b1.trans bt) hd m⟩
  refine ⟨_, rfl, rfl, _, rfl, ?_⟩
  refine ite2 (fun _ => ?_) (fun _ => ?_)
  · refine ⟨W1, True.intro, fun v d H' W' bt hd m => k v d H' W' (b1.trans bt) hd m⟩
  refine ⟨W1, True.intro, fun v d H' W' bt hd m => k v d H' W' (b1.trans bt) hd m⟩

def spTurned : Sp := fun vs H Q _ => ∃ (p : Addr) (v : V) (kd md : List PyData), vs = [.ref p, v] ∧ Well H p ∧ Dd (L2.del H p) v (.tuple [.tuple kd, .tuple md]) ∧ SigF kd md ∧
  ∀ (v' : V) (kd' md' : List PyData) (H' : Hp), Well H' p → But p H H' → Dd (L2.del H' p) v' (.tuple [.tuple kd', .tuple md']) → kd'.Perm kd → md'.Perm md → Q v' H'
theorem sc_turned : FnScope ["well", "sig"] ["well", "sig"] (defScope s_turned) := ⟨rfl, rfl, rfl, by decide +kernel, rfl, by decide +kernel, by decide +kernel⟩
theorem ok_turned (D : Df K mg "_law_turned" s_turned) (B : Bi mg) (G1 : Gd P w K mg base CX0 2 "_law_mixed" ["well", "some"] spMixed) : Gd P w K mg base CX0 3 "_law_turned" ["well", "sig"] spTurned := by
  refine gd_of D (fun _ _ _ _ _ _ us hl => match us, hl with | [_, _], _ => rfl) fun f fd F => ?_
  refine fun_q F sc_turned (fun vs H Q E h => by obtain ⟨p, v, kd, md, rfl, _⟩ := h; rfl) (fun cdv A outer s H vs Q E hr hq h => ?_)
  obtain ⟨p, v, kd, md, rfl, W, hd, sf, k⟩ := h
  refine ⟨_, (pss_one (ps_ret (pe_tup (pa_cons (pe_callTy call_tuple_of (by rfl) B.tuple (by decide +kernel) (pa_cons (pe_g G1 hr hq (pa_cons (pv 0) (pa_cons (pe_ix ix_tup (pv 1) pe_int (fun _ _ => rfl)) pa_nil))) pa_nil)) (pa_cons (pe_callTy call_tuple_of (by rfl) B.tuple (by decide +kernel) (pa_cons (pe_g G1 hr hq (pa_cons (pv 0) (pa_cons (pe_ix ix_tup (pv 1) pe_int (fun _ _ => rfl)) pa_nil))) pa_nil)) pa_nil))))), ?_⟩
  obtain ⟨sa, x, y, rfl, hsa, hk, hm⟩ := dd2 hd
  obtain ⟨ka, kx, rfl, hka, KA⟩ := hk.tupD
  obtain ⟨ma, mx, rfl, hma, MA⟩ := hm.tupD
  obtain ⟨nsa, esa⟩ := del_get hsa
  obtain ⟨nka, eka⟩ := del_get hka
  obtain ⟨nma, ema⟩ := del_get hma
  refine ⟨_, rfl, _, rfl, sa, _, 0, _, rfl, rfl, SqT.of esa, rfl, p, ka, kx, kd, rfl, W, eka, nka, KA, fun d hd => shB_mono (by decide) (kshape_sh (sf.kk d hd)), by have := sf.k4; omega, fun l ys es H1 W1 b1 nl hl el E1 pm1 => ?_⟩
  refine ⟨l, ys, rfl, .inl ⟨SqL.of el, fun t ht => ?_⟩⟩
  have b2 := b1.trans (new_but (p := p) (o := .tup ys) ht)
  have W2 := W1.new (o := .tup ys) ht
  have esa2 := b2 _ _ nsa esa
  refine ⟨_, rfl, _, rfl, sa, _, 1, _, rfl, rfl, SqT.of esa2, rfl, p, ma, mx, md, rfl, W2, b2 _ _ nma ema, nma, MA.but b2, fun d hd => shB_mono (by decide) (mshape_sh (sf.mm d hd)), by have := sf.m8; omega, fun l2 ys2 es2 H3 W3 b3 nl2 hl2 el2 E2 pm2 => ?_⟩
  refine ⟨l2, ys2, rfl, .inl ⟨SqL.of el2, fun t2 ht2 => ?_⟩⟩
  have b4 := (b2.trans b3).trans (new_but (p := p) (o := .tup ys2) ht2)
  have b34 := b3.trans (new_but (p := p) (o := .tup ys2) ht2)
  refine ⟨by show 2 ≤ sizeLine; rw [sizeLine_eq]; decide, fun q hq => ?_⟩
  have b5 := new_but (p := p) (o := .tup [.ref t, .ref t2]) hq
  have W4 := W3.new (o := .tup ys2) ht2
  have d1 : Dd (L2.del (upd H1 t (.tup ys)) p) (.ref t) (.tuple es) := .tup (del_new (W1.ne ht).symm) (E1.mono (new_but ht).del)
  have d2 : Dd (L2.del (upd H3 t2 (.tup ys2)) p) (.ref t2) (.tuple es2) := .tup (del_new (W3.ne ht2).symm) (E2.mono (new_but ht2).del)
  exact k _ es es2 _ (W4.new hq) (b4.trans b5) (.tup (del_new (W4.ne hq).symm) (.cons ((d1.but b34).but b5) (.cons (d2.but b5) .nil))) pm1 pm2

def spLSigM : Sp := fun vs H Q _ => ∃ (p : Addr), vs = [.ref p] ∧ Well H p ∧
  ∀ (v' : V) (kd' md' : List PyData) (H' : Hp), Well H' p → But p H H' → Dd (L2.del H' p) v' (.tuple [.tuple kd', .tuple md']) → SigF kd' md' → (∃ kd md, PyData.tuple [.tuple kd, .tuple md] ∈ sigL ∧ kd'.Perm kd ∧ md'.Perm md) → Q v' H'
theorem sc_lsig : FnScope ["well"] ["well"] (defScope s_sig) := ⟨rfl, rfl, rfl, by decide +kernel, rfl, by decide +kernel, by decide +kernel⟩
theorem ok_lsig (D : Df K mg "_law_sig" s_sig) (G1 : Gd P w K mg base CX0 3 "_law_turned" ["well", "sig"] spTurned) (G2 : Gd P w K mg base CX0 2 "_law_some_sig" ["well"] spSomeSig) : Gd P w K mg base CX0 4 "_law_sig" ["well"] spLSigM := by
  refine gd_of D (fun _ _ _ _ _ _ us hl => match us, hl with | [_], _ => rfl) fun f fd F => ?_
  refine fun_q F sc_lsig (fun vs H Q E h => by obtain ⟨p, rfl, _⟩ := h; rfl) (fun cdv A outer s H vs Q E hr hq h => ?_)
  obtain ⟨p, rfl, W, k⟩ := h
  refine ⟨_, (pss_one (ps_ret (pe_g G1 hr hq (pa_cons (pv 0) (pa_cons (pe_g (G2.mono (by decide)) hr hq (pa_cons (pv 0) pa_nil)) pa_nil))))), ?_⟩
  refine ⟨_, rfl, _, rfl, p, rfl, W, fun v d H1 W1 b1 hd m => ?_⟩
  obtain ⟨kd, md, rfl⟩ := okSig_tup (okSig_all d m)
  have sf := okSig_f (okSig_all _ m)
  exact ⟨p, v, kd, md, rfl, W1, hd, sf, fun v' kd' md' H2 W2 b2 hd2 p1 p2 => k v' kd' md' H2 W2 (b1.trans b2) hd2 (sf.perm p1 p2) ⟨kd, md, m, p1, p2⟩⟩

end

/-- what _law_odd_thing picks from -/
def oddL : List PyData := [.none, (.bool true), (.bool false), (.str "z"), (.str ""), (.str "?"), (.str "#"), (.int (-1)), (.int 0), (.int 1), (.int 7), (.int (1000000000000000000000000000000)), (.tuple []), (.list []), (.dict []), (.tuple [(.str "z")]), (.list [(.str "z")]), (.tuple [(.str "?"), (.str "x")]), (.tuple [(.str "?")]), (.tuple [(.str "#"), (.str "type"), (.int 1)]), (.tuple [(.str "#"), (.str "count"), (.int 1)]), (.tuple [(.tuple [(.str "z")])]), (.tuple [(.tuple [(.str "?"), (.str "x")])]), (.tuple [(.str "s"), (.tuple [(.str "z")])]), (.tuple [(.str "a"), (.str "closed")]), (.tuple [(.str "?"), (.str "x"), (.str "y")])]

section
variable {X : Cx} {H0 : Hp} {pos pos2 pos3 : Pos}
theorem da_neg {i : Int} {j : Nat} : PE X (.UnaryOp .USub (.Constant (.int i) j pos) pos2) (tD H0 pT (.int (-i))) := da_of (pe_un un_neg pe_int) fun σ H Q q => ⟨i, rfl, q _ fun _ => .int _⟩
theorem da_pow {i k : Int} {j j2 : Nat} (h : CPow i k := by exact ⟨by decide, by decide, by decide⟩) : PE X (.BinOp (.Constant (.int i) j pos) .Pow (.Constant (.int k) j2 pos2) pos3) (tD H0 pT (.int (i ^ k.toNat))) := da_of (pe_op op_pow pe_int pe_int) fun σ H Q q => ⟨i, k, rfl, rfl, h, q _ fun _ => .int _⟩
end
/-- _law_odd_thing(well): one of them -/
def spOdd : Sp := fun vs H Q _ => ∃ p : Addr, vs = [.ref p] ∧ Well H p ∧ ∀ (v : V) (d : PyData) (H' : Hp), d ∈ oddL → Well H' p → But p H H' → Dd (news H H') v d → Q v H'
section
variable {P : Program} {w : World} {K : PySem.W.Frag} {mg : Str → Option Value} {base : Heap}
theorem sc_odd : FnScope ["well", "some", "more"] ["well"] (defScope s_odd_thing) := ⟨rfl, rfl, rfl, by decide +kernel, rfl, by decide +kernel, by decide +kernel⟩
theorem ok_odd (D : Df K mg "_law_odd_thing" s_odd_thing) (B : Bi mg) (G : Gd P w K mg base CX0 2 "_law_one" ["well", "some"] (spOne K)) : Gd P w K mg base CX0 3 "_law_odd_thing" ["well"] spOdd := by
  refine gd_of D (fun _ _ _ _ _ _ us hl => match us, hl with | [_], _ => rfl) fun f fd F => ?_
  refine fun_q F sc_odd (fun vs H Q E h => ?_) (fun cdv A outer s H vs Q E hr hq h => ?_)
  · obtain ⟨p, rfl, _⟩ := h
    rfl
  obtain ⟨p, rfl, W, k⟩ := h
  refine ⟨_, pss_cons (ps_set (i := 1) sc_odd.nd rfl (Or.inl rfl) (da_tup (H0 := H) (da_cons (by walk_at "st") da_none (da_cons (by walk_at "st") da_bool (da_cons (by walk_at "st") da_bool (da_cons (by walk_at "st") da_str (da_cons (by walk_at "st") da_str (da_cons (by walk_at "st") da_str (da_cons (by walk_at "st") da_str (da_cons (by walk_at "st") da_neg (da_cons (by walk_at "st") da_int (da_cons (by walk_at "st") da_int (da_cons (by walk_at "st") da_int (da_cons (by walk_at "st") da_pow (da_cons (by walk_at "st") (da_tup da_nil) (da_cons (by walk_at "st") (da_lst da_nil) (da_cons (by walk_at "st") da_dict (da_cons (by walk_at "st") (da_tup (da_cons (by walk_at "st") da_str da_nil)) (da_cons (by walk_at "st") (da_lst (da_cons (by walk_at "st") da_str da_nil)) (da_cons (by walk_at "st") (da_tup (da_cons (by walk_at "st") da_str (da_cons (by walk_at "st") da_str da_nil))) (da_cons (by walk_at "st") (da_tup (da_cons (by walk_at "st") da_str da_nil)) da_nil)))))))))))))))))))))
    (pss_cons (ps_set (i := 2) sc_odd.nd rfl (Or.inl rfl) (da_tup (H0 := H) (da_cons (by walk_at "st") (da_tup (da_cons (by walk_at "st") da_str (da_cons (by walk_at "st") da_str (da_cons (by walk_at "st") da_int da_nil)))) (da_cons (by walk_at "st") (da_tup (da_cons (by walk_at "st") da_str (da_cons (by walk_at "st") da_str (da_cons (by walk_at "st") da_int da_nil)))) (da_cons (by walk_at "st") (da_tup (da_cons (by walk_at "st") (da_tup (da_cons (by walk_at "st") da_str da_nil)) da_nil)) (da_cons (by walk_at "st") (da_tup (da_cons (by walk_at "st") (da_tup (da_cons (by walk_at "st") da_str (da_cons (by walk_at "st") da_str da_nil))) da_nil)) (da_cons (by walk_at "st") (da_tup (da_cons (by walk_at "st") da_str (da_cons (by walk_at "st") (da_tup (da_cons (by walk_at "st") da_str da_nil)) da_nil))) (da_cons (by walk_at "st") (da_tup (da_cons (by walk_at "st") da_str (da_cons (by walk_at "st") da_str da_nil))) (da_cons (by walk_at "st") (da_tup (da_cons (by walk_at "st") da_str (da_cons (by walk_at "st") da_str (da_cons (by walk_at "st") da_str da_nil)))) da_nil)))))))))
    (pss_one (ps_ret (pe_g G hr hq (pa_cons (pv 0) (pa_cons (pe_op op_catT (pv 1) (pv 2)) pa_nil)))))), ?_⟩
  refine ⟨Bs.refl, by walk_at "pre", fun v1 H1 s1 d1 => ?_⟩
  refine ⟨Bs.refl.same s1, by walk_at "pre", fun v2 H2 s2 d2 => ?_⟩
  cases d1 with
  | tup t1 a1 =>
  cases d2 with
  | tup t2 a2 =>
  rename_i x1 y1 x2 y2
  have e1 := s2 _ _ (news_old _ _ t1)
  have e2 := news_old _ _ t2
  walk_at "rd"
  have l1 : y1.length = 19 := a1.length
  have l2 : y2.length = 7 := a2.length
  refine ⟨x1, x2, y1, y2, rfl, rfl, SqT.of e1, SqT.of e2, ?_, ?_, fun z => ?_, fun _ t ht => ?_⟩
  · intro z
    rw [z] at l1
    cases l1
  · rw [l1, l2, sizeLine_eq]
    decide
  · rw [z] at l2
    cases l2
  have W2 : Well H2 p := by
    obtain ⟨a, mm, c, N, e⟩ := W
    exact ⟨a, mm, c, N, s2 _ _ (s1 _ _ e)⟩
  refine ⟨p, t, y1 ++ y2, rfl, W2.new ht, SqT.of upd_same, W2.ne ht, ?_, ?_, fun i v H' hi W' bt => ?_⟩
  · rw [List.length_append, l1, l2]
    decide
  · rw [List.length_append, l1, l2]
    decide
  have np : H p ≠ none := by
    obtain ⟨a, mm, c, N, e⟩ := W
    rw [e]
    exact fun z => nomatch z
  have s3 : Same (news H H2) (news H H') := fun b o q => by
    obtain ⟨q1, q2⟩ := news_some.mp q
    exact news_some.mpr ⟨q1, bt b o (fun z => np (z ▸ q1)) (same_new ht _ b o q2)⟩
  obtain ⟨d, hd, dd⟩ := ((a1.mono (news_same s2)).append a2).get hi
  refine k v d H' ?_ W' (fun b o n q => bt b o n (same_new ht _ b o (s2 _ _ (s1 _ _ q)))) (dd.mono s3)
  exact List.mem_of_getElem? (show oddL[i]? = some d from hd)
end

theorem isTup_of {d : PyData} (h : isTup d = true) : ∃ ds, d = .tuple ds := by
  cases d with
  | tuple ds => exact ⟨ds, rfl⟩
  | _ => exact absurd h (by intro z; cases z)
theorem isStr_of {d : PyData} (h : isStr d = true) : ∃ x, d = .str x := by
  cases d with
  | str x => exact ⟨x, rfl⟩
  | _ => exact absurd h (by intro z; cases z)
theorem odd_ok : ∀ d ∈ oddL, okT d = true := by
  have h : oddL.all okT = true := by decide +kernel
  exact List.all_eq_true.mp h
theorem pszs_app : ∀ a b : List PyData, pszs (a ++ b) = pszs a + pszs b
  | [], b => by rw [List.nil_append, pszs]; omega
  | x :: a, b => by rw [List.cons_append, pszs, pszs, pszs_app a b]; omega
theorem pszs_rev (a : List PyData) : pszs a.reverse = pszs a := by
  induction a with
  | nil => rfl
  | cons x a ih => rw [List.reverse_cons, pszs_app, ih, pszs, pszs, pszs]; omega
theorem pszs_take (a : List PyData) (i : Nat) : pszs (a.take i) ≤ pszs a := psz_take a i
theorem pszs_drop (a : List PyData) (i : Nat) : pszs (a.drop i) ≤ pszs a := by
  have h := pszs_app (a.take i) (a.drop i)
  rw [List.take_append_drop] at h
  omega
theorem shB_depth : ∀ {n : Nat} {d : PyData}, shB n d = true → d.depth ≤ n
  | n, .none, _ => by simp [PyData.depth]
  | n, .bool _, _ => by simp [PyData.depth]
  | n, .int _, _ => by simp [PyData.depth]
  | n, .str _, _ => by simp [PyData.depth]
  | 0, .tuple ds, h => (shB_zero h).elim
  | n + 1, .tuple ds, h => by
    rw [PyData.depth]
    have := depthAll_of (n := n) fun d hd => shB_depth ((shB_tup h).2 d hd)
    omega
  | n, .list _, h => by cases n <;> cases h
  | n, .dict _, h => by cases n <;> cases h
/-- a tuple, a list, any: how many, how much, how deep -/
def isTz (n s h : Nat) (d : PyData) : Prop := ∃ ds, d = .tuple ds ∧ ds.length ≤ n ∧ pszs ds ≤ s ∧ ∀ x ∈ ds, okT x = true ∧ x.depth ≤ h
def isLz (n h : Nat) (d : PyData) : Prop := ∃ ds, d = .list ds ∧ ds.length ≤ n ∧ ∀ x ∈ ds, okT x = true ∧ x.depth ≤ h
def isOz (s h : Nat) (d : PyData) : Prop := okT d = true ∧ psz d ≤ s ∧ d.depth ≤ h
theorem isTz.oz {n s h : Nat} {d : PyData} (t : isTz n s h d) : isOz (1 + s) (h + 1) d := by
  obtain ⟨ds, rfl, l, ls, q⟩ := t
  refine ⟨okTs_of fun x hx => (q x hx).1, by rw [psz]; omega, ?_⟩
  rw [PyData.depth]
  have := depthAll_of fun d hd => (q d hd).2
  omega
theorem isLz.oz {n h : Nat} {d : PyData} (t : isLz n h d) : isOz 1 (h + 1) d := by
  obtain ⟨ds, rfl, l, q⟩ := t
  refine ⟨okTs_of fun x hx => (q x hx).1, by simp [psz], ?_⟩
  rw [PyData.depth]
  have := depthAll_of fun d hd => (q d hd).2
  omega
theorem shB_isTz {ds : List PyData} {Z : Nat} (h : shB 20 (.tuple ds) = true) (lz : psz (.tuple ds) ≤ Z) : isTz 1000 Z 20 (.tuple ds) :=
  ⟨ds, rfl, (shB_tup h).1, by rw [psz] at lz; omega, fun d hd => ⟨shB_ok ((shB_tup h).2 d hd), Nat.le_trans (shB_depth ((shB_tup h).2 d hd)) (by decide)⟩⟩
theorem oz_int {S D : Nat} (i : Int) (h : 1 ≤ S := by omega) : isOz S D (.int i) := ⟨rfl, by simp only [psz]; omega, by simp [PyData.depth]⟩
theorem oz_bool {S D : Nat} (i : Bool) (h : 1 ≤ S := by omega) : isOz S D (.bool i) := ⟨rfl, by simp only [psz]; omega, by simp [PyData.depth]⟩
theorem oz_str {S D : Nat} {x : Str} (o : okT (.str x) = true) (h : 1 ≤ S := by omega) : isOz S D (.str x) := ⟨o, by simp only [psz]; omega, by simp [PyData.depth]⟩
theorem odd_szs : oddL.all (fun d => decide (psz d ≤ 10) && decide (d.depth ≤ 3)) = true := by decide +kernel
theorem odd_oz {S D : Nat} (hs : 10 ≤ S := by omega) (hd : 3 ≤ D := by omega) : ∀ d ∈ oddL, isOz S D d := fun d m => by
  have := List.all_eq_true.mp odd_szs d m
  rw [Bool.and_eq_true, decide_eq_true_iff, decide_eq_true_iff] at this
  exact ⟨odd_ok d m, by omega, by omega⟩
theorem slA_any {K : PySem.W.Frag} {a : Addr} {xs : List V} {lo hi : Option Int} {H : Hp} {Q : VK} (ha : H a = some (.tup xs)) (h : ∀ (c : Addr) (H' : Hp), Same H H' → H' c = some (.tup (cutV xs lo hi)) → Q (.ref c) H') : rSlA K (.ref a) lo hi H Q :=
  ⟨a, xs, rfl, SqT.of ha, fun w => h a H (Same.refl H) (by
    rw [show cutV xs lo hi = xs from by unfold cutV; rw [w.1, w.2]; simp]
    exact ha), fun _ p hp => h p _ (same_new hp _) upd_same⟩
theorem cut_z {H : Hp} {xs : List V} {ds : List PyData} (A : DdA H xs ds) (lo hi : Option Int) : ∃ es, DdA H (cutV xs lo hi) es ∧ es.length ≤ ds.length ∧ pszs es ≤ pszs ds ∧ ∀ x ∈ es, x ∈ ds := by
  refine ⟨_, (A.drop (HT.sIx xs.length 0 lo)).take (HT.sIx xs.length xs.length hi - HT.sIx xs.length 0 lo), ?_, Nat.le_trans (pszs_take _ _) (pszs_drop _ _), fun x hx => List.mem_of_mem_drop (List.mem_of_mem_take hx)⟩
  rw [List.length_take, List.length_drop]
  omega
def tWr (p : Addr) (pre : L2.St → Hp → Prop) (n : Nat) (R : PyData → Prop) : TA := fun σ H Q => Well H p ∧ pre σ H ∧ ∀ vs ds H', Well H' p → But p H H' → DdA (L2.del H' p) vs ds → ds.length = n → (∀ d ∈ ds, R d) → Q vs H'
section
variable {X : Cx} {e e2 : Expr} {es : List Expr} {p : Addr} {p1 p2 p3 : L2.St → Hp → Prop} {R : PyData → Prop} {pos pos2 : Pos} {n m s t h S D : Nat}
theorem dz_ok0 (a : PE X e (tW p p1 (isTz n s h))) : PE X e (tW p p1 (isOz (1 + s) (h + 1))) := dw_imp a fun _ q => q.oz
theorem dz_ok1 (a : PE X e (tW p p1 (isTz n s h))) (hs : 1 + s ≤ S := by omega) (hh : h + 1 ≤ D := by omega) : PE X e (tW p p1 (isOz S D)) := dw_imp a fun _ q => ⟨q.oz.1, Nat.le_trans q.oz.2.1 hs, Nat.le_trans q.oz.2.2 hh⟩
theorem dz_ok2 (a : PE X e (tW p p1 (isTz 1 (1 * 1) 0))) : PE X e (tW p p1 (isOz 2 1)) := dz_ok1 a
theorem dz_okL (a : PE X e (tW p p1 (isLz n h))) (hs : 1 ≤ S := by omega) (hh : h + 1 ≤ D := by omega) : PE X e (tW p p1 (isOz S D)) := dw_imp a fun _ q => ⟨q.oz.1, Nat.le_trans q.oz.2.1 hs, Nat.le_trans q.oz.2.2 hh⟩
theorem dz_up (a : PE X e (tW p p1 (isTz 1 (1 * 2) 1))) : PE X e (tW p p1 (isTz 1 (1 * 2) 20)) := dw_imp a fun _ ⟨ds, e, l, ls, q⟩ => ⟨ds, e, l, ls, fun x hx => ⟨(q x hx).1, Nat.le_trans (q x hx).2 (by decide)⟩⟩
theorem dz_str0 {x : Str} {j : Nat} (h : okT (.str x) = true := by decide +kernel) : PE X (.Constant (.str x) j pos) (tW p pT (isOz 1 0)) := dw_of pe_str fun σ H Q w _ k => k _ (.str x) H w But.refl (.str x) (oz_str h)
theorem dz_str {x : Str} {j : Nat} (h : okT (.str x) = true := by decide +kernel) (hs : 1 ≤ S := by omega) : PE X (.Constant (.str x) j pos) (tW p pT (isOz S D)) := dw_of pe_str fun σ H Q w _ k => k _ (.str x) H w But.refl (.str x) (oz_str h hs)
theorem dz_int {x : Int} {j : Nat} (hs : 1 ≤ S := by omega) : PE X (.Constant (.int x) j pos) (tW p pT (isOz S D)) := dw_of pe_int fun σ H Q w _ k => k _ (.int x) H w But.refl (.int x) (oz_int x hs)
theorem dr_nil : PA X [] (tWr p pT 0 R) := ⟨fun pos pins s σ H Q I ⟨w, _, k⟩ => pa_nil.run pos pins s σ H Q I (k [] [] H w But.refl .nil rfl fun _ z => (nomatch z))⟩
theorem dr_cons (st : Stb p p2) (h : PE X e (tW p p1 R)) (hs : PA X es (tWr p p2 n R)) (he : starEach (e :: es) X.env = (false, eval e X.env) :: starEach es X.env := by rfl) : PA X (e :: es) (tWr p (pAnd p1 p2) (n + 1) R) :=
  ⟨fun pos pins s σ H Q I ⟨w, ⟨q1, q2⟩, k⟩ => (pa_cons h hs he).run pos pins s σ H Q I
    (show tW p p1 R σ H _ from ⟨w, q1, fun v d H1 w1 b1 h1 o1 => show tWr p p2 n R σ H1 _ from ⟨w1, st σ H H1 b1 q2, fun vs ds H2 w2 b2 h2 l2 o2 => k _ _ H2 w2 (b1.trans b2) (.cons (h1.but b2) h2) (congrArg Nat.succ l2) fun x hx => (List.mem_cons.mp hx).elim (fun z => z ▸ o1) (o2 x)⟩⟩)⟩
theorem dr_tup {k} (h0 : PA X es (tWr p p1 n (isOz s h))) (hl : n ≤ sizeLine := by first | decide | (rw [sizeLine_eq]; decide)) : PE X (.Tuple es k pos) (tW p p1 (isTz n (n * s) h)) :=
  pe_imp (pe_tup h0) fun σ H Q ⟨w, q, k⟩ => show tWr p p1 n _ σ H _ from ⟨w, q, fun vs ds H1 w1 b1 h1 l1 o1 => ⟨by rw [h1.length, l1]; exact hl, fun q hq => k _ _ _ (w1.new hq) (b1.trans (new_but hq))
    (.tup (del_new (w1.ne hq).symm) (h1.mono (new_but hq).del)) ⟨ds, rfl, by omega, (by have := pszs_le ds fun d hd => (o1 d hd).2.1; rw [l1] at this; exact this), fun x hx => ⟨(o1 x hx).1, (o1 x hx).2.2⟩⟩⟩⟩
theorem dr_pick {i : Nat} {kk} (h : PA X es (tWr p p1 n R)) (hi : PE X e2 (tVar i)) (hp : PlainIx e2) (hl : n ≤ sizeLine := by first | decide | (rw [sizeLine_eq]; decide)) : PE X (.Subscript (.Tuple es kk pos) e2 pos2) (tW p (pAnd p1 (wK i n)) R) := by
  refine pe_imp (pe_ix ix_tup (pe_tup h) hi hp) fun σ H Q ⟨w, ⟨q1, q2⟩, k⟩ => ?_
  refine ⟨w, q1, fun vs ds H1 w1 b1 h1 l1 o1 => ⟨by rw [h1.length, l1]; exact hl, fun q hq => ?_⟩⟩
  obtain ⟨j, ej, j0, jn⟩ := q2
  have lv : vs.length = n := by rw [h1.length, l1]
  have hj : j.toNat < vs.length := by omega
  obtain ⟨d, ed, hd⟩ := h1.get (List.getElem?_eq_getElem hj)
  have e : j = ((j.toNat : Nat) : Int) := by omega
  have ea : atI vs ((j.toNat : Nat) : Int) = some vs[j.toNat] := atI_nat (List.getElem?_eq_getElem hj)
  rw [← e] at ea
  exact ⟨_, ej, q, vs, j, _, rfl, rfl, SqT.of upd_same, ea, k _ d _ (w1.new hq) (b1.trans (new_but hq)) (hd.but (new_but hq)) (o1 d (List.mem_of_getElem? ed))⟩
theorem dz_cat (st : Stb p p2) (h1 : PE X e (tW p p1 (isTz n s h))) (h2 : PE X e2 (tW p p2 (isTz m t h))) (hl : n + m ≤ 100000 := by decide) : PE X (.BinOp e .Add e2 pos) (tW p (pAnd p1 p2) (isTz (n + m) (s + t) h)) := by
  refine pe_imp (pe_op op_catA h1 h2) fun σ H Q ⟨w, ⟨q1, q2⟩, k⟩ => ?_
  refine ⟨w, q1, fun v d H1 w1 b1 hd pd => ⟨w1, st σ H H1 b1 q2, fun v2 d2 H2 w2 b2 hd2 pd2 => ?_⟩⟩
  obtain ⟨ds, rfl, l1, z1, o1⟩ := pd
  obtain ⟨es, rfl, l2, z2, o2⟩ := pd2
  obtain ⟨a, xs, rfl, ha, A⟩ := (hd.but b2).tupD
  obtain ⟨b, ys, rfl, hb, B⟩ := hd2.tupD
  have la := A.length
  have lb := B.length
  refine ⟨a, b, xs, ys, rfl, rfl, SqT.of (del_old _ _ ha), SqT.of (del_old _ _ hb), by rw [sizeLine_eq]; omega, fun z => ?_, fun _ z => ?_, fun _ _ q hq => ?_⟩
  · exact k _ _ _ w2 (b1.trans b2) hd2 ⟨es, rfl, by omega, by omega, o2⟩
  · exact k _ _ _ w2 (b1.trans b2) (hd.but b2) ⟨ds, rfl, by omega, by omega, o1⟩
  · exact k _ _ _ (w2.new hq) ((b1.trans b2).trans (new_but hq)) (.tup (del_new (w2.ne hq).symm) ((A.append B).mono (new_but hq).del)) ⟨_, rfl, by rw [List.length_append]; omega, by rw [pszs_app]; omega, fun x hx => (List.mem_append.mp hx).elim (o1 x) (o2 x)⟩
theorem dz_cut {lo hi : Option Expr} {tl th : TO} (h1 : PE X e (tW p p1 (isTz n s h))) (hl : PO X lo tl) (hh : PO X hi th) (jl : ∀ σ H (Q : Option Int → Hp → Prop), p2 σ H → (∀ o, Q o H) → tl σ H Q) (jh : ∀ σ H (Q : Option Int → Hp → Prop), p2 σ H → (∀ o, Q o H) → th σ H Q) (st : Stb p p2) :
    PE X (.Subscript e (.Slice lo hi none pos2) pos) (tW p (pAnd p1 p2) (isTz n s h)) := by
  refine pe_imp (pe_slice sl_tupA h1 hl hh) fun σ H Q ⟨w, ⟨q1, q2⟩, k⟩ => ?_
  refine ⟨w, q1, fun v d H1 w1 b1 hd pd => ?_⟩
  have q3 := st σ H H1 b1 q2
  refine jl σ H1 _ q3 fun l => jh σ H1 _ q3 fun u => ?_
  obtain ⟨ds, rfl, l1, z1, o1⟩ := pd
  obtain ⟨a, xs, rfl, ha, A⟩ := hd.tupD
  refine ⟨a, xs, rfl, SqT.of (del_old _ _ ha), fun _ => k _ _ _ w1 b1 hd ⟨ds, rfl, l1, z1, o1⟩, fun _ q hq => ?_⟩
  obtain ⟨es, E, le, lz, me⟩ := cut_z A l u
  exact k _ _ _ (w1.new hq) (b1.trans (new_but hq)) (.tup (del_new (w1.ne hq).symm) (E.mono (new_but hq).del)) ⟨es, rfl, by omega, by omega, fun x hx => o1 x (me x hx)⟩
theorem dz_rev {k : Nat} {q1 q2 q3 : Pos} (h1 : PE X e (tW p p1 (isTz n s h))) : PE X (.Subscript e (.Slice none none (some (.UnaryOp .USub (.Constant (.int 1) k q1) q2)) q3) pos) (tW p p1 (isTz n s h)) := by
  refine pe_imp (pe_revT h1) fun σ H Q ⟨w, q1, k⟩ => ?_
  refine ⟨w, q1, fun v d H1 w1 b1 hd pd => ?_⟩
  obtain ⟨ds, rfl, l1, z1, o1⟩ := pd
  obtain ⟨a, xs, rfl, ha, A⟩ := hd.tupD
  refine ⟨a, xs, rfl, SqT.of (del_old _ _ ha), fun q hq => ?_⟩
  exact k _ _ _ (w1.new hq) (b1.trans (new_but hq)) (.tup (del_new (w1.ne hq).symm) (A.rev.mono (new_but hq).del)) ⟨_, rfl, by rw [List.length_reverse]; exact l1, by rw [pszs_rev]; exact z1, fun x hx => o1 x (List.mem_reverse.mp hx)⟩
theorem dz_list {lp : Pos} (hm : X.mg "list" = none) (h1 : PE X e (tW p p1 (isTz n s h))) (hg : Gl X "list" := by rfl) (he : starEach [e] X.env = (false, eval e X.env) :: starEach [] X.env := by rfl)
    (hpl : (backTo pos (starEach [] X.env)).any (·.1) = false := by rfl) : PE X (.Call (.Name "list" lp) [e] [] pos) (tW p p1 (isLz n h)) := by
  refine pe_imp (pe_callTy call_list_N hg hm (by decide +kernel) (pa_cons h1 pa_nil he) (by decide) (by decide) he hpl) fun σ H Q ⟨w, q1, k⟩ => ?_
  refine ⟨w, q1, fun v d H1 w1 b1 hd pd => ?_⟩
  obtain ⟨ds, rfl, l1, z1, o1⟩ := pd
  obtain ⟨a, xs, rfl, ha, A⟩ := hd.tupD
  refine ⟨a, xs, rfl, .inr (SqT.of (del_old _ _ ha)), fun q hq hs => ?_⟩
  exact k _ _ _ (w1.new hq) (b1.trans (new_but hq)) (.lst (del_new (w1.ne hq).symm) hs (A.mono (new_but hq).del)) ⟨_, rfl, l1, o1⟩
end
local macro_rules | `(tactic| walk_at "stb") => `(tactic| repeat (first | exact stb_T | exact stb_V | exact stb_I | exact stb_P | exact stb_Z | exact stb_S | exact stb_K | refine stb_and ?_ ?_))
theorem small_log {n : Int} (h0 : 0 ≤ n) (h1 : n < 9) : n.natAbs.log2 < 1920 := by
  have : n = 0 ∨ n = 1 ∨ n = 2 ∨ n = 3 ∨ n = 4 ∨ n = 5 ∨ n = 6 ∨ n = 7 ∨ n = 8 := by omega
  rcases this with rfl | rfl | rfl | rfl | rfl | rfl | rfl | rfl | rfl <;> decide +kernel
theorem small_str {n : Int} (h0 : 0 ≤ n) (h1 : n < 9) : okT (.str (toString n)) = true := by
  have : n = 0 ∨ n = 1 ∨ n = 2 ∨ n = 3 ∨ n = 4 ∨ n = 5 ∨ n = 6 ∨ n = 7 ∨ n = 8 := by omega
  rcases this with rfl | rfl | rfl | rfl | rfl | rfl | rfl | rfl | rfl <;> decide +kernel
theorem lenS {x y : Str} (l : x.length ≤ 100) (m : y.length ≤ 100) : x.length + y.length ≤ sizeLine := by rw [sizeLine_eq]; omega
theorem lenS2 {x y : Str} (l : x.length ≤ 100) (m : y.length ≤ 100) : y.length + x.length ≤ sizeLine := by rw [sizeLine_eq]; omega
theorem lenA {x y : Str} (l : x.length ≤ 100) (m : y.length ≤ 100) : okT (.str (x ++ y)) = true := decide_eq_true (by rw [Str.length_append]; omega)
theorem lenA2 {x y : Str} (l : x.length ≤ 100) (m : y.length ≤ 100) : okT (.str (y ++ x)) = true := decide_eq_true (by rw [Str.length_append]; omega)
/-- a step down: the whole, and which part was gone into -/
def PItem (Z : Nat) (G0 G : Hp) (q : V) : Prop := ∃ (t wt : Addr) (k : Int) (ds : List PyData), q = .ref t ∧ G t = some (.tup [.ref wt, .int k]) ∧ 0 ≤ k ∧ k < ds.length ∧ ds.length ≤ 1000 ∧ pszs ds ≤ Z ∧ (∀ d ∈ ds, okT d = true ∧ d.depth ≤ 20) ∧ Dd G0 (.ref wt) (.tuple ds)
theorem PItem.mono {Z : Nat} {G0 G G' : Hp} {q : V} (s : ∀ b xs, G b = some (.tup xs) → G' b = some (.tup xs)) (h : PItem Z G0 G q) : PItem Z G0 G' q :=
  let ⟨t, wt, k, ds, a, b, c⟩ := h
  ⟨t, wt, k, ds, a, s _ _ b, c⟩
theorem eqv_nil {ds : List PyData} : PyData.eqv (.tuple ds) (.tuple []) = ds.isEmpty := by cases ds <;> rfl
/-- _law_bent(well, thing): data, plain data given -/
def spBent (Z : Nat) : Sp := fun vs H Q _ => ∃ (p : Addr) (v : V) (d : PyData), vs = [.ref p, v] ∧ Well H p ∧ Dd (L2.del H p) v d ∧ shB 20 d = true ∧ psz d ≤ Z ∧
  ∀ (v' : V) (d' : PyData) (H' : Hp), Well H' p → But p H H' → Dd (L2.del H' p) v' d' → isOz (2 * Z + 10 + 6 * (2 * Z + 1)) 28 d' → Q v' H'

section
variable {P : Program} {w : World} {K : PySem.W.Frag} {mg : Str → Option Value} {base : Heap}

theorem sc_bent : FnScope ["well", "thing", "path", "here", "turn", "at", "way", "whole"] ["well", "thing"] (defScope s_bent) := ⟨rfl, rfl, rfl, by decide +kernel, rfl, by decide +kernel, by decide +kernel⟩
theorem ok_bent (D : Df K mg "_law_bent" s_bent) (B : Bi mg) (G1 : Gd P w K mg base CX0 1 "_law_draw" ["well", "few"] spDraw) (G2 : Gd P w K mg base CX0 1 "_law_is_whole" ["thing"] spWhole) (G3 : Gd P w K mg base CX0 3 "_law_odd_thing" ["well"] spOdd) : Gd P w K mg base CX0 4 "_law_bent" ["well", "thing"] (spBent Z) := by
  refine gd_of D (fun _ _ _ _ _ _ us hl => match us, hl with | [_, _], _ => rfl) fun f fd F => ?_
  refine fun_q F sc_bent (fun vs H Q E h => by obtain ⟨p, v, d, rfl, _⟩ := h; rfl) (fun cdv A outer s H vs Q E hr hq h => ?_)
  obtain ⟨p, tv, d, rfl, W, hd, sh, lz, k⟩ := h
  refine ⟨_, (pss_cons (ps_par (i := 2) (j := 3) (by rfl) sc_bent.nd rfl rfl (by decide) rfl rfl (pa_cons (pe_lst pa_nil) (pa_cons (pv 1) pa_nil)) (by rfl))
      (pss_cons (ps_for PassesOwn.never rfl (pi_range1 rfl B.range (pa_cons (pe_g (G1.mono (by decide)) hr hq (pa_cons (pv 0) (pa_cons pe_int pa_nil))) pa_nil)) (pg_name (i := 4) sc_bent.nd rfl (Or.inl rfl)) (pss_cons (ps_if (PW.pt (pw_or (pt_not (pt_val (pe_callB call_isi (by rfl) B.isinstance (by decide +kernel) (pa_cons (pv 3) (pa_cons (pe_bltn (v := V.ty "tuple") (by rfl) B.tuple (by decide +kernel) rfl) pa_nil))))) (pw_or1 (pt_cmpR (op_eqD hr.units) (pv 3) (pe_tup pa_nil) (nomark _))))) (pss_one ps_break) pss_nil)
      (pss_cons (ps_set (i := 5) sc_bent.nd rfl (Or.inl rfl) (pe_g (G1.mono (by decide)) hr hq (pa_cons (pv 0) (pa_cons (pe_callB call_len_seq (by rfl) B.len (by decide +kernel) (pa_cons (pv 3) pa_nil)) pa_nil))))
      (pss_cons (ps_expr (pe_bm PySem.F.plainAttrs_list PySem.F.slot_list_append PySem.F.type_list_append mt_append (pv 2) (pa_cons (pe_tup (pa_cons (pv 3) (pa_cons (pv 5) pa_nil))) pa_nil)))
      (pss_one (ps_set (i := 3) sc_bent.nd rfl (Or.inl rfl) (pe_ix ix_tup (pv 3) (pv 5) (fun _ _ => rfl))))))))
      (pss_cons (ps_set (i := 6) sc_bent.nd rfl (Or.inl rfl) (pe_g (G1.mono (by decide)) hr hq (pa_cons (pv 0) (pa_cons pe_int pa_nil))))
      (pss_cons (ps_if (PW.pt (pw_and (pt_val (pe_callB call_isi (by rfl) B.isinstance (by decide +kernel) (pa_cons (pv 3) (pa_cons (pe_bltn (v := V.ty "tuple") (by rfl) B.tuple (by decide +kernel) rfl) pa_nil)))) (pw_and1 (pt_cmpR op_lt (pv 6) pe_int (nomark _))))) (pss_one (ps_set (i := 3) sc_bent.nd rfl (Or.inl rfl) (dr_pick (p := p) (R := isOz (2 * Z + 10) 22) (dr_cons (by walk_at "stb") (dz_okL (S := 2 * Z + 10) (D := 22) (dz_list B.list (dw_var (P := isTz 1000 Z 20) (pv 3)))) (dr_cons (by walk_at "stb") (dz_ok1 (S := 2 * Z + 10) (D := 22) (dz_cut (p2 := pT) (dw_var (P := isTz 1000 Z 20) (pv 3)) po_none (po_some (pe_un un_neg pe_int)) (fun _ _ _ _ q => q none) (fun _ _ _ _ q => ⟨1, rfl, -1, rfl, q _⟩) stb_T)) (dr_cons (by walk_at "stb") (dz_ok1 (S := 2 * Z + 10) (D := 22) (dz_cat (by walk_at "stb") (dw_var (P := isTz 1000 Z 20) (pv 3)) (dz_cut (p2 := pT) (dw_var (P := isTz 1000 Z 20) (pv 3)) (po_some (pe_un un_neg pe_int)) po_none (fun _ _ _ _ q => ⟨1, rfl, -1, rfl, q _⟩) (fun _ _ _ _ q => q none) stb_T))) (dr_cons (by walk_at "stb") (dz_ok1 (S := 2 * Z + 10) (D := 22) (dz_cut (p2 := pT) (dw_var (P := isTz 1000 Z 20) (pv 3)) (po_some pe_int) po_none (fun _ _ _ _ q => ⟨1, rfl, q _⟩) (fun _ _ _ _ q => q none) stb_T)) (dr_cons (by walk_at "stb") (dz_ok1 (dz_rev (dw_var (P := isTz 1000 Z 20) (pv 3)))) (dr_cons (by walk_at "stb") (dz_ok1 (S := 2 * Z + 10) (D := 22) (dz_cat (by walk_at "stb") (dw_var (P := isTz 1000 Z 20) (pv 3)) (dz_up (dr_tup (dr_cons (by walk_at "stb") (dz_ok2 (dr_tup (dr_cons (by walk_at "stb") dz_str0 dr_nil))) dr_nil))))) (dr_cons (by walk_at "stb") (dz_ok1 (S := 2 * Z + 10) (D := 22) (dr_tup (dr_cons (by walk_at "stb") (dz_ok0 (dw_var (P := isTz 1000 Z 20) (pv 3))) dr_nil))) dr_nil))))))) (pv 6) (fun _ _ => rfl)))) (pss_one (ps_if (PW.pt (pw_and (pt_val (pe_g (G2.mono (by decide)) hr hq (pa_cons (pv 3) pa_nil))) (pw_and1 (pt_cmpR op_lt (pv 6) pe_int (nomark _))))) (pss_one (ps_set (i := 3) sc_bent.nd rfl (Or.inl rfl) (dr_pick (p := p) (R := isOz (2 * Z + 10) 22) (dr_cons (by walk_at "stb") (dw_of (p1 := wZ 3) (pe_op op_add (pv 3) pe_int) (fun σ H Q w ⟨i, h⟩ k => ⟨_, h, i, 1, rfl, rfl, k _ (.int _) H w But.refl (.int _) (oz_int _)⟩)) (dr_cons (by walk_at "stb") (dw_of (p1 := wZ 3) (pe_op op_sub (pv 3) pe_int) (fun σ H Q w ⟨i, h⟩ k => ⟨_, h, i, 1, rfl, rfl, k _ (.int _) H w But.refl (.int _) (oz_int _)⟩)) (dr_cons (by walk_at "stb") (dw_of (p1 := wZ 3) (pe_op op_sub pe_int (pv 3)) (fun σ H Q w ⟨i, h⟩ k => ⟨_, h, 0, i, rfl, rfl, k _ (.int _) H w But.refl (.int _) (oz_int _)⟩)) (dr_cons (by walk_at "stb") (dw_of (p1 := wZ 3) (pe_cmpR op_gt (pv 3) pe_int (nomark _)) (fun σ H Q w ⟨i, h⟩ k => ⟨_, h, i, 0, rfl, rfl, k _ (.bool _) H w But.refl (.bl _) (oz_bool _)⟩)) (dr_cons (by walk_at "stb") (dw_of (p1 := wZ 3) (pe_op op_mul (pv 3) pe_int) (fun σ H Q w ⟨i, h⟩ k => ⟨_, h, i, 2, rfl, rfl, .inr ⟨by decide, by decide⟩, k _ (.int _) H w But.refl (.int _) (oz_int _)⟩)) (dr_cons (by walk_at "stb") (dw_of (p1 := wP p 0) (pe_callTy call_str_int (by rfl) B.str (by decide +kernel) (pa_cons (pe_g (G1.mono (by decide)) hr hq (pa_cons (pv 0) (pa_cons pe_int pa_nil))) pa_nil)) (fun σ H Q w h k => ⟨_, h, p, 9, rfl, w, by decide, by decide, fun n H1 n0 n1 W1 b1 => ⟨n, rfl, small_log n0 n1, k _ (.str _) H1 W1 b1 (.str _) (oz_str (small_str n0 n1))⟩⟩)) (dr_cons (by walk_at "stb") (dz_int (S := 2 * Z + 10) (D := 22)) dr_nil))))))) (pv 6) (fun _ _ => rfl)))) (pss_one (ps_if (PW.pt (pw_and (pt_val (pe_callB call_isi (by rfl) B.isinstance (by decide +kernel) (pa_cons (pv 3) (pa_cons (pe_bltn (v := V.ty "str") (by rfl) B.str (by decide +kernel) rfl) pa_nil)))) (pw_and1 (pt_cmpR op_lt (pv 6) pe_int (nomark _))))) (pss_one (ps_set (i := 3) sc_bent.nd rfl (Or.inl rfl) (dr_pick (p := p) (R := isOz (2 * Z + 10) 22) (dr_cons (by walk_at "stb") (dw_of (p1 := wS 3) (pe_op op_add_str (pv 3) pe_str) (fun σ H Q w ⟨x, h, l⟩ k => ⟨_, h, x, _, rfl, rfl, lenS l (by decide), k _ (.str _) H w But.refl (.str _) (oz_str (lenA l (by decide)))⟩)) (dr_cons (by walk_at "stb") (dw_of (p1 := wS 3) (pe_slice sl_str (pv 3) (po_some pe_int) po_none) (fun σ H Q w ⟨x, h, l⟩ k => ⟨_, h, 1, rfl, x, rfl, by rw [sizeLine_eq]; omega, k _ (.str _) H w But.refl (.str _) (oz_str (decide_eq_true (Nat.le_trans (cutS_length x (some 1) none) (by omega))))⟩)) (dr_cons (by walk_at "stb") (dw_of (p1 := wS 3) (pe_bm0 PySem.F.plainAttrs_str PySem.F.slot_str_upper PySem.F.type_str_upper mt_upper (pv 3)) (fun σ H Q w ⟨x, h, l⟩ k => ⟨_, h, rfl, x, rfl, rfl, by omega, k _ (.str _) H w But.refl (.str _) (oz_str (decide_eq_true (Nat.le_trans (len_upper x) (by omega))))⟩)) (dr_cons (by walk_at "stb") (dz_str (S := 2 * Z + 10) (D := 22)) (dr_cons (by walk_at "stb") (dz_str (S := 2 * Z + 10) (D := 22)) (dr_cons (by walk_at "stb") (dw_of (p1 := wS 3) (pe_op op_add_str (pv 3) pe_str) (fun σ H Q w ⟨x, h, l⟩ k => ⟨_, h, x, _, rfl, rfl, lenS l (by decide), k _ (.str _) H w But.refl (.str _) (oz_str (lenA l (by decide)))⟩)) (dr_cons (by walk_at "stb") (dw_of (p1 := wS 3) (pe_op op_add_str pe_str (pv 3)) (fun σ H Q w ⟨x, h, l⟩ k => ⟨_, h, _, x, rfl, rfl, lenS2 l (by decide), k _ (.str _) H w But.refl (.str _) (oz_str (lenA2 l (by decide)))⟩)) dr_nil))))))) (pv 6) (fun _ _ => rfl)))) (pss_one (ps_set (i := 3) sc_bent.nd rfl (Or.inl rfl) (pe_g G3 hr hq (pa_cons (pv 0) pa_nil)))))))))
      (pss_cons (ps_for PassesOwn.never rfl (pi_list (pe_revL (pv 2))) (pg_tup rfl (pgs_cons (pg_name (i := 7) sc_bent.nd rfl (Or.inl rfl)) (pgs_cons (pg_name (i := 5) sc_bent.nd rfl (Or.inl rfl)) pgs_nil))) (pss_one (ps_set (i := 3) sc_bent.nd rfl (Or.inl rfl) (pe_op op_catA (pe_op op_catA (pe_slice sl_tupA (pv 7) po_none (po_some (pv 5))) (pe_tup (pa_cons (pv 3) pa_nil))) (pe_slice sl_tupA (pv 7) (po_some (pe_op op_add (pv 5) pe_int)) po_none)))))
      (pss_one (ps_ret (pv 3)))))))), ?_⟩
  refine ⟨by show 0 ≤ sizeLine; exact Nat.zero_le _, fun pa hpa => ?_⟩
  refine ⟨_, rfl, ?_⟩
  refine ⟨_, _, rfl, ?_⟩
  have npa : pa ≠ p := fun z => W.some (z ▸ hpa)
  dsimp only
  refine seq_nx (a := tFor _ _ _) (I := fun σ H1 => ∃ hv hd0 n4 n5 qs, σ = [some (.ref p), some tv, some (.ref pa), some hv, n4, n5, none, none] ∧ Well H1 p ∧ But p H H1 ∧ H1 pa = some (.lst qs) ∧ qs.length ≤ 6 ∧ (∀ q ∈ qs, PItem Z (L2.del H p) H1 q) ∧ Dd (L2.del H p) hv hd0 ∧ shB 20 hd0 = true ∧ psz hd0 ≤ Z) ?rest (fun N hN => ?loop)
  case loop =>
    refine ⟨_, rfl, p, 6, rfl, W.new hpa, by decide, by decide, fun n H1 n0 n1 W1 b1 => ?_⟩
    refine ⟨n, rfl, by omega, by omega, ?_⟩
    have eb1 : But p H H1 := (But.refl.at hpa).trans b1
    refine for_it walk_range (fun i σ H2 => i ≤ 6 ∧ ∃ hv hd0 n4 n5 qs, σ = [some (.ref p), some tv, some (.ref pa), some hv, n4, n5, none, none] ∧ Well H2 p ∧ But p H H2 ∧ H2 pa = some (.lst qs) ∧ qs.length ≤ i ∧ (∀ q ∈ qs, PItem Z (L2.del H p) H2 q) ∧ Dd (L2.del H p) hv hd0 ∧ shB 20 hd0 = true ∧ psz hd0 ≤ Z)
      ⟨by omega, tv, d, _, _, [], rfl, W1, eb1, b1 _ _ npa upd_same, by decide, (fun q hq => by cases hq), hd, sh, lz⟩ (fun _ _ _ _ _ => True.intro) (fun i y σ H2p H2 hi pv hy => ?_) (fun σ H2 pv => ?_)
    · obtain ⟨rfl, rfl⟩ := hy
      obtain ⟨i6, hv, hd0, n4, n5, qs, rfl, W2, b2, ep, lq, qi, dd0, sh0, lz0⟩ := pv
      have toN : ∀ {H3 : Hp} {n4 n5 : Option V}, Well H3 p → But p H2 H3 → N [some (.ref p), some tv, some (.ref pa), some hv, n4, n5, none, none] H3 := fun {H3 n4 n5} W3 b3 => hN _ _ ⟨hv, hd0, _, _, qs, rfl, W3, b2.trans b3, b3 _ _ npa ep, by omega, (fun q hq => (qi q hq).mono fun b xs e => by
        obtain ⟨t, wt, k, ds, rfl, e1, _⟩ := qi q hq
        refine b3 _ _ (fun z => ?_) e
        subst z
        obtain ⟨_, _, _, _, e2⟩ := W2
        rw [e2] at e
        cases e), dd0, sh0, lz0⟩
      refine ⟨_, rfl, ?_⟩
      refine ⟨_, V.ty _, _, _, _, rfl, ClsV.ty _, Dd.ty ((dd0.but b2).all), kit_ty (kit_tup hd0), ?_⟩
      refine ⟨_, rfl, ?_⟩
      cases et : isTup hd0 with
      | false => exact iteT (toN W2 But.refl)
      | true =>
      obtain ⟨ds, rfl⟩ := isTup_of et
      refine iteF ?_
      refine ⟨_, rfl, by show 0 ≤ sizeLine; exact Nat.zero_le _, fun c hc => ?_⟩
      have bc := new_but (p := p) (o := .tup []) hc
      have ddc := ((dd0.but b2).but bc).all
      refine ⟨.tuple ds, .tuple [], ddc.dp sh0, .tup (SqT.of upd_same) .nil, shB_shaped sh0 (by decide), rfl, ?_⟩
      refine ⟨_, rfl, ?_⟩
      rw [eqv_nil]
      have W3 := W2.new (o := .tup []) hc
      have b3 := b2.trans bc
      cases ds with
      | nil => exact iteT (toN W3 bc)
      | cons d0 ds =>
      refine iteF ?_
      obtain ⟨ha, xs, rfl, eha, A⟩ := dd0.tupD
      have la := A.length
      have l1000 := (shB_tup sh0).1
      have eha3 := b3 _ _ (del_get eha).1 (del_get eha).2
      have lpos : 0 < (d0 :: ds).length := Nat.succ_pos _
      refine ⟨_, rfl, _, rfl, ha, xs, rfl, .inr (SqT.of eha3), p, _, rfl, W3, by omega, by omega, fun j H4 j0 j1 W4 b4 => ?_⟩
      have b04 := b3.trans b4
      have ep4 := b4 _ _ npa (bc _ _ npa ep)
      refine ⟨_, rfl, .inl ⟨rfl, _, SqL.of ep4⟩, ?_⟩
      refine ⟨_, rfl, _, rfl, by show 2 ≤ sizeLine; rw [sizeLine_eq]; decide, fun t ht => ?_⟩
      have bt := new_but (p := p) (o := .tup [.ref ha, .int j]) ht
      have ept := bt _ _ npa ep4
      refine ⟨pa, qs, _, rfl, rfl, ept, by rw [sizeLine_eq]; omega, ?_⟩
      have ntp : t ≠ p := (W4.ne ht).symm
      have npt : t ≠ pa := fun z => by rw [z, ep4] at ht; cases ht
      have b06 : But p H (upd (upd H4 t (.tup [.ref ha, .int j])) pa (.lst (qs ++ [.ref t]))) := (b04.trans bt).at hpa
      have hj : j.toNat < xs.length := by omega
      obtain ⟨d1, ed1, hd1⟩ := A.get (List.getElem?_eq_getElem hj)
      have e : j = ((j.toNat : Nat) : Int) := by omega
      have ea : atI xs ((j.toNat : Nat) : Int) = some xs[j.toNat] := atI_nat (List.getElem?_eq_getElem hj)
      rw [← e] at ea
      refine ⟨_, rfl, _, rfl, ha, xs, j, _, rfl, rfl, SqT.of (b06 _ _ (del_get eha).1 (del_get eha).2), ea, ?_⟩
      refine ⟨by omega, xs[j.toNat], d1, _, _, qs ++ [.ref t], rfl, ?_, b06, upd_same, by rw [List.length_append]; show qs.length + 1 ≤ _; omega, fun q hq => ?_, hd1, shB_mono (by decide) ((shB_tup sh0).2 d1 (List.mem_of_getElem? ed1)), by
        have h1 := psz_mem ed1
        have h2 := psz_take (d0 :: ds) (j.toNat + 1)
        have h3 : psz (.tuple (d0 :: ds)) = 1 + pszs (d0 :: ds) := by rw [psz]
        omega⟩
      · obtain ⟨x, y, z, N1, e1⟩ := W4.new (o := .tup [.ref ha, .int j]) ht
        exact ⟨x, y, z, N1, by rw [upd_ne npa.symm]; exact e1⟩
      · rcases List.mem_append.mp hq with z | z
        · refine ((qi q z).mono (G' := upd H4 t (.tup [.ref ha, .int j])) fun b xs e => ?_).mono fun b xs e => tup_put ept e
          refine bt _ _ ?_ (b4 _ _ ?_ (bc _ _ ?_ e)) <;>
          · intro z
            subst z
            obtain ⟨_, _, _, _, e2⟩ := W2
            rw [e2] at e
            cases e
        · rw [List.mem_singleton] at z
          subst z
          refine ⟨t, ha, j, d0 :: ds, rfl, tup_put ept upd_same, j0, by omega, l1000, (by rw [psz] at lz0; omega), fun d hd => ⟨shB_ok ((shB_tup sh0).2 d hd), Nat.le_trans (shB_depth ((shB_tup sh0).2 d hd)) (by decide)⟩, dd0⟩
    · obtain ⟨i6, hv, hd0, n4, n5, qs, rfl, W2, b2, ep, lq, qi, dd0, sh0, lz0⟩ := pv
      exact hN _ _ ⟨hv, hd0, _, _, qs, rfl, W2, b2, ep, by omega, qi, dd0, sh0, lz0⟩
  case rest =>
    rintro σ H1 ⟨hv, hd0, n4, n5, qs, rfl, W1, b1, ep, lq, qi, dd0, sh0, lz0⟩
    refine ⟨_, rfl, p, 9, rfl, W1, by decide, by decide, fun n H2 n0 n1 W2 b2 => ?_⟩
    have b02 := b1.trans b2
    dsimp only
    refine seq_nx (a := tIfS _ _ _) (I := fun σ H3 => ∃ hv hd1 n4 n5 n6, σ = [some (.ref p), some tv, some (.ref pa), some hv, n4, n5, n6, none] ∧ Well H3 p ∧ But p H2 H3 ∧ Dd (L2.del H3 p) hv hd1 ∧ isOz (2 * Z + 10) 22 hd1) ?rest2 (fun N hN => ?ifs)
    case ifs =>
      have toN : ∀ {hv : V} {hd1 : PyData} {H3 : Hp}, Well H3 p → But p H2 H3 → Dd (L2.del H3 p) hv hd1 → isOz (2 * Z + 10) 22 hd1 → N [some (.ref p), some tv, some (.ref pa), some hv, n4, n5, some (.int n), none] H3 := fun {hv hd1 H3} W3 b3 d3 o3 => hN _ _ ⟨hv, hd1, _, _, _, rfl, W3, b3, d3, o3⟩
      show tAnd _ _ _ _ _
      refine tAnd_val (isTup hd0) (decide (n < 7)) (fun K' hK => ?_) (fun _ H' s' K' hK => ?_) (fun H3 s3 => ?_)
      · refine ⟨_, rfl, ?_⟩
        refine ⟨_, V.ty _, _, _, _, rfl, ClsV.ty _, Dd.ty ((dd0.but b02).all), kit_ty (kit_tup hd0), ?_⟩
        exact ⟨_, rfl, hK _ (Same.refl _)⟩
      · exact ⟨_, rfl, n, 7, rfl, rfl, _, rfl, hK _ (Same.refl _)⟩
      have b23 : But p H2 H3 := Same.but s3
      have W3 := W2.same s3
      have d3 := dd0.but (b02.trans b23)
      cases c1 : isTup hd0 && decide (n < 7) with
      | true =>
        rw [Bool.and_eq_true, decide_eq_true_iff] at c1
        obtain ⟨ds, rfl⟩ := isTup_of c1.1
        refine iteT ?_
        have pv3 : wV p 3 (isTz 1000 Z 20) [some (.ref p), some tv, some (.ref pa), some hv, n4, n5, some (.int n), none] H3 := ⟨hv, _, rfl, d3, shB_isTz sh0 lz0⟩
        refine ⟨W3, ?_, fun v' d' H4 W4 b4 hd4 ok4 => toN W4 (b23.trans b4) hd4 ok4⟩
        refine And.intro ?_ ⟨n, rfl, n0, by omega⟩
        repeat (first | exact pv3 | exact True.intro | refine And.intro ?_ ?_)
      | false =>
      refine iteF ?_
      show tAnd _ _ _ _ _
      refine tAnd_val (wholeB hd0) (decide (n < 7)) (fun K' hK => ?_) (fun _ H' s' K' hK => ?_) (fun H4 s4 => ?_)
      · exact ⟨_, rfl, hv, hd0, rfl, d3.all, fun H' s' => ⟨_, rfl, hK _ s'⟩⟩
      · exact ⟨_, rfl, n, 7, rfl, rfl, _, rfl, hK _ (Same.refl _)⟩
      have b24 : But p H2 H4 := b23.trans (Same.but s4)
      have W4 := W3.same s4
      have d4 := d3.but (Same.but s4)
      cases c2 : wholeB hd0 && decide (n < 7) with
      | true =>
        rw [Bool.and_eq_true, decide_eq_true_iff] at c2
        obtain ⟨i, rfl⟩ := isInt_of c2.1
        obtain rfl : hv = .int i := by cases d4; rfl
        refine iteT ?_
        have pv3 : wZ 3 [some (.ref p), some tv, some (.ref pa), some (.int i), n4, n5, some (.int n), none] H4 := ⟨i, rfl⟩
        have pv0 : wP p 0 [some (.ref p), some tv, some (.ref pa), some (.int i), n4, n5, some (.int n), none] H4 := rfl
        refine ⟨W4, ?_, fun v' d' H5 W5 b5 hd5 ok5 => toN W5 (b24.trans b5) hd5 ok5⟩
        refine And.intro ?_ ⟨n, rfl, n0, by omega⟩
        repeat (first | exact pv3 | exact pv0 | exact True.intro | refine And.intro ?_ ?_)
      | false =>
      refine iteF ?_
      show tAnd _ _ _ _ _
      refine tAnd_val (isStr hd0) (decide (n < 7)) (fun K' hK => ?_) (fun _ H' s' K' hK => ?_) (fun H5 s5 => ?_)
      · refine ⟨_, rfl, ?_⟩
        refine ⟨_, V.ty _, _, _, _, rfl, ClsV.ty _, Dd.ty (d4.all), kit_ty (kit_str hd0), ?_⟩
        exact ⟨_, rfl, hK _ (Same.refl _)⟩
      · exact ⟨_, rfl, n, 7, rfl, rfl, _, rfl, hK _ (Same.refl _)⟩
      have b25 : But p H2 H5 := b24.trans (Same.but s5)
      have W5 := W4.same s5
      have d5 := d4.but (Same.but s5)
      cases c3 : isStr hd0 && decide (n < 7) with
      | true =>
        rw [Bool.and_eq_true, decide_eq_true_iff] at c3
        obtain ⟨x, rfl⟩ := isStr_of c3.1
        obtain rfl := d5.strD
        refine iteT ?_
        have lx : x.length ≤ 100 := by
          have h : (decide (x.length ≤ 100) && PyData.strOk x) = true := sh0
          rw [Bool.and_eq_true, decide_eq_true_iff] at h
          exact h.1
        have pv3 : wS 3 [some (.ref p), some tv, some (.ref pa), some (.str x), n4, n5, some (.int n), none] H5 := ⟨x, rfl, lx⟩
        refine ⟨W5, ?_, fun v' d' H6 W6 b6 hd6 ok6 => toN W6 (b25.trans b6) hd6 ok6⟩
        refine And.intro ?_ ⟨n, rfl, n0, by omega⟩
        repeat (first | exact pv3 | exact True.intro | refine And.intro ?_ ?_)
      | false =>
      refine iteF ?_
      exact ⟨_, rfl, p, rfl, W5, fun v' d' H6 m W6 b6 hd6 => toN W6 (b25.trans b6) (hd6.apart W5.some) (odd_oz (S := 2 * Z + 10) (D := 22) (by omega) (by omega) d' m)⟩
    case rest2 =>
      have ep2 := b2 _ _ npa ep
      rintro σ H3 ⟨hv, hd1, n4, n5, n6, rfl, W3, b3, d3, o3⟩
      have ep3 := b3 _ _ npa ep2
      refine ⟨_, rfl, pa, qs, rfl, SqL.of ep3, fun r hr => ?_⟩
      have b23 := b3.trans (new_but (p := p) (o := .lst qs.reverse) hr)
      have ner : r ≠ p := (W3.ne hr).symm
      refine ⟨r, rfl, ⟨_, SqL.of upd_same⟩, ?_⟩
      refine for_it walk_list (fun i σ H4 => ∃ hv hd1 n5 n7, σ = [some (.ref p), some tv, some (.ref pa), some hv, n4, n5, n6, n7] ∧ Well H4 p ∧ But p H2 H4 ∧ H4 r = some (.lst qs.reverse) ∧ Dd (L2.del H4 p) hv hd1 ∧ isOz (2 * Z + 10 + i * (2 * Z + 1)) (22 + i) hd1)
        ⟨hv, hd1, _, _, rfl, W3.new hr, b23, upd_same, d3.but (new_but hr), by rw [Nat.zero_mul]; exact o3⟩ (fun i σ H4 _ p => by obtain ⟨_, _, _, _, _, _, _, e, _⟩ := p; exact SqL.of e) (fun i y σ H4p H4 hi pv hy => ?_) (fun σ H4 pv => ?_)
      · obtain ⟨rfl, ey⟩ := hy
        obtain ⟨hv, hd1, n5, n7, rfl, W4, b4, er, d4, o4⟩ := pv
        obtain ⟨t, wt, j, ds, rfl, et, j0, j1, l1000, lsz, oks, ddw⟩ := qi y (List.mem_reverse.mp (List.mem_of_getElem? ey))
        have ntp : t ≠ p := fun z => by
          subst z
          obtain ⟨_, _, _, _, e2⟩ := W1
          rw [e2] at et
          cases et
        have b14 := b2.trans b4
        refine ⟨t, _, rfl, SqT.of (b14 _ _ ntp et), rfl, _, _, rfl, _, _, rfl, rfl, ?_⟩
        obtain ⟨wa, xw, ew, hwt, AW⟩ := (ddw.but (b1.trans b14)).tupD
        cases ew
        have lxw := AW.length
        have ewt := del_old _ _ hwt
        refine ⟨_, rfl, noPart ⟨_, rfl, j, rfl, ?_⟩⟩
        refine slA_any ewt fun c1 H5 s5 e5 => ?_
        have lc1 := cutV_length xw none (some j)
        refine ⟨_, rfl, by show 1 ≤ sizeLine; rw [sizeLine_eq]; decide, fun t1 ht1 => ?_⟩
        have s6 := same_new ht1 (.tup [hv])
        refine catA_all (s6 _ _ e5) upd_same (by rw [sizeLine_eq]; show _ + 1 ≤ _; omega) fun c2 H7 s7 e7 => ?_
        have s47 := s5.trans (s6.trans s7)
        refine ⟨_, rfl, _, rfl, j, 1, rfl, rfl, _, rfl, noPart ?_⟩
        refine slA_any (s47 _ _ ewt) fun c3 H8 s8 e8 => ?_
        have lc3 := cutV_length xw (some (j + 1)) none
        refine catA_all (s8 _ _ e7) e8 (by rw [sizeLine_eq, List.length_append]; show _ + 1 + _ ≤ _; omega) fun c4 H9 s9 e9 => ?_
        have s49 := s47.trans (s8.trans s9)
        have W9 := W4.same s49
        obtain ⟨xs9, ep9⟩ : ∃ xs, H9 p = some (HO.lst xs) := by obtain ⟨_, _, _, _, e⟩ := W9; exact ⟨_, e⟩
        have A9 := AW.mono ((Same.but (p := p) s49).del)
        obtain ⟨es1, E1, le1, lp1, me1⟩ := cut_z A9 none (some j)
        obtain ⟨es2, E2, le2, lp2, me2⟩ := cut_z A9 (some (j + 1)) none
        have d9 := d4.but (Same.but s49)
        have oz : ∀ x ∈ es1 ++ [hd1] ++ es2, okT x = true ∧ x.depth ≤ 22 + i := fun x hx => by
          rcases List.mem_append.mp hx with w | w
          · rcases List.mem_append.mp w with w | w
            · have := oks x (me1 x w)
              exact ⟨this.1, by omega⟩
            · rw [List.mem_singleton.mp w]; exact ⟨o4.1, o4.2.2⟩
          · have := oks x (me2 x w)
            exact ⟨this.1, by omega⟩
        refine ⟨_, .tuple (es1 ++ [hd1] ++ es2), _, _, rfl, W9, b4.trans (Same.but s49), s49 _ _ er, .tup (by rw [del_ne (fun z => by rw [z, ep9] at e9; cases e9)]; exact e9) (DdA.append (DdA.append E1 (.cons d9 .nil)) E2), okTs_of fun x hx => (oz x hx).1, ?_, ?_⟩
        · have q1 : psz (.tuple (es1 ++ [hd1] ++ es2)) = 1 + (pszs es1 + (psz hd1 + 0) + pszs es2) := by rw [psz, pszs_app, pszs_app, pszs, pszs]
          have := o4.2.1
          rw [q1, Nat.add_mul]
          omega
        · rw [PyData.depth]
          have := depthAll_of fun d hd => (oz d hd).2
          omega
      · obtain ⟨hv, hd1, n5, n7, rfl, W4, b4, er, d4, o4⟩ := pv
        rw [List.length_reverse] at o4
        have : qs.length * (2 * Z + 1) ≤ 6 * (2 * Z + 1) := Nat.mul_le_mul_right _ lq
        exact ⟨_, rfl, k hv hd1 H4 W4 (b02.trans b4) d4 ⟨o4.1, Nat.le_trans o4.2.1 (by omega), Nat.le_trans o4.2.2 (by omega)⟩⟩

end

theorem sub_len : ∀ {F ks : List Str}, F.Nodup → (∀ x ∈ F, x ∈ ks) → F.length ≤ ks.length
  | [], _, _, _ => Nat.zero_le _
  | x :: F, ks, nd, h => by
    obtain ⟨n1, n2⟩ := List.nodup_cons.mp nd
    have hx := h x (List.mem_cons_self ..)
    have ih := sub_len (F := F) (ks := ks.erase x) n2 fun y hy => (List.mem_erase_of_ne (show y ≠ x from fun z => n1 (by rw [← z]; exact hy))).mpr (h y (List.mem_cons_of_mem _ hy))
    rw [List.length_erase_of_mem hx] at ih
    have : 0 < ks.length := List.length_pos_of_mem hx
    rw [List.length_cons]
    omega
theorem pk_kinds {md : List PyData} {us : List Str} (mb : ∀ m ∈ md, makerB us m = true) : ∀ (n : Nat) (d : PyData) (x : Str) (ls : List (Str × Str)), psz d ≤ n → pkB md d x = some ls → x ∈ us → ∀ p ∈ ls, p.2 ∈ us
  | 0, d, _, _, h, _, _ => absurd (psz_pos d) (by omega)
  | n + 1, d, x, ls, h, e, hx => by
    intro p hp
    cases d with
    | tuple ds =>
      cases ev : variableB (.tuple ds) with
      | true =>
        obtain ⟨nm, q, hn⟩ := variableB_some ev
        cases q
        rw [pkB_var hn] at e
        cases e
        rw [List.mem_singleton.mp hp]
        exact hx
      | false =>
        rw [pkB, ev] at e
        have e : pkH md ds x = some ls := e
        cases ds with
        | nil => cases e
        | cons a ps =>
          cases a with
          | str h0 =>
            rw [pkH] at e
            cases fm : findM md h0 with
            | none => rw [fm] at e; cases e
            | some m =>
              rw [fm] at e
              have e : (if kindOf m = x then pkL md ps (needsOf m) else none) = some ls := e
              by_cases c : kindOf m = x
              · rw [if_pos c] at e
                have nok := needs_ok2 (mb m (findM_mem fm).1)
                obtain ⟨q, hq, ls2, e2, hp2⟩ := (pkL_occ e).mp hp
                obtain ⟨h1, h2⟩ := List.of_mem_zip hq
                obtain ⟨i, ei⟩ := List.mem_iff_getElem?.mp h2
                have p1 := psz_mem ei
                have p2 := psz_take ps (i + 1)
                have pz : psz (.tuple (.str h0 :: ps)) = 2 + pszs ps := by
                  rw [psz, pszs, psz]
                  · omega
                  · intros; simp_all
                exact pk_kinds mb n q.2 q.1 ls2 (by omega) e2 (nok q.1 h1) p hp2
              · rw [if_neg c] at e; cases e
          | _ => cases e
    | _ => cases e
theorem mpD_psz {f : Str → PyData} {B : Nat} (hB : 1 ≤ B) (hf : ∀ m, psz (f m) ≤ B) : ∀ (n : Nat) (d : PyData), psz d ≤ n → trB d = true → psz (mpD f d) ≤ psz d * B
  | 0, d, h, _ => absurd (psz_pos d) (by omega)
  | n + 1, d, h, ht => by
    rcases trB_of ht with ⟨m, rfl⟩ | ⟨k, i, rfl⟩ | ⟨x, ps, rfl, c1, c2, hp⟩
    · rw [mpD, mpH, if_pos rfl]
      exact Nat.le_trans (hf _) (Nat.le_mul_of_pos_left _ (psz_pos _))
    · rw [mpD, mpH, if_neg (by decide), if_pos rfl]
      exact Nat.le_mul_of_pos_right _ hB
    · rw [mpD, mpH, if_neg c1, if_neg c2, mpL_map]
      have pz : ∀ ps : List PyData, psz (.tuple (.str x :: ps)) = 2 + pszs ps := fun ps => by
        rw [psz, pszs, psz]
        · omega
        · intros; simp_all
      have all : ∀ qs : List PyData, (∀ p ∈ qs, trB p = true) → pszs qs ≤ n → pszs (qs.map (mpD f)) ≤ pszs qs * B := fun qs => by
        induction qs with
        | nil => intro _ _; rw [List.map_nil, pszs]; exact Nat.zero_le _
        | cons p qs ih =>
          intro hq l
          rw [pszs] at l
          have h1 := mpD_psz hB hf n p (by omega) (hq p (List.mem_cons_self ..))
          have h2 := ih (fun q hq' => hq q (List.mem_cons_of_mem _ hq')) (by omega)
          rw [List.map_cons, pszs, pszs, Nat.add_mul]
          omega
      rw [pz] at h ⊢
      rw [pz, Nat.add_mul]
      have := all ps hp (by omega)
      omega
theorem mpD_depth {f : Str → PyData} {D : Nat} (hf : ∀ m, (f m).depth ≤ D) : ∀ (n : Nat) (d : PyData), psz d ≤ n → trB d = true → (mpD f d).depth ≤ d.depth + D
  | 0, d, h, _ => absurd (psz_pos d) (by omega)
  | n + 1, d, h, ht => by
    rcases trB_of ht with ⟨m, rfl⟩ | ⟨k, i, rfl⟩ | ⟨x, ps, rfl, c1, c2, hp⟩
    · rw [mpD, mpH, if_pos rfl]
      have := hf (oneN [.str m])
      omega
    · rw [mpD, mpH, if_neg (by decide), if_pos rfl]; omega
    · rw [mpD, mpH, if_neg c1, if_neg c2, mpL_map, PyData.depth]
      have pz : psz (.tuple (.str x :: ps)) = 2 + pszs ps := by
        rw [psz, pszs, psz]
        · omega
        · intros; simp_all
      have h2 : (PyData.tuple (.str x :: ps)).depth = PyData.depthAll (.str x :: ps) + 1 := by rw [PyData.depth]
      have h3 : PyData.depthAll ps ≤ PyData.depthAll (.str x :: ps) := by
        show _ ≤ max _ (PyData.depthAll ps)
        exact Nat.le_max_right _ _
      have da : PyData.depthAll (ps.map (mpD f)) ≤ PyData.depthAll ps + D := depthAll_of fun d hd => by
        obtain ⟨p, hp', rfl⟩ := List.mem_map.mp hd
        obtain ⟨i, ei⟩ := List.mem_iff_getElem?.mp hp'
        have p1 := psz_mem ei
        have p2 := psz_take ps (i + 1)
        have := mpD_depth hf n p (by omega) (hp p hp')
        have := depth_mem hp'
        omega
      have : PyData.depthAll (.str x :: ps.map (mpD f)) ≤ PyData.depthAll ps + D := by
        show max _ (PyData.depthAll (ps.map (mpD f))) ≤ _
        exact Nat.max_le.mpr ⟨Nat.zero_le _, da⟩
      omega
theorem mpD_ok {f : Str → PyData} (hf : ∀ m, okT (.str m) = true → okT (f m) = true) : ∀ (n : Nat) (d : PyData), psz d ≤ n → trB d = true → okT d = true → okT (mpD f d) = true
  | 0, d, h, _, _ => absurd (psz_pos d) (by omega)
  | n + 1, d, h, ht, ho => by
    rcases trB_of ht with ⟨m, rfl⟩ | ⟨k, i, rfl⟩ | ⟨x, ps, rfl, c1, c2, hp⟩
    · rw [mpD, mpH, if_pos rfl]
      exact hf _ (okT_2 ho).2
    · rw [mpD, mpH, if_neg (by decide), if_pos rfl]; exact ho
    · rw [mpD, mpH, if_neg c1, if_neg c2, mpL_map]
      have pz : psz (.tuple (.str x :: ps)) = 2 + pszs ps := by
        rw [psz, pszs, psz]
        · omega
        · intros; simp_all
      refine okTs_of fun d hd => ?_
      rcases List.mem_cons.mp hd with w | w
      · rw [w]; exact okTs_mem ho _ (List.mem_cons_self ..)
      · obtain ⟨p, hp', rfl⟩ := List.mem_map.mp w
        obtain ⟨i, ei⟩ := List.mem_iff_getElem?.mp hp'
        have p1 := psz_mem ei
        have p2 := psz_take ps (i + 1)
        exact mpD_ok hf n p (by omega) (hp p hp') (okTs_mem ho _ (List.mem_cons_of_mem _ hp'))

section
variable {P : Program} {w : World} {K : PySem.W.Frag} {mg : Str → Option Value} {base : Heap}

/-- _law_term at one of the depths up to three -/
def spTermAny : Sp := fun vs H Q E => ∃ n, n ≤ 3 ∧ spTermD n vs H Q E
/-- _law_instance(well, sig, kinds, patterns, deep), of patterns as they should be -/
def spInst : Sp := fun vs H Q _ => ∃ (p : Addr) (v z u : V) (kd md : List PyData) (ks : List Str) (ps : List PyData) (ls : List (Str × Str)) (n : Nat), vs = [.ref p, v, z, u, .int ((n : Nat) : Int)] ∧ Well H p ∧ Dd (L2.del H p) v (.tuple [.tuple kd, .tuple md]) ∧ kindsB (.tuple kd) = true ∧ makersB (kd.map nameOf) (.tuple md) = true ∧
  Dd (L2.del H p) z (.tuple (ks.map PyData.str)) ∧ ks.length ≤ 4 ∧ (∀ x ∈ ks, x ∈ kd.map nameOf) ∧ Dd (L2.del H p) u (.tuple ps) ∧ pkL md ps ks = some ls ∧ (∀ d ∈ ps, trB d = true) ∧ okT (.tuple ps) = true ∧ (PyData.tuple ps).depth ≤ 40 ∧ psz (.tuple ps) ≤ 1000 ∧ n ≤ 3 ∧ ls.length < 64 ∧ Few md 8 ∧ (∀ y ∈ kd.map nameOf, Small kd md y) ∧
  ∀ (r : V) (ds : List PyData) (H' : Hp), Well H' p → But p H H' → Dd (L2.del H' p) r (.tuple ds) → ds.length = ps.length → (∀ d ∈ ds, trB d = true) → (∀ d ∈ ds, psz d ≤ psz (.tuple ps) * tbN 3) → (∀ d ∈ ds, d.depth ≤ 55) → (∀ d ∈ ds, okT d = true) → Q r H'

theorem sc_instance : FnScope ["well", "sig", "kinds", "patterns", "deep", "known", "put", "name", "part"] ["well", "sig", "kinds", "patterns", "deep"] (defScope s_instance) := ⟨rfl, rfl, rfl, by decide +kernel, rfl, by decide +kernel, by decide +kernel⟩
theorem ok_instance (D : Df K mg "_law_instance" s_instance) (B : Bi mg) (G1 : Gd P w K mg base CX0 43 "_law_held" ["sig", "kinds", "patterns"] (spHeld 40)) (G2 : Gd P w K mg base CX0 55 "_law_term" ["well", "sig", "kind", "deep"] (spTermAny)) (G3 : Gd P w K mg base CX0 46 "_law_placed" ["term", "put"] (spPlaced 45)) : Gd P w K mg base CX0 60 "_law_instance" ["well", "sig", "kinds", "patterns", "deep"] spInst := by
  refine gd_of D (fun _ _ _ _ _ _ us hl => match us, hl with | [_, _, _, _, _], _ => rfl) fun f fd F => ?_
  refine fun_q F sc_instance (fun vs H Q E h => by obtain ⟨p, v, z, u, kd, md, ks, ps, ls, n, rfl, _⟩ := h; rfl) (fun cdv A outer s H vs Q E hr hq h => ?_)
  obtain ⟨p, v, z, u, kd, md, ks, ps, ls, n, rfl, W, hd, k1, k2, hz, lk, hk, hu, epk, htr, okd, dep, lsz, n3, lls, few, sm, k⟩ := h
  refine ⟨_, (pss_cons (ps_asg (pe_tup (pa_cons (pe_g (G1.mono (by omega)) hr hq (pa_cons (pv 1) (pa_cons (pv 2) (pa_cons (pv 3) pa_nil)))) (pa_cons pe_dnewK pa_nil))) (pg_tup rfl (pgs_cons (pg_name (i := 5) sc_instance.nd rfl (Or.inl rfl)) (pgs_cons (pg_name (i := 6) sc_instance.nd rfl (Or.inr rfl)) pgs_nil))))
      (pss_cons (ps_for PassesOwn.never rfl (pi_list (pe_callB (cr_sortDK rfl) (by rfl) B.sorted (by decide +kernel) (pa_cons (pv 5) pa_nil))) (pg_name (i := 7) sc_instance.nd rfl (Or.inl rfl)) (pss_one (ps_dput (hu_of hr) (pv 6) (pv 7) (pe_g (G2.mono (by omega)) hr hq (pa_cons (pv 0) (pa_cons (pv 1) (pa_cons (pe_dget (hu_of hr) (pv 5) (pv 7) (fun _ _ => rfl)) (pa_cons (pv 4) pa_nil))))) rfl)))
      (pss_one (ps_ret (pe_callTy call_tuple_of (by rfl) B.tuple (by decide +kernel) (pa_cons (pe_lc (own := [("part", 8)]) (g := (gName 8)) (tt := tYes) rfl sc_instance.nd (pi_tup (pv 3)) (blkOk_by (own := [("part", 8)]) (N := ["well", "sig", "kinds", "patterns", "deep", "known", "put", "name", "part"]) (sc := defScope s_instance) (by decide +kernel)) (fun _ _ _ _ _ => (pg_name (i := 8) sc_instance.nd rfl (Or.inl rfl))) (fun _ _ _ _ _ => pts_nil) (fun _ _ _ _ _ => (pe_g (G3.mono (by omega)) hr hq (pa_cons (pv 8) (pa_cons (pv 6) pa_nil))))) pa_nil)))))), ?_⟩
  walk_at "rd"
  have lp := pkL_len epk
  obtain ⟨ua, ux, rfl, hua, UA⟩ := hu.tupD
  have lu := UA.length
  obtain ⟨l24, mb, mnd⟩ := makersB_parts k2
  refine ⟨v, z, .ref ua, kd, md, ks, ps, rfl, hd.all, k1, k2, hz.all, lk, hk, hu.all, lp, okd, dep, by omega, fun fk kvs g2 b H1 hfk s1 efk kg TP => ?_⟩
  rw [epk] at TP
  obtain ⟨kg1, ns, ek, nd⟩ := kg
  have own : ∀ m ∈ ns, ∃ kx, valV kvs (Sum.inr m) = some (.str kx) ∧ (m, kx) ∈ ls := fun m hm => by
    have h1 : (kvs.any fun kv => decide (kv.1 = (Sum.inr m : Key))) = true := by
      have : (Sum.inr m : Key) ∈ kvs.map (·.1) := by rw [ek]; exact List.mem_map.mpr ⟨m, hm, rfl⟩
      obtain ⟨q, hq, e⟩ := List.mem_map.mp this
      exact List.any_eq_true.mpr ⟨q, hq, decide_eq_true e⟩
    rw [valV_any, kg1 m] at h1
    cases eg : g2 m with
    | none => rw [eg] at h1; cases h1
    | some kx =>
      refine ⟨kx, by rw [kg1 m, eg]; rfl, ?_⟩
      rcases TP.own ls rfl m kx eg with w | w
      · cases w
      · exact w
  have lns : ns.length < 64 := by
    have := sub_len (ks := ls.map (·.1)) nd fun m hm => by
      obtain ⟨kx, _, h⟩ := own m hm
      exact List.mem_map.mpr ⟨_, h, rfl⟩
    rw [List.length_map] at this
    omega
  refine fun fp hfp => ?_
  have s2 : Same H1 (upd H1 fp (.dK [])) := same_new hfp _
  refine ⟨by show 2 ≤ sizeLine; rw [sizeLine_eq]; decide, fun tp htp => ?_⟩
  have s3 := same_new htp (.tup [V.ref fk, V.ref fp])
  refine ⟨tp, _, rfl, SqT.of upd_same, rfl, _, _, rfl, _, _, rfl, rfl, ?_⟩
  have efp3 := s3 _ _ (upd_same : upd H1 fp (.dK []) fp = some (.dK []))
  have s13 := s2.trans s3
  generalize upd (upd H1 fp (.dK [])) tp (.tup [V.ref fk, V.ref fp]) = H3 at s3 efp3 s13 ⊢
  have W1 := W.same s1
  have W3 := W1.same s13
  have nfp : fp ≠ p := fun w => W1.some (w ▸ hfp)
  have nfk : fk ≠ fp := fun w => by rw [w, hfp] at efk; cases efk
  have hfp0 : H fp = none := s1.free hfp
  refine ⟨_, rfl, fk, kvs, ns, rfl, s13 _ _ efk, ek, lns, fun ys q pm srt hq => ?_⟩
  have s4 := same_new hq (.lst (ys.map V.str))
  have eq4 : upd H3 q (.lst (ys.map V.str)) q = some (.lst (ys.map V.str)) := upd_same
  have W4 := W3.same s4
  have s14 := s13.trans s4
  have efp4 := s4 _ _ efp3
  generalize upd H3 q (.lst (ys.map V.str)) = H4 at s4 eq4 W4 s14 efp4 ⊢
  have nqp : q ≠ p := fun w => W3.some (w ▸ hq)
  have nqf : q ≠ fp := fun w => by rw [w, efp3] at hq; cases hq
  have efk4 := s14 _ _ efk
  have nkp : fk ≠ p := fun w => by
    obtain ⟨_, _, _, _, ew⟩ := W1
    rw [w, ew] at efk
    cases efk
  refine ⟨q, rfl, ⟨_, SqL.of eq4⟩, ?_⟩
  have keep : ∀ {H5 : Hp}, (∀ a o, a ≠ p → a ≠ fp → H4 a = some o → H5 a = some o) → Same (L2.del H p) (L2.del H5 p) := fun {H5} R a o e => by
    have na : a ≠ p := fun w => by rw [w, del_same] at e; cases e
    rw [del_ne na] at e ⊢
    exact R a o na (fun w => by rw [w, hfp0] at e; cases e) (s14 _ _ (s1 _ _ e))
  have t3 : tbN n ≤ tbN 3 := by
    match n, n3 with
    | 0, _ => decide
    | 1, _ => decide
    | 2, _ => decide
    | 3, _ => decide
    | n + 4, h => omega
  refine for_it walk_list (fun i σ H5 => ∃ n7 kvs5 f, σ = [some (.ref p), some v, some z, some (.ref ua), some (.int ((n : Nat) : Int)), some (.ref fk), some (.ref fp), n7, none] ∧ Well H5 p ∧ (∀ a o, a ≠ p → a ≠ fp → H4 a = some o → H5 a = some o) ∧ H5 fp = some (.dK kvs5) ∧ kvs5.length ≤ i ∧ PutD (L2.del H5 p) kvs5 f ∧ ∀ m, trB (f m) = true ∧ psz (f m) ≤ tbN 3 ∧ (f m).depth ≤ 11 ∧ (okT (.str m) = true → okT (f m) = true))
    ⟨none, [], fun m => .tuple [.str "?", .str m], rfl, W4, fun a o _ _ e => e, efp4, Nat.le_refl _, fun m => .inl ⟨rfl, rfl⟩, fun m => ⟨by rw [trB, trH, if_pos rfl]; rfl, by simp [psz, pszs, tbN], by simp [PyData.depth, PyData.depthAll], fun h => okTs_of fun d hd => by
      rcases List.mem_cons.mp hd with w | hd
      · rw [w]; decide +kernel
      · rw [List.mem_singleton.mp hd]; exact h⟩⟩
    (fun i σ H5 _ p => by obtain ⟨_, _, _, _, _, R, _⟩ := p; exact SqL.of (R _ _ nqp nqf eq4)) (fun i y σ H5p H5 hi pp hy => ?_) (fun σ H5 pp => ?_)
  · obtain ⟨rfl, ey⟩ := hy
    obtain ⟨n7, kvs5, f, rfl, W5, R5, ef5, l5, PD5, bf⟩ := pp
    rw [List.getElem?_map] at ey
    obtain ⟨nm, en, rfl⟩ := Option.map_eq_some_iff.mp ey
    obtain ⟨kx, ev, hkx⟩ := own nm (pm.mem_iff.mp (List.mem_of_getElem? en))
    have lys := pm.length_eq
    rw [List.length_map] at hi
    have kxin : kx ∈ kd.map nameOf := by
      obtain ⟨qq, hqq, ls2, e2, hp2⟩ := (pkL_occ epk).mp hkx
      obtain ⟨h1, _⟩ := List.of_mem_zip hqq
      exact pk_kinds mb _ qq.2 qq.1 ls2 (Nat.le_refl _) e2 (hk qq.1 h1) _ hp2
    have dg := DGet.k (k := Sum.inr nm) (R5 _ _ nkp nfk efk4)
    rw [ev] at dg
    refine ⟨_, rfl, _, rfl, _, rfl, _, rfl, fk, _, rfl, dg, _, rfl, n, n3, p, v, kd, md, kx, rfl, W5, hd.mono (keep R5), k1, k2, kxin, few, sm, fun r d H6 W6 b6 hr6 t6 p6 d6 sh6 => ?_⟩
    have ef6 := b6 _ _ nfp ef5
    refine ⟨_, rfl, _, rfl, fp, _, rfl, DPut.k (k := Sum.inr nm) ef6 (by rw [sizeLine_eq]; omega), ?_⟩
    have keepD : ∀ b xs, L2.del H6 p b = some (.tup xs) → L2.del (upd H6 fp (.dK (putK kvs5 (Sum.inr nm) r))) p b = some (.tup xs) := fun b xs w => by
      have nb : b ≠ p := fun w' => by rw [w', del_same] at w; cases w
      rw [del_ne nb] at w ⊢
      exact dict_put ef6 w
    refine ⟨_, putK kvs5 (Sum.inr nm) r, fun m => if m = nm then d else f m, rfl, ?_, fun a o na nb e => ?_, upd_same, Nat.le_trans (putK_le _ _ _) (by omega), fun m => ?_, fun m => ?_⟩
    · obtain ⟨a, m, c, N, ew⟩ := W6
      exact ⟨a, m, c, N, by rw [upd_ne nfp.symm]; exact ew⟩
    · rw [upd_ne nb]
      exact b6 a o na (R5 a o na nb e)
    · rw [valV_put]
      dsimp only
      by_cases c : m = nm
      · subst c
        rw [if_pos rfl, if_pos rfl]
        exact .inr ⟨r, rfl, trD_mono keepD t6 hr6, t6⟩
      · rw [if_neg (fun w => c (Sum.inr.inj w)), if_neg c]
        rcases PD5 m with ⟨h1, h2⟩ | ⟨w, h1, h2, h3⟩
        · exact .inl ⟨h1, h2⟩
        · exact .inr ⟨w, h1, trD_mono keepD h3 (h2.but b6), h3⟩
    · by_cases c : m = nm
      · simp only [if_pos c]; exact ⟨t6, by omega, by omega, fun _ => shB_ok sh6⟩
      · simp only [if_neg c]; exact bf m
  obtain ⟨n7, kvs5, f, rfl, W5, R5, ef5, l5, PD5, bf⟩ := pp
  have kS := keep R5
  have hua5 := kS _ _ hua
  refine ⟨_, rfl, ua, rfl, ⟨_, SqT.of (del_old _ _ hua5)⟩, fun D hD => ?_⟩
  have PDa : PutD H5 kvs5 f := fun m => (PD5 m).imp id fun ⟨w, e, h, t⟩ => ⟨w, e, h.all, t⟩
  have hf : ∀ m, trB (f m) = true := fun m => (bf m).1
  have pzu : psz (.tuple ps) = 1 + pszs ps := by rw [psz]
  refine lc_it walk_tup (fun i H6 => Same H5 H6 ∧ ∃ us, H6 D = some (.lst us) ∧ DdA H6 us ((ps.take i).map (mpD f))) ⟨same_new hD _, [], upd_same, by rw [List.take_zero]; exact .nil⟩ (fun i H6 _ pp => SqT.of (pp.1 _ _ (del_old _ _ hua5))) (fun i y H6p H6 hi pp hy => ?_) (fun H6 pp => ?_)
  · obtain ⟨rfl, ey⟩ := hy
    obtain ⟨s6, us, e6, A6⟩ := pp
    obtain ⟨dd, ed, hdd⟩ := UA.get ey
    have hm := List.mem_of_getElem? ed
    have l6 := A6.length
    rw [List.length_map, List.length_take] at l6
    have h1 := psz_mem ed
    have h2 := psz_take ps (i + 1)
    have h3 := depth_mem hm
    have h4 : (PyData.tuple ps).depth = PyData.depthAll ps + 1 := by rw [PyData.depth]
    refine ⟨rfl, ?_⟩
    refine ⟨_, rfl, _, rfl, y, dd, fp, kvs5, f, rfl, ((hdd.mono kS).all).mono s6, htr dd hm, by omega, by omega, s6 _ _ ef5, PDa.mono s6, fun r H7 s7 hr7 => ?_⟩
    have e7 := s7 _ _ e6
    refine ⟨us, e7, by rw [sizeLine_eq]; omega, same_put (s6.trans s7) hD, us ++ [r], upd_same, ?_⟩
    rw [List.take_add_one, ed, List.map_append]
    have keep7 : ∀ b xs, H7 b = some (.tup xs) → upd H7 D (.lst (us ++ [r])) b = some (.tup xs) := fun b xs w => tup_put e7 w
    have tr : ∀ d ∈ (ps.take i).map (mpD f), trB d = true := fun d hd => by
      obtain ⟨p', hp', rfl⟩ := List.mem_map.mp hd
      exact mpD_tr hf _ p' (Nat.le_refl _) (htr p' (List.mem_of_mem_take hp'))
    exact DdA.append (trA_mono keep7 tr (A6.mono s7)) (.cons (trD_mono keep7 (mpD_tr hf _ dd (Nat.le_refl _) (htr dd hm)) hr7) .nil)
  · obtain ⟨s6, us, e6, A6⟩ := pp
    rw [lu, List.take_length] at A6
    refine ⟨D, us, rfl, .inl ⟨SqL.of e6, fun tt htt => ?_⟩⟩
    have W6 := W5.same s6
    have W7 := W6.new (o := .tup us) htt
    have ntp : tt ≠ p := fun w => W6.some (w ▸ htt)
    have tr : ∀ d ∈ ps.map (mpD f), trB d = true := fun d hd => by
      obtain ⟨p', hp', rfl⟩ := List.mem_map.mp hd
      exact mpD_tr hf _ p' (Nat.le_refl _) (htr p' hp')
    have s7 : Same H6 (upd H6 tt (.tup us)) := same_new htt _
    refine k _ (ps.map (mpD f)) _ W7 (fun a o na e => ?_) (.tup (del_new ntp) (trA_mono (fun b xs w => ?_) tr (A6.mono s7))) (List.length_map _) tr (fun d hd => ?_) (fun d hd => ?_) (fun d hd => by
      obtain ⟨p', hp', rfl⟩ := List.mem_map.mp hd
      exact mpD_ok (fun m => (bf m).2.2.2) _ p' (Nat.le_refl _) (htr p' hp') (okTs_mem okd p' hp'))
    · exact s7 _ _ (s6 _ _ (R5 a o na (fun w => by rw [w, hfp0] at e; cases e) (s14 _ _ (s1 _ _ e))))
    · have nb : b ≠ p := fun w' => by
        obtain ⟨_, _, _, _, ew⟩ := W7
        rw [w', ew] at w
        cases w
      rw [del_ne nb]
      exact w
    · obtain ⟨p', hp', rfl⟩ := List.mem_map.mp hd
      obtain ⟨i, ei⟩ := List.mem_iff_getElem?.mp hp'
      have h1 := psz_mem ei
      have h2 := psz_take ps (i + 1)
      refine Nat.le_trans (mpD_psz (B := tbN 3) (by decide) (fun m => (bf m).2.1) _ p' (Nat.le_refl _) (htr p' hp')) (Nat.mul_le_mul_right _ (by omega))
    · obtain ⟨p', hp', rfl⟩ := List.mem_map.mp hd
      have h3 := depth_mem hp'
      have h4 : (PyData.tuple ps).depth = PyData.depthAll ps + 1 := by rw [PyData.depth]
      have := mpD_depth (D := 11) (fun m => (bf m).2.2.1) _ p' (Nat.le_refl _) (htr p' hp')
      omega

end

section
variable {P : Program} {w : World} {K : PySem.W.Frag} {mg : Str → Option Value} {base : Heap}
/-- _law_mixed(well, some), some a list -/
def spMixedL : Sp := fun vs H Q _ => ∃ (p t : Addr) (xs : List V) (ds : List PyData), vs = [.ref p, .ref t] ∧ Well H p ∧ H t = some (.lst xs) ∧ t ≠ p ∧ DdA (L2.del H p) xs ds ∧ (∀ d ∈ ds, shB 20 d = true) ∧ ds.length ≤ 1000 ∧
  ∀ (l : Addr) (ys : List V) (es : List PyData) (H' : Hp), Well H' p → But p H H' → l ≠ p → H l = none → H' l = some (.lst ys) → DdA (L2.del H' p) ys es → es.Perm ds → Q (.ref l) H'
theorem ok_mixedL (D : Df K mg "_law_mixed" s_mixed) (B : Bi mg) (G1 : Gd P w K mg base CX0 1 "_law_draw" ["well", "few"] spDraw) : Gd P w K mg base CX0 2 "_law_mixed" ["well", "some"] spMixedL := by
  refine gd_of D (fun _ _ _ _ _ _ us hl => match us, hl with | [_, _], _ => rfl) fun f fd F => ?_
  refine fun_q F sc_mixed (fun vs H Q E h => by obtain ⟨p, t, xs, ds, rfl, _⟩ := h; rfl) (fun cdv A outer s H vs Q E hr hq h => ?_)
  obtain ⟨p, t, xs, ds, rfl, W, ht, ntp, A, sh, lz, k⟩ := h
  have la := A.length
  refine ⟨_, (pss_cons (ps_par (i := 2) (j := 3) (by rfl) sc_mixed.nd rfl rfl (by decide) rfl rfl (pa_cons (pe_callTy call_list_of (by rfl) B.list (by decide +kernel) (pa_cons (pv 1) pa_nil)) (pa_cons (pe_lst pa_nil) pa_nil)) (by rfl))
      (pss_cons (ps_while PassesOwn.never (pt_cmpR (op_neD hr.units) (pv 2) (pe_lst pa_nil) (nomark _)) (pss_one (ps_expr (pe_bm PySem.F.plainAttrs_list PySem.F.slot_list_append PySem.F.type_list_append mt_append (pv 3) (pa_cons (pe_bm PySem.F.plainAttrs_list PySem.F.slot_list_pop PySem.F.type_list_pop mt_popAt (pv 2) (pa_cons (pe_g G1 hr hq (pa_cons (pv 0) (pa_cons (pe_callB call_len_seq (by rfl) B.len (by decide +kernel) (pa_cons (pv 2) pa_nil)) pa_nil))) pa_nil)) pa_nil)))))
      (pss_one (ps_ret (pv 3))))), ?_⟩
  walk_at "rd"
  refine ⟨t, xs, rfl, .inl (SqL.of ht), fun a ha => ?_⟩
  refine ⟨by show 0 ≤ sizeLine; exact Nat.zero_le _, fun b hb => ?_⟩
  have nba : b ≠ a := fun z => by rw [z, upd_same] at hb; cases hb
  have hb0 : H b = none := by rw [upd_ne nba] at hb; exact hb
  have npa : a ≠ p := fun z => W.some (z ▸ ha)
  have npb : b ≠ p := fun z => W.some (z ▸ hb0)
  refine ⟨_, _, rfl, ?_⟩
  refine ⟨fun m σ H1 => ∃ ls fs lds fds, σ = [some (.ref p), some (.ref t), some (.ref a), some (.ref b)] ∧ m = ls.length ∧ Well H1 p ∧ But p H H1 ∧ H1 a = some (.lst ls) ∧ H1 b = some (.lst fs) ∧ DdA (L2.del H p) ls lds ∧ DdA (L2.del H p) fs fds ∧ (fds ++ lds).Perm ds,
    ⟨_, xs, [], ds, [], rfl, rfl, (W.new ha).new hb, (But.refl.at ha).at hb0, by rw [upd_ne nba.symm, upd_same], upd_same, A, .nil, List.Perm.refl _⟩, ?_⟩
  rintro m σ H1 ⟨ls, fs, lds, fds, rfl, rfl, W1, bt, ea, eb, LA, FA, pm⟩
  have ll := LA.length
  have lf := FA.length
  have lp := pm.length_eq
  rw [List.length_append] at lp
  walk_at "rd"
  refine fun c hc => ?_
  have ea2 : upd H1 c (.lst []) a = some (.lst ls) := by rw [upd_ne (ne_of_none ea hc)]; exact ea
  have mem : ∀ d ∈ lds, shB 20 d = true := fun d hd => sh d (pm.mem_iff.mp (List.mem_append_right _ hd))
  refine ⟨.list lds, .list [], .lst (SqL.of ea2) (DdA.dp mem ((LA.but (bt.new hc)).all)), .lst (SqL.of upd_same) .nil, list_shaped mem (by decide), rfl, ?_⟩
  refine ⟨_, rfl, ?_⟩
  cases lds with
  | nil =>
    cases LA
    refine iteF ?_
    walk_at "rd"
    refine k b fs fds _ (W1.new hc) (bt.new hc) npb hb0 (by rw [upd_ne (ne_of_none eb hc)]; exact eb) (FA.but (bt.new hc)) ?_
    rw [List.append_nil] at pm
    exact pm
  | cons d0 lds =>
  have pos : 0 < ls.length := by rw [ll]; exact Nat.succ_pos _
  refine iteT ⟨fun σ' H' => ∃ m', m' < ls.length ∧ ∃ ls fs lds fds, σ' = [some (.ref p), some (.ref t), some (.ref a), some (.ref b)] ∧ m' = ls.length ∧ Well H' p ∧ But p H H' ∧ H' a = some (.lst ls) ∧ H' b = some (.lst fs) ∧ DdA (L2.del H p) ls lds ∧ DdA (L2.del H p) fs fds ∧ (fds ++ lds).Perm ds, fun _ _ z => z, ?_⟩
  have eb2 : upd H1 c (.lst []) b = some (.lst fs) := by rw [upd_ne (ne_of_none eb hc)]; exact eb
  have W2 := W1.new (o := .lst []) hc
  have bt2 := bt.new (o := .lst []) hc
  refine ⟨_, rfl, .inl ⟨rfl, _, SqL.of eb2⟩, ?_⟩
  refine ⟨_, rfl, .inl ⟨rfl, _, SqL.of ea2⟩, ?_⟩
  refine ⟨_, rfl, _, rfl, _, _, rfl, .inl (SqL.of ea2), p, _, rfl, W2, by omega, by omega, fun n H3 n0 n1 W3 b3 => ?_⟩
  have hn : n.toNat < ls.length := by omega
  have en : n = ((n.toNat : Nat) : Int) := by omega
  have ea3 := b3 _ _ npa ea2
  have eb3 := b3 _ _ npb eb2
  have bt3 := bt2.trans b3
  obtain ⟨d, ed, hd⟩ := LA.get (List.getElem?_eq_getElem hn)
  refine ⟨a, ls, n, n.toNat, _, rfl, rfl, ea3, by omega, by omega, by rw [en]; exact seqIx_nat hn, List.getElem?_eq_getElem hn, ?_⟩
  refine ⟨b, fs, _, rfl, rfl, by rw [upd_ne nba]; exact eb3, by rw [sizeLine_eq]; omega, ?_⟩
  refine ⟨_, ?_, ls.eraseIdx n.toNat, fs ++ [ls[n.toNat]], _, fds ++ [d], rfl, rfl, ?_, (bt3.at ha).at hb0, ?_, upd_same, LA.erase n.toNat, FA.append (.cons hd .nil), perm_turn pm ed⟩
  · rw [List.length_eraseIdx_of_lt hn]
    omega
  · obtain ⟨x, y, z, N, e⟩ := W3
    exact ⟨x, y, z, N, by rw [upd_ne npb.symm, upd_ne npa.symm]; exact e⟩
  · rw [upd_ne nba.symm, upd_same]

end

theorem op_notIn_seqK {X : Cx} {K : PySem.W.Frag} (h : X.K = K) : OpR X (compareOp .NotIn) (rIn K true) := h ▸ op_notIn_seq
theorem num31_all : ∀ n : Fin 32, ((toString ((n : Nat) : Int) : String) : Str).length ≤ 10 ∧ ((n : Nat) : Int).natAbs.log2 < 1920 := by decide +kernel
theorem num31 {k : Int} (h0 : 0 ≤ k) (h1 : k < 32) : ((toString k : String) : Str).length ≤ 10 ∧ k.natAbs.log2 < 1920 := by
  have h := num31_all ⟨k.toNat, by omega⟩
  have e : ((k.toNat : Nat) : Int) = k := by omega
  simp only [e] at h
  exact h
theorem once_sub : ∀ (xs L : List Str) (m : Str), m ∈ once L xs ↔ m ∈ L ∨ m ∈ xs
  | [], L, m => by simp [once]
  | x :: xs, L, m => by
    rw [once, once_sub xs]
    unfold ins
    by_cases c : x ∈ L
    · rw [if_pos c, List.mem_cons]
      constructor
      · rintro (h | h)
        · exact .inl h
        · exact .inr (.inr h)
      · rintro (h | h | h)
        · exact .inl h
        · exact .inl (h ▸ c)
        · exact .inr h
    · rw [if_neg c, List.mem_cons, List.mem_cons]
      constructor
      · rintro ((h | h) | h)
        · exact .inr (.inl h)
        · exact .inl h
        · exact .inr (.inr h)
      · rintro (h | h | h)
        · exact .inl (.inr h)
        · exact .inl (.inl h)
        · exact .inr h

section
variable {P : Program} {w : World} {K : PySem.W.Frag} {mg : Str → Option Value} {base : Heap}

/-- _law_shuffled(well, patterns), of patterns as they should be -/
def spShuf : Sp := fun vs H Q _ => ∃ (p : Addr) (u : V) (ps : List PyData), vs = [.ref p, u] ∧ Well H p ∧ Dd (L2.del H p) u (.tuple ps) ∧ (∀ d ∈ ps, trB d = true) ∧ (PyData.tuple ps).depth ≤ 40 ∧ psz (.tuple ps) ≤ 1000 ∧ okT (.tuple ps) = true ∧ (ps.flatMap nmD).length < 30 ∧ (∀ m ∈ ps.flatMap nmD, shB 20 (.str m) = true) ∧
  ∀ (r : V) (ds : List PyData) (H' : Hp), Well H' p → But p H H' → Dd (L2.del H' p) r (.tuple ds) → ds.length = ps.length → (∀ d ∈ ds, trB d = true) → (∀ d ∈ ds, psz d ≤ 3000) → (∀ d ∈ ds, d.depth ≤ 45) → (∀ d ∈ ds, okT d = true) → Q r H'
theorem sc_shuffled : FnScope ["well", "patterns", "names", "found", "part", "name"] ["well", "patterns"] (defScope s_shuffled) := ⟨rfl, rfl, rfl, by decide +kernel, rfl, by decide +kernel, by decide +kernel⟩
theorem ok_shuffled (D : Df K mg "_law_shuffled" s_shuffled) (B : Bi mg) (G1 : Gd P w K mg base CX0 46 "_law_names" ["term"] (spNamesL 45)) (G2 : Gd P w K mg base CX0 2 "_law_mixed" ["well", "some"] spMixedL) (G3 : Gd P w K mg base CX0 46 "_law_swapped" ["term", "names"] (spSwapped 45)) : Gd P w K mg base CX0 50 "_law_shuffled" ["well", "patterns"] spShuf := by
  refine gd_of D (fun _ _ _ _ _ _ us hl => match us, hl with | [_, _], _ => rfl) fun f fd F => ?_
  refine fun_q F sc_shuffled (fun vs H Q E h => by obtain ⟨p, u, ps, rfl, _⟩ := h; rfl) (fun cdv A outer s H vs Q E hr hq h => ?_)
  obtain ⟨p, u, ps, rfl, W, hu, htr, dep, lsz, okd, lnm, shn, k⟩ := h
  refine ⟨_, (pss_cons (ps_asg (pe_tup (pa_cons pe_dnewK (pa_cons (pe_lst pa_nil) pa_nil))) (pg_tup rfl (pgs_cons (pg_name (i := 2) sc_shuffled.nd rfl (Or.inr rfl)) (pgs_cons (pg_name (i := 3) sc_shuffled.nd rfl (Or.inr rfl)) pgs_nil))))
      (pss_cons (ps_for PassesOwn.never rfl (pi_tup (pv 1)) (pg_name (i := 4) sc_shuffled.nd rfl (Or.inl rfl)) (pss_one (ps_set (i := 3) sc_shuffled.nd rfl (Or.inr rfl) (pe_op op_cat (pv 3) (pe_lc (own := [("name", 5)]) (g := (gName 5)) rfl sc_shuffled.nd (pi_list (pe_g (G1.mono (by decide)) hr hq (pa_cons (pv 4) pa_nil))) (blkOk_by (own := [("name", 5)]) (N := ["well", "patterns", "names", "found", "part", "name"]) (sc := defScope s_shuffled) (by decide +kernel)) (fun _ _ _ _ _ => (pg_name (i := 5) sc_shuffled.nd rfl (Or.inl rfl))) (fun _ _ _ _ _ => (pts_one (pt_cmpR (op_notIn_seqK (K := K) rfl) (pv 5) (pv 3) (by rfl)))) (fun _ _ _ _ _ => (pv 5)))))))
      (pss_cons (ps_for PassesOwn.never rfl (pi_list (pe_g (G2.mono (by decide)) hr hq (pa_cons (pv 0) (pa_cons (pe_callB (cr_sortTx rfl) (by rfl) B.sorted (by decide +kernel) (pa_cons (pe_callTy (cr_setS rfl) (by rfl) B.set (by decide +kernel) (pa_cons (pv 3) pa_nil)) pa_nil)) pa_nil)))) (pg_name (i := 5) sc_shuffled.nd rfl (Or.inl rfl)) (pss_one (ps_dput (hu_of hr) (pv 2) (pv 5) (pe_op op_add_str pe_str (pe_callTy call_str_int (by rfl) B.str (by decide +kernel) (pa_cons (pe_op op_add (pe_callB call_lenD (by rfl) B.len (by decide +kernel) (pa_cons (pv 2) pa_nil)) pe_int) pa_nil))) rfl)))
      (pss_one (ps_ret (pe_callTy call_tuple_of (by rfl) B.tuple (by decide +kernel) (pa_cons (pe_lc (own := [("part", 4)]) (g := (gName 4)) (tt := tYes) rfl sc_shuffled.nd (pi_tup (pv 1)) (blkOk_by (own := [("part", 4)]) (N := ["well", "patterns", "names", "found", "part", "name"]) (sc := defScope s_shuffled) (by decide +kernel)) (fun _ _ _ _ _ => (pg_name (i := 4) sc_shuffled.nd rfl (Or.inl rfl))) (fun _ _ _ _ _ => pts_nil) (fun _ _ _ _ _ => (pe_g (G3.mono (by decide)) hr hq (pa_cons (pv 4) (pa_cons (pv 2) pa_nil))))) pa_nil))))))), ?_⟩
  obtain ⟨ua, ux, rfl, hua, UA⟩ := hu.tupD
  have lu := UA.length
  have pzu : psz (.tuple ps) = 1 + pszs ps := by rw [psz]
  have h4 : (PyData.tuple ps).depth = PyData.depthAll ps + 1 := by rw [PyData.depth]
  refine fun fp hfp => ?_
  refine ⟨by show 0 ≤ sizeLine; exact Nat.zero_le _, fun q0 hq0 => ?_⟩
  refine ⟨by show 2 ≤ sizeLine; rw [sizeLine_eq]; decide, fun tp htp => ?_⟩
  have s1 : Same H (upd H fp (.dK [])) := same_new hfp _
  have s2 := same_new hq0 (.lst [])
  have s3 := same_new htp (.tup [V.ref fp, V.ref q0])
  refine ⟨tp, _, rfl, SqT.of upd_same, rfl, _, _, rfl, _, _, rfl, rfl, ?_⟩
  have efp := s3 _ _ (s2 _ _ (upd_same : upd H fp (.dK []) fp = some (.dK [])))
  have eq0 := s3 _ _ (upd_same : upd (upd H fp (.dK [])) q0 (.lst []) q0 = some (.lst []))
  have s03 := s1.trans (s2.trans s3)
  generalize upd (upd (upd H fp (.dK [])) q0 (.lst [])) tp (.tup [V.ref fp, V.ref q0]) = H1 at s3 efp eq0 s03 ⊢
  have W1 := W.same s03
  have nfp : fp ≠ p := fun w => W.some (w ▸ hfp)
  have hua1 := s03 _ _ (del_old _ _ hua)
  refine ⟨_, rfl, ua, rfl, ⟨_, SqT.of hua1⟩, ?_⟩
  refine for_it walk_tup (fun i σ H2 => ∃ q n4 n5 L, σ = [some (.ref p), some (.ref ua), some (.ref fp), some (.ref q), n4, n5] ∧ Same H1 H2 ∧ H2 q = some (.lst ((L : List Str).map V.str)) ∧ L.length ≤ ((ps.take i).flatMap nmD).length ∧ ∀ m, m ∈ L ↔ m ∈ (ps.take i).flatMap nmD)
    ⟨q0, none, none, [], rfl, Same.refl _, eq0, Nat.zero_le _, by simp⟩ (fun i σ H2 _ pp => by obtain ⟨_, _, _, _, _, s, _⟩ := pp; exact SqT.of (s _ _ hua1)) (fun i y σ H2p H2 hi pp hy => ?_) (fun σ H2 pp => ?_)
  · obtain ⟨rfl, ey⟩ := hy
    obtain ⟨q, n4, n5, L, rfl, s2, eL, lL, iL⟩ := pp
    obtain ⟨dd, ed, hdd⟩ := UA.get ey
    have hm := List.mem_of_getElem? ed
    have h1 := psz_mem ed
    have h2 := psz_take ps (i + 1)
    have h3 := depth_mem hm
    have et : (ps.take (i + 1)).flatMap nmD = (ps.take i).flatMap nmD ++ nmD dd := by rw [List.take_add_one, ed, List.flatMap_append]; simp
    refine ⟨_, rfl, ?_⟩
    refine ⟨_, rfl, y, dd, rfl, hdd.all.mono (s03.trans s2), htr dd hm, by omega, by omega, fun nq H3 hnq s3' en => ?_⟩
    refine ⟨nq, rfl, ⟨_, SqL.of en⟩, fun D hD => ?_⟩
    have ln := nm_len _ dd (Nat.le_refl _) (htr dd hm)
    refine lc_it walk_list (fun j H5 => Same H3 H5 ∧ ∃ M : List Str, H5 D = some (.lst (M.map V.str)) ∧ M.length ≤ j ∧ ∀ m, m ∈ M ↔ (m ∈ (nmD dd).take j ∧ m ∉ L)) ⟨same_new hD _, [], upd_same, Nat.le_refl _, by simp⟩ (fun j H5 _ pp => SqL.of (pp.1 _ _ en)) (fun j y9 H5p H5 hj pg hy9 => ?_) (fun H5 pg => ?_)
    · obtain ⟨rfl, ey9⟩ := hy9
      obtain ⟨s5, M, e5, lM, iM⟩ := pg
      rw [List.getElem?_map] at ey9
      obtain ⟨x, ex, rfl⟩ := Option.map_eq_some_iff.mp ey9
      rw [List.length_map] at hj
      have ek : (nmD dd).take (j + 1) = (nmD dd).take j ++ [x] := by rw [List.take_add_one, ex]; rfl
      refine ⟨rfl, ?_⟩
      refine ⟨_, rfl, _, rfl, q, _, rfl, .inl (SqL.of ((s3'.trans s5) _ _ eL)), rfl, flat_strs' _, _, rfl, ?_⟩
      show if (!inV (.str x) (L.map V.str)) = true then _ else _
      rw [inV_strs]
      by_cases c : x ∈ L
      · rw [decide_eq_true c]
        refine ⟨s5, M, e5, by omega, fun m => ?_⟩
        rw [iM m, ek, List.mem_append]
        constructor
        · exact fun w => ⟨.inl w.1, w.2⟩
        · rintro ⟨w | w, w2⟩
          · exact ⟨w, w2⟩
          · rw [List.mem_singleton.mp w] at w2
            exact absurd c w2
      · rw [decide_eq_false c]
        refine ⟨_, rfl, _, e5, by rw [sizeLine_eq, List.length_map]; omega, same_put s5 hD, M ++ [x], by rw [upd_same, List.map_append]; rfl, by rw [List.length_append]; exact Nat.succ_le_succ lM, fun m => ?_⟩
        rw [List.mem_append, iM m, ek, List.mem_append]
        constructor
        · rintro (w | w)
          · exact ⟨.inl w.1, w.2⟩
          · rw [List.mem_singleton.mp w]; exact ⟨.inr (List.mem_singleton_self _), c⟩
        · rintro ⟨w | w, w2⟩
          · exact .inl ⟨w, w2⟩
          · exact .inr w
    · obtain ⟨s5, M, e5, lM, iM⟩ := pg
      rw [List.length_map] at lM iM
      rw [List.take_length] at iM
      have lall : ((ps.take i).flatMap nmD).length ≤ (ps.flatMap nmD).length := by
        conv => rhs; rw [← List.take_append_drop i ps]
        rw [List.flatMap_append, List.length_append]
        omega
      refine ⟨q, D, _, _, rfl, rfl, (s3'.trans s5) _ _ eL, e5, by rw [sizeLine_eq, List.length_map, List.length_map]; omega, fun r hr => ?_⟩
      refine ⟨r, _, _, L ++ M, rfl, s2.trans ((s3'.trans s5).trans (same_new hr _)), by rw [upd_same, List.map_append], by rw [et, List.length_append, List.length_append]; omega, fun m => ?_⟩
      rw [et, List.mem_append, List.mem_append, iL m, iM m]
      constructor
      · rintro (w | w)
        · exact .inl w
        · exact .inr w.1
      · rintro (w | w)
        · exact .inl w
        · by_cases c : m ∈ L
          · exact .inl ((iL m).mp c)
          · exact .inr ⟨w, c⟩
  obtain ⟨q, n4, n5, L, rfl, s2, eL, lL, iL⟩ := pp
  rw [lu, List.take_length] at lL iL
  have W2 := W1.same s2
  have sc : (64 : Nat) < scanBound := by decide
  have lo := once_len L []
  rw [List.length_nil, Nat.zero_add] at lo
  refine ⟨_, rfl, _, rfl, q, L, rfl, SqL.of eL, by omega, fun ps0 hps0 => ?_⟩
  have s3a := same_new hps0 (TxO w ps0 (once [] L))
  refine ⟨ps0, once [] L, rfl, upd_same, by omega, fun ys q2 pm srt hq2 => ?_⟩
  have s4 := same_new hq2 (.lst (ys.map V.str))
  have eq2 : upd (upd H2 ps0 (TxO w ps0 (once [] L))) q2 (.lst (ys.map V.str)) q2 = some (.lst (ys.map V.str)) := upd_same
  have W4 := (W2.same s3a).same s4
  have n2p : q2 ≠ p := fun w' => (W2.same s3a).some (w' ▸ hq2)
  have s24 := s3a.trans s4
  have mem : ∀ m, m ∈ ys ↔ m ∈ ps.flatMap nmD := fun m => by
    rw [pm.mem_iff, once_sub, ← iL m]
    simp
  have lys : ys.length < 30 := by rw [pm.length_eq]; omega
  refine ⟨p, q2, ys.map V.str, ys.map PyData.str, rfl, W4, eq2, n2p, DdA.ofStrs _, fun d hd => ?_, by rw [List.length_map]; omega, fun l zs es H5 W5 b5 nl hl el Az pmz => ?_⟩
  · obtain ⟨m, hm, rfl⟩ := List.mem_map.mp hd
    exact shn m ((mem m).mp hm)
  have b25 : But p H2 H5 := (Same.but s24).trans b5
  have b15 : But p H1 H5 := (Same.but s2).trans b25
  have efp5 := b15 _ _ nfp efp
  have efpL : l ≠ fp := fun w' => by rw [w', efp5] at el; cases el
  have memz : ∀ e, e ∈ es ↔ e ∈ ys.map PyData.str := fun e => pmz.mem_iff
  obtain ⟨xs, rfl⟩ : ∃ xs : List Str, es = xs.map PyData.str := ⟨es.map strD, by
    rw [List.map_map]
    refine (List.map_id es).symm.trans (List.map_congr_left fun e he => ?_)
    obtain ⟨m, _, rfl⟩ := List.mem_map.mp ((memz e).mp he)
    rfl⟩
  obtain rfl := Az.strs
  have lxs : xs.length = ys.length := by have := pmz.length_eq; simpa using this
  have memx : ∀ m ∈ ps.flatMap nmD, m ∈ xs := fun m hm => by
    have := (memz (.str m)).mpr (List.mem_map.mpr ⟨m, (mem m).mpr hm, rfl⟩)
    obtain ⟨m', h', e⟩ := List.mem_map.mp this
    cases e
    exact h'
  have hfp5 : ∀ {a : Addr} {o : HO}, H a = some o → a ≠ fp := fun {a o} e w' => by rw [w', hfp] at e; cases e
  refine ⟨l, rfl, ⟨_, SqL.of el⟩, ?_⟩
  refine for_it walk_list (fun i σ H6 => ∃ n4 n5 kvs6 sg, σ = [some (.ref p), some (.ref ua), some (.ref fp), some (.ref q), n4, n5] ∧ Well H6 p ∧ (∀ a o, a ≠ fp → H5 a = some o → H6 a = some o) ∧ H6 fp = some (.dK kvs6) ∧ kvs6.length ≤ i ∧ (∀ m ∈ xs.take i, valV kvs6 (Sum.inr m) = some (.str ((sg : Str → Str) m))) ∧ ∀ m, okT (.str m) = true → okT (.str (sg m)) = true)
    ⟨_, _, [], id, rfl, W5, fun a o _ e => e, efp5, Nat.le_refl _, by simp, fun m h => h⟩ (fun i σ H6 _ pp => by obtain ⟨_, _, _, _, _, _, R, _⟩ := pp; exact SqL.of (R _ _ efpL el)) (fun i y σ H6p H6 hi pp hy => ?_) (fun σ H6 pp => ?_)
  · obtain ⟨rfl, ey⟩ := hy
    obtain ⟨n4', n5', kvs6, sg, rfl, W6, R6, ef6, l6, iv, og⟩ := pp
    rw [List.getElem?_map] at ey
    obtain ⟨x, ex, rfl⟩ := Option.map_eq_some_iff.mp ey
    rw [List.length_map] at hi
    refine ⟨_, rfl, fp, kvs6, rfl, ef6, ?_⟩
    walk_at "rd"
    have nn := num31 (k := (kvs6.length : Nat) + 1) (by omega) (by omega)
    refine ⟨nn.2, ?_⟩
    refine ⟨_, _, rfl, rfl, by rw [sizeLine_eq]; have : ("v" : Str).length = 1 := rfl; have := nn.1; omega, ?_⟩
    refine ⟨_, rfl, _, rfl, fp, _, rfl, DPut.k (k := Sum.inr x) ef6 (by rw [sizeLine_eq]; omega), ?_⟩
    generalize env : (("v" : Str) ++ _) = nv
    have onv : okT (.str nv) = true := by
      rw [← env]
      exact decide_eq_true (by rw [Str.length_append]; have : ("v" : Str).length = 1 := rfl; have := nn.1; omega)
    refine ⟨_, _, putK kvs6 (Sum.inr x) (.str nv), fun m => if m = x then nv else sg m, rfl, ?_, fun a o na e => ?_, upd_same, Nat.le_trans (putK_le _ _ _) (by omega), fun m hm => ?_, fun m ho => by
      show okT (.str (if m = x then nv else sg m)) = true
      split
      · exact onv
      · exact og m ho⟩
    · obtain ⟨a, m, c, N, ew⟩ := W6
      exact ⟨a, m, c, N, by rw [upd_ne nfp.symm]; exact ew⟩
    · rw [upd_ne na]
      exact R6 a o na e
    · rw [valV_put]
      dsimp only
      by_cases c : m = x
      · rw [if_pos (by rw [c]), if_pos c]
      · rw [if_neg (fun w => c (Sum.inr.inj w)), if_neg c]
        rw [List.take_add_one, ex] at hm
        rcases List.mem_append.mp hm with w | w
        · exact iv m w
        · exact absurd (List.mem_singleton.mp w) c
  obtain ⟨n4', n5', kvs6, sg, rfl, W6, R6, ef6, l6, iv, og⟩ := pp
  rw [List.length_map, List.take_length] at iv
  have pl : ∀ ps : List PyData, ps.length ≤ pszs ps := fun ps => by
    induction ps with
    | nil => exact Nat.zero_le _
    | cons p ps ih => rw [pszs, List.length_cons]; have := psz_pos p; omega
  have pl := pl ps
  have kS : Same (L2.del H p) (L2.del H6 p) := fun a o e => by
    have na : a ≠ p := fun w => by rw [w, del_same] at e; cases e
    rw [del_ne na] at e ⊢
    exact R6 a o (hfp5 e) (b15 a o na (s03 _ _ e))
  have hua6 := kS _ _ hua
  refine ⟨_, rfl, ua, rfl, ⟨_, SqT.of (del_old _ _ hua6)⟩, fun D hD => ?_⟩
  have hf : ∀ m, trB (varS sg m) = true := fun m => by show trB (.tuple [.str "?", .str (sg m)]) = true; rw [trB, trH, if_pos rfl]; rfl
  refine lc_it walk_tup (fun i H7 => Same H6 H7 ∧ ∃ us, H7 D = some (.lst us) ∧ DdA H7 us ((ps.take i).map (mpD (varS sg)))) ⟨same_new hD _, [], upd_same, by rw [List.take_zero]; exact .nil⟩ (fun i H7 _ pp => SqT.of (pp.1 _ _ (del_old _ _ hua6))) (fun i y H7p H7 hi pp hy => ?_) (fun H7 pp => ?_)
  · obtain ⟨rfl, ey⟩ := hy
    obtain ⟨s7, us, e7, A7⟩ := pp
    obtain ⟨dd, ed, hdd⟩ := UA.get ey
    have hm := List.mem_of_getElem? ed
    have l7 := A7.length
    rw [List.length_map, List.length_take] at l7
    have h1 := psz_mem ed
    have h2 := psz_take ps (i + 1)
    have h3 := depth_mem hm
    refine ⟨rfl, ?_⟩
    refine ⟨_, rfl, _, rfl, y, dd, fp, kvs6, sg, rfl, ((hdd.mono kS).all).mono s7, htr dd hm, by omega, by omega, s7 _ _ ef6, fun m hmm => iv m (memx m (List.mem_flatMap.mpr ⟨dd, hm, hmm⟩)), fun r H8 s8 hr8 => ?_⟩
    have e8 := s8 _ _ e7
    refine ⟨us, e8, by rw [sizeLine_eq]; omega, same_put (s7.trans s8) hD, us ++ [r], upd_same, ?_⟩
    rw [List.take_add_one, ed, List.map_append]
    have keep8 : ∀ b xs, H8 b = some (.tup xs) → upd H8 D (.lst (us ++ [r])) b = some (.tup xs) := fun b xs w => tup_put e8 w
    have tr : ∀ d ∈ (ps.take i).map (mpD (varS sg)), trB d = true := fun d hd => by
      obtain ⟨p', hp', rfl⟩ := List.mem_map.mp hd
      exact mpD_tr hf _ p' (Nat.le_refl _) (htr p' (List.mem_of_mem_take hp'))
    exact DdA.append (trA_mono keep8 tr (A7.mono s8)) (.cons (trD_mono keep8 (mpD_tr hf _ dd (Nat.le_refl _) (htr dd hm)) hr8) .nil)
  · obtain ⟨s7, us, e7, A7⟩ := pp
    rw [lu, List.take_length] at A7
    refine ⟨D, us, rfl, .inl ⟨SqL.of e7, fun tt htt => ?_⟩⟩
    have W7 := W6.same s7
    have W8 := W7.new (o := .tup us) htt
    have ntp : tt ≠ p := fun w => W7.some (w ▸ htt)
    have tr : ∀ d ∈ ps.map (mpD (varS sg)), trB d = true := fun d hd => by
      obtain ⟨p', hp', rfl⟩ := List.mem_map.mp hd
      exact mpD_tr hf _ p' (Nat.le_refl _) (htr p' hp')
    have s8 : Same H7 (upd H7 tt (.tup us)) := same_new htt _
    refine k _ (ps.map (mpD (varS sg))) _ W8 (fun a o na e => ?_) (.tup (del_new ntp) (trA_mono (fun b xs w => ?_) tr (A7.mono s8))) (List.length_map _) tr (fun d hd => ?_) (fun d hd => ?_) (fun d hd => by
      obtain ⟨p', hp', rfl⟩ := List.mem_map.mp hd
      exact mpD_ok (f := varS sg) (fun m ho => okTs_of fun d hd => by
        rcases List.mem_cons.mp hd with w | hd
        · rw [w]; decide +kernel
        · rw [List.mem_singleton.mp hd]; exact og m ho) _ p' (Nat.le_refl _) (htr p' hp') (okTs_mem okd p' hp'))
    · exact s8 _ _ (s7 _ _ (R6 a o (hfp5 e) (b15 a o na (s03 _ _ e))))
    · have nb : b ≠ p := fun w' => by
        obtain ⟨_, _, _, _, ew⟩ := W8
        rw [w', ew] at w
        cases w
      rw [del_ne nb]
      exact w
    · obtain ⟨p', hp', rfl⟩ := List.mem_map.mp hd
      obtain ⟨i, ei⟩ := List.mem_iff_getElem?.mp hp'
      have h1 := psz_mem ei
      have h2 := psz_take ps (i + 1)
      have := mpD_psz (f := varS sg) (B := 3) (by decide) (fun m => by simp [varS, psz, pszs]) _ p' (Nat.le_refl _) (htr p' hp')
      omega
    · obtain ⟨p', hp', rfl⟩ := List.mem_map.mp hd
      have h3 := depth_mem hp'
      have := mpD_depth (f := varS sg) (D := 1) (fun m => by simp [varS, PyData.depth, PyData.depthAll]) _ p' (Nat.le_refl _) (htr p' hp')
      omega

end

/-! ### rows of sizes, and what they make -/
def splC (f : Str → Nat → Bool) : List Str → Nat → List (List Nat)
  | [], t => if t = 0 then [[]] else []
  | k :: ks, t => (List.range t).flatMap fun i => if f k (i + 1) = true then (splC f ks (t - (i + 1))).map fun r => (i + 1) :: r else []
def prd (T : Str → Nat → List PyData) : List (Str × Nat) → List (List PyData)
  | [] => [[]]
  | q :: qs => (T q.1 q.2).flatMap fun t => (prd T qs).map fun r => t :: r
theorem flat_perm {α β : Type} {l : List α} {f g : α → List β} (h : ∀ a ∈ l, (f a).Perm (g a)) : (l.flatMap f).Perm (l.flatMap g) := by
  induction l with
  | nil => exact List.Perm.refl _
  | cons a l ih =>
    rw [List.flatMap_cons, List.flatMap_cons]
    exact (h a (List.mem_cons_self ..)).append (ih fun b hb => h b (List.mem_cons_of_mem _ hb))
theorem flat_split {α β : Type} {l : List α} {f g : α → List β} : (l.flatMap fun a => f a ++ g a).Perm (l.flatMap f ++ l.flatMap g) := by
  induction l with
  | nil => exact List.Perm.refl _
  | cons a l ih =>
    rw [List.flatMap_cons, List.flatMap_cons, List.flatMap_cons]
    refine (ih.append_left _).trans ?_
    rw [List.append_assoc, List.append_assoc]
    refine List.Perm.append_left _ ?_
    rw [← List.append_assoc, ← List.append_assoc]
    exact List.Perm.append_right _ List.perm_append_comm
theorem flat_nil {α β : Type} (l : List α) : (l.flatMap fun _ => ([] : List β)) = [] := by
  induction l with
  | nil => rfl
  | cons a l ih => rw [List.flatMap_cons, ih]; rfl
theorem flat_swap {α β γ : Type} {A : List α} {B : List β} {f : α → β → List γ} : (A.flatMap fun a => B.flatMap fun b => f a b).Perm (B.flatMap fun b => A.flatMap fun a => f a b) := by
  induction A with
  | nil =>
    show List.Perm [] (B.flatMap fun _ => [])
    rw [flat_nil]
  | cons a A ih =>
    rw [List.flatMap_cons]
    refine (List.Perm.append_left _ ih).trans ?_
    exact (flat_split (l := B) (f := fun b => f a b) (g := fun b => A.flatMap fun a => f a b)).symm
theorem splC_of {f : Str → Nat → Bool} : ∀ (ks : List Str) (t : Nat) (ss : List Nat), ss ∈ splC f ks t → ss.length = ks.length ∧ ks.length ≤ t ∧ (∀ s ∈ ss, 1 ≤ s ∧ s ≤ t) ∧ ∀ q ∈ ks.zip ss, f q.1 q.2 = true
  | [], t, ss, h => by
    have h : ss ∈ (if t = 0 then [[]] else [] : List (List Nat)) := h
    by_cases c : t = 0
    · rw [if_pos c] at h
      rw [List.mem_singleton.mp h]
      exact ⟨rfl, Nat.zero_le _, fun s hs => (by cases hs), fun q hq => (by cases hq)⟩
    · rw [if_neg c] at h; cases h
  | k :: ks, t, ss, h => by
    obtain ⟨i, hi, h⟩ := List.mem_flatMap.mp (show ss ∈ (List.range t).flatMap _ from h)
    have hi := List.mem_range.mp hi
    by_cases c : f k (i + 1) = true
    · rw [if_pos c] at h
      obtain ⟨r, hr, rfl⟩ := List.mem_map.mp h
      obtain ⟨h1, h2, h3, h4⟩ := splC_of ks _ r hr
      refine ⟨by rw [List.length_cons, List.length_cons, h1], by rw [List.length_cons]; omega, fun s hs => ?_, fun q hq => ?_⟩
      · rcases List.mem_cons.mp hs with rfl | hs
        · omega
        · have := h3 s hs
          omega
      · rw [List.zip_cons_cons] at hq
        rcases List.mem_cons.mp hq with rfl | hq
        · exact c
        · exact h4 q hq
    · rw [if_neg c] at h; cases h
theorem flat_le {α β : Type} {n : Nat} {f : α → List β} : ∀ {l : List α}, (∀ a ∈ l, (f a).length ≤ n) → (l.flatMap f).length ≤ l.length * n
  | [], _ => Nat.zero_le _
  | a :: l, h => by
    rw [List.flatMap_cons, List.length_append, List.length_cons, Nat.add_mul]
    have := h a (List.mem_cons_self ..)
    have := flat_le (l := l) fun b hb => h b (List.mem_cons_of_mem _ hb)
    omega
theorem splC_le {f : Str → Nat → Bool} : ∀ (ks : List Str) (t : Nat), t ≤ 8 → (splC f ks t).length ≤ 8 ^ ks.length
  | [], t, _ => by
    show (if t = 0 then [[]] else [] : List (List Nat)).length ≤ 1
    split <;> simp
  | k :: ks, t, h => by
    show ((List.range t).flatMap _).length ≤ _
    refine Nat.le_trans (flat_le (n := 8 ^ ks.length) fun i _ => ?_) ?_
    · split
      · rw [List.length_map]; exact splC_le ks _ (by omega)
      · exact Nat.zero_le _
    · rw [List.length_range, List.length_cons, Nat.pow_succ, Nat.mul_comm]
      exact Nat.mul_le_mul_left _ h
def knC (md : List PyData) (k : Str) (s : Nat) : Bool := !(clC md k s).isEmpty
theorem knC_no {md : List PyData} {k : Str} {s : Nat} (h : ¬ knC md k s = true) : clC md k s = [] := by
  unfold knC at h
  cases e : clC md k s with
  | nil => rfl
  | cons a l => rw [e] at h; exact absurd rfl h
theorem knC_yes {md : List PyData} {k : Str} {s : Nat} (h : knC md k s = true) : clC md k s ≠ [] := fun z => by
  unfold knC at h
  rw [z] at h
  cases h
theorem ways_spl {md : List PyData} : ∀ (ks : List Str) (t : Nat), (waysC md ks t).Perm ((splC (knC md) ks t).flatMap fun ss => prd (clC md) (ks.zip ss))
  | [], t => by
    show List.Perm (if t = 0 then [[]] else []) (List.flatMap _ (if t = 0 then [[]] else []))
    by_cases c : t = 0
    · rw [if_pos c, if_pos c]; exact List.Perm.refl _
    · rw [if_neg c, if_neg c]; exact List.Perm.refl _
  | k :: ks, t => by
    rw [waysC_cons]
    show List.Perm _ (((List.range t).flatMap _).flatMap _)
    rw [List.flatMap_assoc]
    refine flat_perm fun i hi => ?_
    by_cases c : knC md k (i + 1) = true
    · rw [if_pos c, List.flatMap_map]
      refine (flat_perm fun d _ => (ways_spl ks (t - (i + 1))).map _).trans ?_
      have e : ∀ d : PyData, (((splC (knC md) ks (t - (i + 1))).flatMap fun ss => prd (clC md) (ks.zip ss)).map fun r => d :: r) = (splC (knC md) ks (t - (i + 1))).flatMap fun ss => (prd (clC md) (ks.zip ss)).map fun r => d :: r := fun d => List.map_flatMap ..
      rw [flat_congr fun d _ => e d]
      exact flat_swap
    · rw [if_neg c, knC_no c]
      exact List.Perm.refl _
theorem prd_ne {T : Str → Nat → List PyData} : ∀ {qs : List (Str × Nat)}, (∀ q ∈ qs, T q.1 q.2 ≠ []) → prd T qs ≠ []
  | [], _ => by intro z; cases z
  | q :: qs, h => by
    intro z
    have z := List.flatMap_eq_nil_iff.mp (show (T q.1 q.2).flatMap _ = [] from z)
    obtain ⟨d, ds, e⟩ := List.exists_cons_of_ne_nil (h q (List.mem_cons_self ..))
    have := z d (by rw [e]; exact List.mem_cons_self ..)
    exact prd_ne (fun p hp => h p (List.mem_cons_of_mem _ hp)) (List.map_eq_nil_iff.mp this)
theorem spl_ne {md : List PyData} {ks : List Str} {t : Nat} : splC (knC md) ks t ≠ [] ↔ waysC md ks t ≠ [] := by
  constructor
  · intro h z
    have p := ways_spl (md := md) ks t
    rw [z] at p
    have p := List.flatMap_eq_nil_iff.mp (List.Perm.nil_eq p).symm
    obtain ⟨ss, l, e⟩ := List.exists_cons_of_ne_nil h
    have hs : ss ∈ splC (knC md) ks t := by rw [e]; exact List.mem_cons_self ..
    refine prd_ne (fun q hq => knC_yes ((splC_of _ _ _ hs).2.2.2 q hq)) (p ss hs)
  · intro h z
    have p := ways_spl (md := md) ks t
    rw [z] at p
    exact h (List.Perm.eq_nil p)
/-- whether there are terms, by the rows of sizes -/
theorem kn_any {md : List PyData} {k : Str} {s : Nat} (h : 1 ≤ s) : knC md k s = (ofKind md k).any fun m => decide (splC (knC md) (needsOf m) (s - 1) ≠ []) := by
  rw [Bool.eq_iff_iff, List.any_eq_true]
  constructor
  · intro c
    have c := knC_yes c
    rw [clC_eq] at c
    have : ∃ m, m ∈ ofKind md k ∧ (if (needsOf m).length < s then (waysC md (needsOf m) (s - 1)).map fun r => PyData.tuple (.str (nameOf m) :: r) else []) ≠ [] := by
      refine Classical.byContradiction fun n => c (List.flatMap_eq_nil_iff.mpr fun m hm => Classical.byContradiction fun z => n ⟨m, hm, z⟩)
    obtain ⟨m, hm, z⟩ := this
    refine ⟨m, hm, decide_eq_true (spl_ne.mpr fun w => z ?_)⟩
    rw [w]
    split <;> rfl
  · rintro ⟨m, hm, c⟩
    have c := of_decide_eq_true c
    obtain ⟨ss, l, e⟩ := List.exists_cons_of_ne_nil c
    have hs : ss ∈ splC (knC md) (needsOf m) (s - 1) := by rw [e]; exact List.mem_cons_self ..
    have lt := (splC_of _ _ _ hs).2.1
    have w := spl_ne.mp c
    cases q : knC md k s with
    | true => rfl
    | false =>
      have z := knC_no (md := md) (k := k) (s := s) (by rw [q]; decide)
      rw [clC_eq] at z
      have z := List.flatMap_eq_nil_iff.mp z m hm
      rw [if_pos (by omega)] at z
      exact absurd (List.map_eq_nil_iff.mp z) w
/-! ### the terms, sorted -/
def tsC (md : List PyData) (k : Str) (s : Nat) : List PyData := srtD (clC md k s)
theorem tsC_perm {md : List PyData} {k : Str} {s : Nat} : (tsC md k s).Perm (clC md k s) := srtD_perm _
theorem tsC_ne {md : List PyData} {k : Str} {s : Nat} (h : knC md k s = true) : tsC md k s ≠ [] := fun z => by
  have p := tsC_perm (md := md) (k := k) (s := s)
  rw [z] at p
  exact knC_yes h (List.Perm.nil_eq p).symm
theorem prd_perm {T U : Str → Nat → List PyData} (h : ∀ k s, (T k s).Perm (U k s)) : ∀ qs : List (Str × Nat), (prd T qs).Perm (prd U qs)
  | [] => List.Perm.refl _
  | q :: qs => by
    show ((T q.1 q.2).flatMap _).Perm ((U q.1 q.2).flatMap _)
    refine (List.Perm.flatMap_right _ (h q.1 q.2)).trans (flat_perm fun d _ => ?_)
    exact (prd_perm h qs).map _
/-- what a maker with rows of these sizes makes -/
def fndM (md : List PyData) (s : Nat) (m : PyData) : List PyData := (splC (knC md) (needsOf m) (s - 1)).flatMap fun ss => (prd (tsC md) ((needsOf m).zip ss)).map fun r => .tuple (.str (nameOf m) :: r)
theorem fnd_perm {md : List PyData} {k : Str} {s : Nat} (h : 1 ≤ s) : ((ofKind md k).flatMap (fndM md s)).Perm (clC md k s) := by
  rw [clC_eq]
  refine flat_perm fun m _ => ?_
  unfold fndM
  by_cases c : (needsOf m).length < s
  · rw [if_pos c]
    refine List.Perm.trans ?_ ((ways_spl (md := md) (needsOf m) (s - 1)).map _).symm
    rw [List.map_flatMap]
    exact flat_perm fun ss _ => (prd_perm (fun _ _ => tsC_perm) _).map _
  · rw [if_neg c]
    have : splC (knC md) (needsOf m) (s - 1) = [] := by
      cases e : splC (knC md) (needsOf m) (s - 1) with
      | nil => rfl
      | cons ss l =>
        have := (splC_of _ _ ss (by rw [e]; exact List.mem_cons_self ..)).2.1
        omega
    rw [this]
    exact List.Perm.refl _
theorem prd_snoc {T : Str → Nat → List PyData} {q : Str × Nat} : ∀ qs : List (Str × Nat), prd T (qs ++ [q]) = (prd T qs).flatMap fun row => (T q.1 q.2).map fun t => row ++ [t]
  | [] => by
    show (T q.1 q.2).flatMap (fun t => [[t]]) = ((T q.1 q.2).map fun t => [t]) ++ []
    rw [List.append_nil]
    generalize T q.1 q.2 = l
    induction l with
    | nil => rfl
    | cons a l ih => rw [List.flatMap_cons, ih]; rfl
  | p :: qs => by
    show (T p.1 p.2).flatMap (fun t => (prd T (qs ++ [q])).map fun r => t :: r) = ((T p.1 p.2).flatMap fun t => (prd T qs).map fun r => t :: r).flatMap _
    rw [prd_snoc qs, List.flatMap_assoc]
    refine flat_congr fun t _ => ?_
    rw [List.flatMap_map, List.map_flatMap]
    refine flat_congr fun row _ => ?_
    rw [List.map_map]
    rfl
theorem flat_const {α β : Type} {n : Nat} {f : α → List β} : ∀ {l : List α}, (∀ a ∈ l, (f a).length = n) → (l.flatMap f).length = l.length * n
  | [], _ => by simp
  | a :: l, h => by
    rw [List.flatMap_cons, List.length_append, List.length_cons, Nat.add_mul, h a (List.mem_cons_self ..), flat_const (l := l) fun b hb => h b (List.mem_cons_of_mem _ hb)]
    omega
theorem prd_len {T : Str → Nat → List PyData} {q : Str × Nat} {qs : List (Str × Nat)} : (prd T (q :: qs)).length = (T q.1 q.2).length * (prd T qs).length :=
  flat_const (f := fun t => (prd T qs).map fun r => t :: r) fun t _ => by rw [List.length_map]
theorem prd_app {T : Str → Nat → List PyData} {rs : List (Str × Nat)} : ∀ qs : List (Str × Nat), (prd T (qs ++ rs)).length = (prd T qs).length * (prd T rs).length
  | [] => by show _ = 1 * _; rw [Nat.one_mul]; rfl
  | q :: qs => by
    show (prd T (q :: (qs ++ rs))).length = _
    rw [prd_len, prd_len, prd_app qs, Nat.mul_assoc]
theorem prd_take {T : Str → Nat → List PyData} {qs : List (Str × Nat)} (h : ∀ q ∈ qs, T q.1 q.2 ≠ []) (j : Nat) : (prd T (qs.take j)).length ≤ (prd T qs).length := by
  have e := prd_app (T := T) (rs := qs.drop j) (qs.take j)
  rw [List.take_append_drop] at e
  rw [e]
  refine Nat.le_mul_of_pos_right _ (List.length_pos_iff.mpr (prd_ne fun q hq => h q (List.mem_of_mem_drop hq)))
theorem flat_mem_le {α β : Type} {f : α → List β} : ∀ {l : List α} {a : α}, a ∈ l → (f a).length ≤ (l.flatMap f).length
  | b :: l, a, h => by
    rw [List.flatMap_cons, List.length_append]
    rcases List.mem_cons.mp h with rfl | h
    · omega
    · have := flat_mem_le (f := f) h
      omega
theorem prd_few {md : List PyData} {S : Nat} (few : Few md S) {ks : List Str} {t : Nat} (ht : t ≤ S) (lk : ks.length ≤ 3) {ss : List Nat} (hs : ss ∈ splC (knC md) ks t) : (prd (tsC md) (ks.zip ss)).length ≤ 4000000 := by
  have h1 := (few t ht).2 ks lk
  have h2 := (ways_spl (md := md) ks t).length_eq
  have h3 := flat_mem_le (f := fun ss => prd (clC md) (ks.zip ss)) hs
  have h4 := (prd_perm (T := tsC md) (U := clC md) (fun _ _ => tsC_perm) (ks.zip ss)).length_eq
  have h3 : (prd (clC md) (ks.zip ss)).length ≤ _ := h3
  omega
/-! ### they are plain -/
theorem waysG_pl {c : Str → Nat → List PyData} : ∀ (ks : List Str) (s : Nat), (∀ k i, i ≤ s → ∀ d ∈ c k i, plB d = true) → ∀ r ∈ waysG c ks s, ∀ d ∈ r, plB d = true
  | [], s, _, r, hr, d, hd => by
    have hr : r ∈ (if s = 0 then [[]] else [] : List (List PyData)) := hr
    by_cases c : s = 0
    · rw [if_pos c] at hr
      rw [List.mem_singleton.mp hr] at hd
      cases hd
    · rw [if_neg c] at hr; cases hr
  | k :: ks, s, h, r, hr, d, hd => by
    obtain ⟨i, hi, hr⟩ := List.mem_flatMap.mp (show r ∈ (List.range s).flatMap _ from hr)
    have hi := List.mem_range.mp hi
    obtain ⟨t, ht, hr⟩ := List.mem_flatMap.mp hr
    obtain ⟨r2, hr2, rfl⟩ := List.mem_map.mp hr
    rcases List.mem_cons.mp hd with rfl | hd
    · exact h k (i + 1) (by omega) _ ht
    · exact waysG_pl ks (s - (i + 1)) (fun k j hj => h k j (by omega)) r2 hr2 d hd
theorem closedP_pl {md : List PyData} : ∀ (f : Nat) (k : Str) (s : Nat), ∀ d ∈ closedP md f k s, plB d = true
  | 0, _, _, d, h => by cases h
  | f + 1, k, s, d, h => by
    obtain ⟨m, hm, h⟩ := List.mem_flatMap.mp (show d ∈ (ofKind md k).flatMap _ from h)
    by_cases c : (needsOf m).length < s
    · rw [if_pos c] at h
      obtain ⟨r, hr, rfl⟩ := List.mem_map.mp h
      exact plB_mk (waysG_pl _ _ (fun k i _ => closedP_pl f k i) r hr)
    · rw [if_neg c] at h; cases h
theorem clC_pl {md : List PyData} {k : Str} {s : Nat} : ∀ d ∈ clC md k s, plB d = true := closedP_pl s k s
theorem tsC_mem {md : List PyData} {k : Str} {s : Nat} {d : PyData} : d ∈ tsC md k s ↔ d ∈ clC md k s := tsC_perm.mem_iff

theorem loop_it {J : It} {n : Nat} {G : Hp → Prop} {Y : Nat → Hp → V → Hp → Prop} (w : Walk J n G Y) {H1 : Hp} {Qd : Hp → Prop} {body : (Hp → Prop) → V → Hp → Prop} (Pv : Nat → Hp → Prop) (h0 : Pv 0 H1) (hG : ∀ i H, i ≤ n → Pv i H → G H)
    (hs : ∀ i x H H', i < n → Pv i H → Y i H x H' → body (Pv (i + 1)) x H') (hd : ∀ H, Pv n H → Qd H) :
    ∃ W : Nat → Nat → Hp → Prop, (∃ m, W 0 m H1) ∧ ∀ i m H, W i m H →
      (J.stop i H ∧ Qd H) ∨ (J.go i H ∧ ∃ Nx : Hp → Prop, (∀ H', Nx H' → ∃ m', m' < m ∧ W (i + 1) m' H') ∧ ∀ x H', J.yld i H x H' → body Nx x H') := by
  refine ⟨fun i m H => m = n - i ∧ i ≤ n ∧ Pv i H, ⟨n, by omega, Nat.zero_le _, h0⟩, fun i m H ⟨em, le, p⟩ => ?_⟩
  have q := hG i H le p
  rcases Nat.lt_or_ge i n with lt | ge
  · exact .inr ⟨w.goes i H lt q, Pv (i + 1), fun H' p' => ⟨n - (i + 1), by omega, rfl, lt, p'⟩, fun x H' y => hs i x H H' lt p (w.yields i H x H' lt q y)⟩
  · obtain rfl : i = n := by omega
    exact .inl ⟨w.stops H q, hd H p⟩
theorem MkD.but {H H' : Hp} {D pm : Addr} {kvs : List (Key × V)} {ns : List Str} {md : List PyData} (hD : H D = some (.dK kvs)) (n : pm ≠ D) (s : ∀ b o, b ≠ D → H b = some o → H' b = some o) (M : MkD H pm ns md) : MkD H' pm ns md := by
  obtain ⟨L, e, hL⟩ := M
  refine ⟨L, s _ _ n e, fun x hx => ?_⟩
  obtain ⟨ys, e1, m⟩ := hL x hx
  refine ⟨ys, s _ _ (fun z => by rw [z, hD] at e1; cases e1) e1, m.mono fun b o e2 ⟨xs, eo⟩ => s _ _ (fun z => by rw [z, hD, eo] at e2; cases e2) e2⟩
theorem pa_starK {X : Cx} {K : PySem.W.Frag} (hK : X.K = K) {e : Expr} {p : Pos} {es : List Expr} {te : TE} {t : TA} (he : PE X e te) (hr : PA X es t) (hs : starEach (.Starred e p :: es) X.env = (true, eval e X.env) :: starEach es X.env := by rfl) : PA X (.Starred e p :: es) (StX.tStar K te t) := by subst hK; exact StX.pa_star he hr hs
theorem sl_tupAK {X : Cx} {K : PySem.W.Frag} (h : X.K = K) : SlR X (rSlA K) := h ▸ sl_tupA
/-- rows of sizes, as they stand in the heap -/
inductive TuI (H : Hp) : List V → List (List Nat) → Prop
  | nil : TuI H [] []
  | cons {t : Addr} {r : List Nat} {vs : List V} {rs : List (List Nat)} : H t = some (.tup (r.map fun n => V.int (n : Nat))) → TuI H vs rs → TuI H (.ref t :: vs) (r :: rs)
theorem TuI.mono {H H' : Hp} (s : ∀ b xs, H b = some (.tup xs) → H' b = some (.tup xs)) : ∀ {vs : List V} {rs : List (List Nat)}, TuI H vs rs → TuI H' vs rs
  | _, _, .nil => .nil
  | _, _, .cons e t => .cons (s _ _ e) (t.mono s)
theorem TuI.app {H : Hp} : ∀ {vs ws : List V} {rs us : List (List Nat)}, TuI H vs rs → TuI H ws us → TuI H (vs ++ ws) (rs ++ us)
  | _, _, _, _, .nil, h => h
  | _, _, _, _, .cons e t, h => .cons e (t.app h)
theorem TuI.len {H : Hp} : ∀ {vs : List V} {rs : List (List Nat)}, TuI H vs rs → vs.length = rs.length
  | _, _, .nil => rfl
  | _, _, .cons _ t => congrArg Nat.succ t.len
theorem TuI.get {H : Hp} : ∀ {vs : List V} {rs : List (List Nat)} {i : Nat} {v : V}, TuI H vs rs → vs[i]? = some v → ∃ t r, v = .ref t ∧ rs[i]? = some r ∧ H t = some (.tup (r.map fun n => V.int (n : Nat)))
  | _, _, 0, _, .cons e _, h => by cases h; exact ⟨_, _, rfl, rfl, e⟩
  | _, _, i + 1, _, .cons _ t, h => t.get (i := i) (by simpa using h)
/-- D tells for each kind and size whether there are such terms -/
def KnD (H : Hp) (D : Addr) (f : Str → Nat → Bool) (us : List Str) (S : Nat) : Prop := ∃ kvs : List (List Key × V), H D = some (.dT kvs) ∧ ∀ k ∈ us, ∀ s : Nat, 1 ≤ s → s ≤ S → valV kvs [Sum.inr k, Sum.inl (s : Int)] = some (.bl (f k s))
theorem KnD.mono {H H' : Hp} {D : Addr} {f : Str → Nat → Bool} {us : List Str} {S T : Nat} (s : Same H H') (l : T ≤ S) (h : KnD H D f us S) : KnD H' D f us T :=
  let ⟨kvs, e, q⟩ := h
  ⟨kvs, s _ _ e, fun k hk i h1 h2 => q k hk i h1 (Nat.le_trans h2 l)⟩

section
variable {P : Program} {w : World} {K : PySem.W.Frag} {mg : Str → Option Value} {base : Heap}

/-- splits(known, needs, total) -/
def spSpl (n : Nat) : Sp := fun vs H Q _ => ∃ (D : Addr) (z : V) (us ks : List Str) (t : Nat) (f : Str → Nat → Bool), vs = [.ref D, z, .int (t : Nat)] ∧ KnD H D f us t ∧ Dd H z (.tuple (ks.map PyData.str)) ∧ (∀ k ∈ ks, k ∈ us) ∧ ks.length < n ∧ ks.length ≤ 3 ∧ t ≤ 8 ∧
  ∀ p ws H', H p = none → Same H H' → H' p = some (.lst ws) → TuI H' ws (splC f ks t) → Q (.ref p) H'
theorem sc_splits : FnScope ["known", "needs", "total", "size", "rest"] ["known", "needs", "total"] (defScope s_splits) := ⟨rfl, rfl, rfl, by decide +kernel, rfl, by decide +kernel, by decide +kernel⟩

theorem ok_splits_step {n : Nat} (D : Df K mg "splits" s_splits) (B : Bi mg) (G0 : Gd P w K mg base CX0 (n + 1) "splits" ["known", "needs", "total"] (spSpl n)) : Gd P w K mg base CX0 (n + 2) "splits" ["known", "needs", "total"] (spSpl (n + 1)) := by
  refine gd_of D (fun _ _ _ _ _ _ us hl => match us, hl with | [_, _, _], _ => rfl) fun f fd F => ?_
  refine fun_q F sc_splits (fun vs H Q E h => by obtain ⟨D, z, us, ks, t, f, rfl, _⟩ := h; rfl) (fun cdv A outer s H vs Q E hr hq h => ?_)
  obtain ⟨D, z, us, ks, t, f, rfl, kn, hz, hks, ln, l3, lt, k⟩ := h
  refine ⟨_, (pss_cons (ps_if (pt_not (pt_truth (pv 1) (by intro _; rfl))) (pss_one (ps_ret (pe_ifExp (pt_cmpR op_eq (pv 2) pe_int (nomark _)) (pe_lst (pa_cons (pe_tup pa_nil) pa_nil)) (pe_lst pa_nil)))) pss_nil)
      (pss_one (ps_ret (pe_lc2 (own := [("size", 3), ("rest", 4)]) (vs1 := [4]) (g := (gName 3)) (g1 := (gName 4)) (tt1 := tYes) rfl sc_splits.nd (pi_range2 rfl B.range (pa_cons pe_int (pa_cons (pe_op op_add (pv 2) pe_int) pa_nil))) (blkOk_by (own := [("size", 3), ("rest", 4)]) (N := ["known", "needs", "total", "size", "rest"]) (sc := defScope s_splits) (by decide +kernel)) (by decide) (fun _ _ _ _ _ => (pg_name (i := 3) sc_splits.nd rfl (Or.inl rfl))) (fun _ _ _ _ _ => (pts_one (pt_val (pe_dget (hu_of hr) (pv 0) (pe_tup (pa_cons (pe_ix (ix_tupK (K := K) rfl) (pv 1) pe_int (fun _ _ => rfl)) (pa_cons (pv 3) pa_nil))) (fun _ _ => rfl))))) (fun _ _ _ _ _ => (pi_listK (K := K) rfl (pe_g G0 hr hq (pa_cons (pv 0) (pa_cons (pe_slice (sl_tupAK (K := K) rfl) (pv 1) (po_some pe_int) po_none) (pa_cons (pe_op op_sub (pv 2) (pv 3)) pa_nil)))))) (fun _ _ _ _ _ => (pg_name (i := 4) sc_splits.nd rfl (Or.inl rfl))) (fun _ _ _ _ _ => pts_nil) (fun _ _ _ _ _ => (pe_tup (pa_cons (pv 3) (pa_starK (K := K) rfl (pv 4) pa_nil)))))))), ?_⟩
  obtain ⟨za, zx, rfl, hza, ZA⟩ := hz.tupD
  obtain rfl := ZA.strs
  refine ⟨_, rfl, _, Or.inr (Or.inl ⟨_, SqT.of hza, rfl⟩), ?_⟩
  cases ks with
  | nil =>
    refine iteT ?_
    refine ⟨_, rfl, rfl, _, rfl, ?_⟩
    rw [show decide (V.int ((t : Nat) : Int) = V.int 0) = decide (t = 0) from decide_eq_decide.mpr ⟨fun z => by injection z with z; omega, fun z => by rw [z]; rfl⟩]
    by_cases c : t = 0
    · rw [decide_eq_true c]
      refine iteT ?_
      refine ⟨Nat.zero_le _, fun t1 ht1 => ?_⟩
      have s1 := same_new ht1 (.tup [])
      refine ⟨by show 1 ≤ sizeLine; rw [sizeLine_eq]; decide, fun p hp => ?_⟩
      have s2 := same_new hp (.lst [.ref t1])
      refine k p _ _ (s1.free hp) (s1.trans s2) upd_same ?_
      rw [show splC f [] t = [[]] from by rw [c]; rfl]
      exact .cons (s2 _ _ upd_same) .nil
    · rw [decide_eq_false c]
      refine iteF ?_
      refine ⟨by show 0 ≤ sizeLine; exact Nat.zero_le _, fun p hp => ?_⟩
      refine k p _ _ hp (same_new hp _) upd_same ?_
      rw [show splC f [] t = [] from by show (if t = 0 then [[]] else []) = []; rw [if_neg c]]
      exact .nil
  | cons k0 ks =>
  refine iteF ?_
  walk_at "rd"
  refine fun D2 hD2 => ?_
  refine loop_it (walk_range (lo := 1)) (fun i H3 => Same H H3 ∧ ∃ ws, H3 D2 = some (.lst ws) ∧ TuI H3 ws ((List.range i).flatMap fun i => if f k0 (i + 1) = true then (splC f ks (t - (i + 1))).map fun r => (i + 1) :: r else []))
    ⟨same_new hD2 _, [], upd_same, .nil⟩ (fun _ _ _ _ => True.intro) (fun i y H3p H3 hi pp hy => ?_) (fun H3 pp => ?_)
  rotate_left
  · obtain ⟨s3, ws, e3, T3⟩ := pp
    rw [show ((t : Int) + 1 - 1).toNat = t from by omega] at T3
    exact k D2 ws H3 hD2 s3 e3 T3
  obtain ⟨rfl, rfl⟩ := hy
  obtain ⟨s3, ws, e3, T3⟩ := pp
  refine ⟨rfl, ?_⟩
  walk_at "rd"
  refine ⟨za, _, 0, _, rfl, rfl, SqT.of (s3 _ _ hza), atI_nat (j := 0) rfl, ?_⟩
  refine ⟨_, rfl, by show 2 ≤ sizeLine; rw [sizeLine_eq]; decide, fun tq htq => ?_⟩
  obtain ⟨kvs, ek, qk⟩ := id kn
  have s4 := same_new htq (.tup [V.str k0, V.int (1 + (i : Int))])
  have ci : (1 + (i : Int)) = ((i + 1 : Nat) : Int) := by omega
  have hi : i < t := by omega
  have hu0 : k0 ∈ us := hks k0 (List.mem_cons_self ..)
  have dg := DGet.t (k := [Sum.inr k0, Sum.inl (1 + (i : Int))]) (s4 _ _ (s3 _ _ ek)) (b := tq) upd_same
  rw [show valV kvs [Sum.inr k0, Sum.inl (1 + (i : Int))] = some (V.bl (f k0 (i + 1))) from by rw [ci]; exact qk k0 hu0 (i + 1) (by omega) (by omega)] at dg
  refine ⟨D, _, rfl, dg, _, rfl, ?_⟩
  have s04 := s3.trans s4
  have n2 : D2 ≠ tq := fun z => by rw [z, htq] at e3; cases e3
  have e4 := s4 _ _ e3
  have T4 : TuI _ ws _ := T3.mono fun b xs e => s4 _ _ e
  rw [List.range_succ, List.flatMap_append, List.flatMap_cons, List.flatMap_nil, List.append_nil]
  generalize upd H3 tq (.tup [V.str k0, V.int (1 + (i : Int))]) = H4 at s4 s04 e4 T4 dg ⊢
  generalize eP : ((List.range i).flatMap fun i => if f k0 (i + 1) = true then (splC f ks (t - (i + 1))).map fun r => (i + 1) :: r else []) = Pre at T4 ⊢
  by_cases c : f k0 (i + 1) = true
  case neg =>
    rw [if_neg c, List.append_nil]
    rw [show f k0 (i + 1) = false from by simpa using c]
    exact iteF ⟨s04, ws, e4, T4⟩
  rw [if_pos c, c]
  refine iteT ?_
  refine ⟨_, rfl, _, rfl, _, rfl, noPart ?_⟩
  refine slA_tail (s04 _ _ hza) fun za2 H5 s5 ec => ?_
  walk_at "rd"
  have s05 := s04.trans s5
  have ks3 : ks.length + 1 ≤ 3 := l3
  have ksn : ks.length + 1 < n + 1 := ln
  refine ⟨D, .ref za2, us, ks, t - (i + 1), f, (by show [V.ref D, V.ref za2, V.int ((t : Int) - (1 + (i : Int)))] = [V.ref D, V.ref za2, V.int ((t - (i + 1) : Nat) : Int)]; rw [show (t : Int) - (1 + (i : Int)) = ((t - (i + 1) : Nat) : Int) from by omega]), kn.mono s05 (by omega), .tup ec (DdA.ofStrs _), fun k hk => hks k (List.mem_cons_of_mem _ hk), by omega, by omega, by omega, fun q ws5 H6 hq s6 e6 T6 => ?_⟩
  have s06 := s05.trans s6
  have e26 : H6 D2 = some (.lst ws) := s6 _ _ (s5 _ _ e4)
  have n2q : D2 ≠ q := fun z => by rw [← z] at hq; rw [s5 _ _ e4] at hq; cases hq
  have T46 : TuI H6 ws Pre := T4.mono fun b xs e => s6 _ _ (s5 _ _ e)
  have l6 := T6.len
  have lall := splC_le (f := f) ks (t - (i + 1)) (by omega)
  have l8 : 8 ^ ks.length ≤ 8 ^ 2 := Nat.pow_le_pow_right (by decide) (by omega)
  have lpre : Pre.length ≤ 8 * 8 ^ 2 := by
    rw [← eP]
    refine Nat.le_trans (flat_le (n := 8 ^ 2) fun i _ => ?_) (by rw [List.length_range]; exact Nat.mul_le_mul_right _ (by omega))
    split
    · rw [List.length_map]
      exact Nat.le_trans (splC_le ks _ (by omega)) l8
    · exact Nat.zero_le _
  refine ⟨q, rfl, ⟨_, SqL.of e6⟩, ?_⟩
  refine loop_it walk_list (fun j H7 => But D2 H6 H7 ∧ ∃ ws2, H7 D2 = some (.lst ws2) ∧ TuI H7 ws2 (Pre ++ ((splC f ks (t - (i + 1))).take j).map fun r => (i + 1) :: r))
    ⟨But.refl, ws, e26, by rw [List.take_zero, List.map_nil, List.append_nil]; exact T46⟩ (fun j H7 _ p => SqL.of (p.1 _ _ n2q.symm e6)) (fun j y H7p H7 hj pp hy => ?_) (fun H7 pp => ?_)
  rotate_left
  · obtain ⟨b7, ws2, e7, T7⟩ := pp
    rw [l6, List.take_length] at T7
    exact ⟨fun b o e => b7 _ _ (fun z => by rw [z, hD2] at e; cases e) (s06 _ _ e), ws2, e7, T7⟩
  obtain ⟨rfl, ey⟩ := hy
  obtain ⟨b7, ws2, e7, T7⟩ := pp
  obtain ⟨t6, r, rfl, er, et6⟩ := T6.get ey
  have hr6 := List.mem_of_getElem? er
  have lr := (splC_of _ _ _ hr6).1
  have n26 : t6 ≠ D2 := fun z => by rw [z, e26] at et6; cases et6
  refine ⟨rfl, ?_⟩
  refine ⟨_, rfl, _, rfl, t6, _, rfl, .inl (SqT.of (b7 _ _ n26 et6)), ?_⟩
  simp only [tNil, List.append_nil]
  refine ⟨by show (r.map _).length + 1 ≤ sizeLine; rw [sizeLine_eq, List.length_map]; omega, fun t7 ht7 => ?_⟩
  have e8 := same_new ht7 (.tup (V.int (1 + (i : Int)) :: (r.map fun n => V.int (n : Nat)))) _ _ e7
  have l7 := T7.len
  refine ⟨ws2, e8, ?_, ?_, ws2 ++ [.ref t7], upd_same, ?_⟩
  · rw [l7, List.length_append, List.length_map, List.length_take, sizeLine_eq]
    have : 8 * 8 ^ 2 = 512 := by decide
    have : 8 ^ 2 = 64 := by decide
    omega
  · exact fun b o n e => by rw [upd_ne n]; exact same_new ht7 _ _ _ (b7 _ _ n e)
  · rw [List.take_add_one, er, List.map_append, ← List.append_assoc]
    have keep : ∀ b xs, upd H7 t7 (.tup (V.int (1 + (i : Int)) :: (r.map fun n => V.int (n : Nat)))) b = some (.tup xs) → upd (upd H7 t7 (.tup (V.int (1 + (i : Int)) :: (r.map fun n => V.int (n : Nat))))) D2 (.lst (ws2 ++ [.ref t7])) b = some (.tup xs) := fun b xs q => tup_put e8 q
    refine TuI.app (T7.mono fun b xs e => keep b xs (same_new ht7 _ _ _ e)) (.cons (keep _ _ ?_) .nil)
    rw [upd_same, ci]
    rfl

end

theorem ok_splits_all {P : Program} {w : World} {K : PySem.W.Frag} {mg : Str → Option Value} {base : Heap} (D : Df K mg "splits" s_splits) (B : Bi mg) : ∀ n : Nat, Gd P w K mg base CX0 (n + 1) "splits" ["known", "needs", "total"] (spSpl n)
  | 0 => by
    refine gd_of D (fun _ _ _ _ _ _ us hl => match us, hl with | [_, _, _], _ => rfl) fun f fd F => ?_
    have no : ∀ {vs : List V} {H : Hp} {Q : VK} {E : XK}, ¬ spSpl 0 vs H Q E := fun h => by
      obtain ⟨_, _, _, _, _, _, _, _, _, _, z, _⟩ := h
      exact Nat.not_lt_zero _ z
    exact fun_q F sc_splits (fun vs H Q E h => (no h).elim) (fun cdv A outer s H vs Q E hr hq h => (no h).elim)
  | n + 1 => ok_splits_step D B (ok_splits_all D B n)
theorem map_get {f : Str → V} {x : Str} : ∀ {ns : List Str}, x ∈ ns → valV (ns.map fun y => ((Sum.inr y : Key), f y)) (Sum.inr x) = some (f x)
  | [], h => by cases h
  | y :: ns, h => by
    by_cases e : y = x
    · subst e
      exact valV_pos rfl
    · have h2 : x ∈ ns := (List.mem_cons.mp h).resolve_left fun z => e z.symm
      exact (valV_neg (r := ns.map fun y => ((Sum.inr y : Key), f y)) (fun z => e (Sum.inr.inj z))).trans (map_get h2)
theorem op_neLK {X : Cx} {K : PySem.W.Frag} (h : X.K = K) (hu : X.A.units < cLine) : OpR X (compareOp .NotEq) (rNeL K) := h ▸ op_neL hu
/-- what D tells meanwhile: all sizes to i, and i + 1 for the first j kinds -/
def KnI (H : Hp) (D : Addr) (f : Str → Nat → Bool) (us : List Str) (i j : Nat) : Prop := ∃ kvs : List (List Key × V), H D = some (.dT kvs) ∧ (∀ k ∈ us, ∀ s : Nat, 1 ≤ s → s ≤ i → valV kvs [Sum.inr k, Sum.inl (s : Int)] = some (.bl (f k s))) ∧
  (∀ k ∈ us.take j, valV kvs [Sum.inr k, Sum.inl ((i + 1 : Nat) : Int)] = some (.bl (f k (i + 1)))) ∧ kvs.length ≤ us.length * i + j
theorem KnI.knd {H : Hp} {D : Addr} {f : Str → Nat → Bool} {us : List Str} {i j : Nat} (h : KnI H D f us i j) : KnD H D f us i :=
  let ⟨kvs, e, q, _⟩ := h
  ⟨kvs, e, q⟩
theorem KnI.at {H H' : Hp} {D : Addr} {f : Str → Nat → Bool} {us : List Str} {i j : Nat} (e : H' D = H D) (h : KnI H D f us i j) : KnI H' D f us i j :=
  let ⟨kvs, e2, q⟩ := h
  ⟨kvs, e.trans e2, q⟩
theorem KnI.next {H : Hp} {D : Addr} {f : Str → Nat → Bool} {us : List Str} {i : Nat} (h : KnI H D f us i us.length) : KnI H D f us (i + 1) 0 := by
  obtain ⟨kvs, e, q, r, l⟩ := h
  refine ⟨kvs, e, fun k hk s h1 h2 => ?_, fun k hk => (by cases hk), by rw [Nat.mul_add]; omega⟩
  by_cases c : s ≤ i
  · exact q k hk s h1 c
  · obtain rfl : s = i + 1 := by omega
    rw [List.take_length] at r
    exact r k hk
theorem KnI.put {H : Hp} {D : Addr} {f : Str → Nat → Bool} {us : List Str} {i j : Nat} {k : Str} {kvs : List (List Key × V)} (e : H D = some (.dT kvs)) (h : KnI H D f us i j) (ek : us[j]? = some k) (b : Bool) (hb : b = f k (i + 1)) :
    KnI (upd H D (.dT (putK kvs [Sum.inr k, Sum.inl ((i + 1 : Nat) : Int)] (.bl b)))) D f us i (j + 1) := by
  obtain ⟨kvs2, e2, q, r, l⟩ := h
  rw [e] at e2
  cases e2
  refine ⟨_, upd_same, fun x hx s h1 h2 => ?_, fun x hx => ?_, Nat.le_trans (length_putK _ _ _) (by omega)⟩
  · rw [valV_put, if_neg, q x hx s h1 h2]
    intro z
    have z2 := (List.cons.inj (List.cons.inj z).2).1
    have z2 := Sum.inl.inj z2
    omega
  · rw [valV_put]
    rw [List.take_add_one, ek] at hx
    by_cases c : x = k
    · rw [if_pos (by rw [c]), hb, c]
    · rw [if_neg (fun z => c (Sum.inr.inj (List.cons.inj z).1))]
      refine r x ?_
      rcases List.mem_append.mp hx with z | z
      · exact z
      · exact absurd (List.mem_singleton.mp z) c

section
variable {P : Program} {w : World} {K : PySem.W.Frag} {mg : Str → Option Value} {base : Heap}

/-- sizes_of_terms(makers, most) -/
def spSizes : Sp := fun vs H Q _ => ∃ (M : Addr) (kd md : List PyData) (S : Nat), vs = [.ref M, .int (S : Nat)] ∧ MkD H M (kd.map nameOf) md ∧ kindsB (.tuple kd) = true ∧ makersB (kd.map nameOf) (.tuple md) = true ∧ S ≤ 8 ∧
  ∀ p H', H p = none → Same H H' → KnD H' p (knC md) (kd.map nameOf) S → Q (.ref p) H'
theorem sc_sizes_of_terms : FnScope ["makers", "most", "known", "size", "kind", "maker", "needs"] ["makers", "most"] (defScope s_sizes_of_terms) := ⟨rfl, rfl, rfl, by decide +kernel, rfl, by decide +kernel, by decide +kernel⟩

theorem ok_sizes (D : Df K mg "sizes_of_terms" s_sizes_of_terms) (B : Bi mg) (Ba : mg "any" = none) (G0 : Gd P w K mg base CX0 5 "splits" ["known", "needs", "total"] (spSpl 4)) : Gd P w K mg base CX0 8 "sizes_of_terms" ["makers", "most"] spSizes := by
  refine gd_of D (fun _ _ _ _ _ _ us hl => match us, hl with | [_, _], _ => rfl) fun f fd F => ?_
  refine fun_q F sc_sizes_of_terms (fun vs H Q E h => by obtain ⟨M, kd, md, S, rfl, _⟩ := h; rfl) (fun cdv A outer s H vs Q E hr hq h => ?_)
  obtain ⟨M, kd, md, S, rfl, mk, k1, k2, lS, k⟩ := h
  refine ⟨_, (pss_cons (ps_set (i := 2) sc_sizes_of_terms.nd rfl (Or.inr rfl) pe_dnewT)
      (pss_cons (ps_for PassesOwn.never rfl (pi_range2 rfl B.range (pa_cons pe_int (pa_cons (pe_op op_add (pv 1) pe_int) pa_nil))) (pg_name (i := 3) sc_sizes_of_terms.nd rfl (Or.inr rfl)) (pss_one (ps_lock (ps_for PassesOwn.never rfl (pi_keys (pv 0)) (pg_name (i := 4) sc_sizes_of_terms.nd rfl (Or.inl rfl)) (pss_one (ps_dput (hu_of hr) (pv 2) (pe_tup (pa_cons (pv 4) (pa_cons (pv 3) pa_nil))) (pe_callB (cr_any rfl) (by rfl) Ba (by decide +kernel) (pa_cons (pe_lc (own := [("maker", 5), ("needs", 6)]) (g := (gTup K 2 (gCons (gName 5) (gCons (gName 6) gNil)))) (tt := tYes) rfl sc_sizes_of_terms.nd (pi_list (pe_dget (hu_of hr) (pv 0) (pv 4) (fun _ _ => rfl))) (blkOk_by (own := [("maker", 5), ("needs", 6)]) (N := ["makers", "most", "known", "size", "kind", "maker", "needs"]) (sc := defScope s_sizes_of_terms) (by decide +kernel)) (fun _ _ _ _ _ => (pg_tup rfl (pgs_cons (pg_name (i := 5) sc_sizes_of_terms.nd rfl (Or.inl rfl)) (pgs_cons (pg_name (i := 6) sc_sizes_of_terms.nd rfl (Or.inl rfl)) pgs_nil)))) (fun _ _ _ _ _ => pts_nil) (fun _ _ _ _ _ => (pe_cmpR (op_neLK (K := K) rfl (un0 hr)) (pe_g (G0.mono (by omega)) hr hq (pa_cons (pv 2) (pa_cons (pv 6) (pa_cons (pe_op op_sub (pv 3) pe_int) pa_nil)))) (pe_lst pa_nil) (nomark _)))) pa_nil)) rfl))))))
      (pss_one (ps_ret (pv 2))))), ?_⟩
  obtain ⟨l1, l8, kb, knd⟩ := kindsB_parts k1
  obtain ⟨l24, mb, mnd⟩ := makersB_parts k2
  obtain ⟨L, eL, hL⟩ := id mk
  have lus : (kd.map nameOf).length = kd.length := List.length_map ..
  refine fun p0 hp0 => ?_
  have s1 := same_new hp0 (.dT [])
  walk_at "rd"
  refine for_it (walk_range (lo := 1)) (fun i σ H3 => ∃ D n3 n4, σ = [some (.ref M), some (.int S), some (.ref D), n3, n4, none, none] ∧ H D = none ∧ Same H H3 ∧ KnI H3 D (knC md) (kd.map nameOf) i 0)
    ⟨p0, none, none, rfl, hp0, s1, [], upd_same, fun k hk s h1 h2 => (by omega), fun k hk => (by cases hk), Nat.zero_le _⟩ (fun _ _ _ _ _ => True.intro) (fun i y σ H3p H3 hi pp hy => ?_) (fun σ H3 pp => ?_)
  rotate_left
  · obtain ⟨D, n3, n4, rfl, hD, s3, KI⟩ := pp
    rw [show ((S : Int) + 1 - 1).toNat = S from by omega] at KI
    exact ⟨_, rfl, k D H3 hD s3 KI.knd⟩
  obtain ⟨rfl, rfl⟩ := hy
  obtain ⟨D, n3, n4, rfl, hD, s3, KI⟩ := pp
  have hi : i < S := by omega
  have nDM : D ≠ M := fun z => by rw [z, eL] at hD; cases hD
  refine ⟨M, _, s3 _ _ eL, True.intro, fun od => ?_⟩
  refine ⟨_, rfl, M, od, rfl, .inl ⟨_, upd_same, ?_⟩⟩
  generalize ekM : ((kd.map nameOf).map fun x => ((Sum.inr x : Key), V.ref (L x))) = kM at eL ⊢
  have lkM : kM.length = (kd.map nameOf).length := by rw [← ekM, List.length_map]
  have lum : ∀ {i : Nat}, i < 8 → (kd.map nameOf).length * i + 8 < sizeLine := fun {i} h => by
    have : (kd.map nameOf).length * i ≤ 8 * 8 := Nat.mul_le_mul (by omega) (by omega)
    rw [sizeLine_eq]; omega
  refine for_it walk_keys (fun j σ H5 => ∃ n4, σ = [some (.ref M), some (.int S), some (.ref D), some (.int (1 + (i : Int))), n4, none, none] ∧ H5 M = some (.frz od (.dK kM)) ∧ But M H H5 ∧ KnI H5 D (knC md) (kd.map nameOf) i j)
    ⟨n4, rfl, upd_same, fun b o n e => by rw [upd_ne n]; exact s3 _ _ e, KI.at (upd_ne nDM)⟩ (fun j σ H5 _ p => by obtain ⟨_, _, e, _⟩ := p; exact e) (fun j y σ H5p H5 hj pp hy => ?_) (fun σ H5 pp => ?_)
  rotate_left
  · obtain ⟨n4, rfl, eM, b5, KI5⟩ := pp
    rw [lkM] at KI5
    refine ⟨eM, D, _, _, rfl, hD, fun b o e => ?_, KI5.next.at (upd_ne nDM)⟩
    by_cases c : b = M
    · rw [c, upd_same, ← eL, ← c, e]
    · rw [upd_ne c]; exact b5 _ _ c e
  obtain ⟨rfl, k0, v0, ek0, rfl⟩ := hy
  obtain ⟨n4, rfl, eM, b5, KI5⟩ := pp
  rw [← ekM, List.getElem?_map] at ek0
  obtain ⟨nm, enm, e0⟩ := Option.map_eq_some_iff.mp ek0
  cases e0
  have hnm : nm ∈ kd.map nameOf := List.mem_of_getElem? enm
  obtain ⟨ys, eys, ML⟩ := hL nm hnm
  have nLM : L nm ≠ M := fun z => by rw [z, eL] at eys; cases eys
  have lM := ML.len
  have ML5 : MkL H5 ys (ofKind md nm) := ML.mono fun b o e ⟨xs, eo⟩ => b5 _ _ (fun z => by rw [z, eL, eo] at e; cases e) e
  refine ⟨_, rfl, _, rfl, M, V.ref (L nm), rfl, .inl ⟨kM, Sum.inr nm, .inr ⟨od, eM⟩, rfl, ?_⟩, ?_⟩
  · rw [← ekM]; exact (map_get (f := fun x => V.ref (L x)) hnm).symm
  refine ⟨L nm, rfl, ⟨_, SqL.of (b5 _ _ nLM eys)⟩, fun D2 hD2 => ?_⟩
  have n2D : D ≠ D2 := fun z => by obtain ⟨kvs, e, _⟩ := KI5; rw [z, hD2] at e; cases e
  have n2M : M ≠ D2 := fun z => by rw [z, hD2] at eM; cases eM
  have l24' : (ofKind md nm).length ≤ 24 := Nat.le_trans (List.length_filter_le ..) l24
  refine lc_it walk_list (fun l H6 => Same H5 H6 ∧ H6 D2 = some (.lst ((((ofKind md nm).take l).map fun m => decide (splC (knC md) (needsOf m) i ≠ [])).map V.bl)))
    ⟨same_new hD2 _, by rw [List.take_zero]; exact upd_same⟩ (fun l H6 _ p => SqL.of (p.1 _ _ (b5 _ _ nLM eys))) (fun l y H6p H6 hl pp hy => ?_) (fun H6 pp => ?_)
  rotate_left
  · obtain ⟨s6, e6⟩ := pp
    rw [lM, List.take_length] at e6
    refine ⟨D2, _, rfl, SqL.of e6, ?_⟩
    obtain ⟨kvs, ekv, q1, q2, lkv⟩ := id KI5
    refine ⟨_, rfl, _, rfl, _, rfl, by show 2 ≤ sizeLine; rw [sizeLine_eq]; decide, fun tq htq => ?_⟩
    have s7 := s6.trans (same_new htq (.tup [kV (Sum.inr nm), V.int (1 + (i : Int))]))
    have ci : (1 + (i : Int)) = ((i + 1 : Nat) : Int) := by omega
    have nDq : D ≠ tq := fun z => by have := s6 _ _ ekv; rw [z, htq] at this; cases this
    have nMq : M ≠ tq := fun z => by have := s6 _ _ eM; rw [z, htq] at this; cases this
    have KI7 := KI5.at (H' := upd H6 tq (.tup [kV (Sum.inr nm), V.int (1 + (i : Int))])) (by rw [s7 _ _ ekv, ekv])
    have hj2 : j < kd.length := by rw [lkM, lus] at hj; exact hj
    have lkk : kvs.length < sizeLine := by
      have := lum (i := i) (by omega)
      omega
    have dp := DPut.t (k := [Sum.inr nm, Sum.inl ((i + 1 : Nat) : Int)]) (b := tq) (v := V.bl (((ofKind md nm).map fun m => decide (splC (knC md) (needsOf m) i ≠ [])).any id)) (s7 _ _ ekv) (by rw [← ci]; exact upd_same) lkk
    refine ⟨D, _, rfl, dp, _, rfl, ?_⟩
    refine ⟨by rw [upd_ne nDM.symm]; exact s7 _ _ eM, fun b o n e => ?_, KnI.put (s7 _ _ ekv) KI7 enm _ ?_⟩
    · rw [upd_ne (fun z => by rw [z, hD] at e; cases e)]
      exact s7 _ _ (b5 _ _ n e)
    · rw [kn_any (Nat.le_add_left 1 i), List.any_map]
      rfl
  obtain ⟨rfl, ey⟩ := hy
  obtain ⟨s6, e6⟩ := pp
  obtain ⟨m, em, t2, nv, na, rfl, ht2, hna⟩ := ML5.get ey
  have hmd := (List.mem_filter.mp (List.mem_of_getElem? em)).1
  refine ⟨t2, _, rfl, SqT.of (s6 _ _ ht2), rfl, _, _, rfl, _, _, rfl, rfl, rfl, ?_⟩
  walk_at "rd"
  have KI6 := KI5.at (H' := H6) (by obtain ⟨kvs, ekv, _⟩ := id KI5; rw [s6 _ _ ekv, ekv])
  have lns := needs_few (mb m hmd)
  refine ⟨D, .ref na, kd.map nameOf, needsOf m, i, knC md, (by show [V.ref D, V.ref na, V.int (1 + (i : Int) - 1)] = [V.ref D, V.ref na, V.int (i : Int)]; rw [show 1 + (i : Int) - 1 = (i : Int) from by omega]), KI6.knd, .tup (s6 _ _ hna) (DdA.ofStrs _), needs_ok2 (mb m hmd), by omega, lns, by omega, fun q ws H7 hq s7 e7 T7 => ?_⟩
  refine ⟨Nat.zero_le _, fun t1 ht1 => ?_⟩
  have s8 := s7.trans (same_new ht1 (.lst []))
  refine ⟨q, t1, ws, rfl, rfl, SqL.of (same_new ht1 _ _ _ e7), SqL.of upd_same, ?_⟩
  refine ⟨_, s8 _ _ e6, ?_, same_put (s6.trans s8) hD2, ?_⟩
  · rw [List.length_map, List.length_map, List.length_take, sizeLine_eq]; omega
  · rw [upd_same, List.take_add_one, em, List.map_append, List.map_append]
    have l7 := T7.len
    have e0 : decide (ws = []) = decide (splC (knC md) (needsOf m) i = []) := decide_eq_decide.mpr ⟨fun z => by rw [z] at l7; exact List.eq_nil_of_length_eq_zero l7.symm, fun z => by rw [z] at l7; exact List.eq_nil_of_length_eq_zero l7⟩
    rw [e0]
    simp

end

/-- what stands elsewhere stays -/
def But2 (p q : Addr) (H H' : Hp) : Prop := ∀ b o, b ≠ p → b ≠ q → H b = some o → H' b = some o
theorem But2.refl {p q : Addr} {H : Hp} : But2 p q H H := fun _ _ _ _ e => e
theorem But2.trans {p q : Addr} {H H1 H2 : Hp} (a : But2 p q H H1) (b : But2 p q H1 H2) : But2 p q H H2 := fun c o n m e => b c o n m (a c o n m e)
theorem But.two {p q : Addr} {H H1 : Hp} (a : But p H H1) : But2 p q H H1 := fun c o n _ e => a c o n e
theorem Same.two {p q : Addr} {H H1 : Hp} (a : Same H H1) : But2 p q H H1 := fun c o _ _ e => a c o e
theorem flat_pre {α β : Type} {l : List α} {f : α → List β} {a : Nat} {x : α} (e : l[a]? = some x) : ((l.take a).flatMap f).length + (f x).length ≤ (l.flatMap f).length := by
  have h : l = l.take (a + 1) ++ l.drop (a + 1) := (List.take_append_drop _ _).symm
  have h2 : (l.flatMap f).length = ((l.take (a + 1)).flatMap f).length + ((l.drop (a + 1)).flatMap f).length := by rw [← List.length_append, ← List.flatMap_append, ← h]
  rw [h2, List.take_add_one, e, List.flatMap_append, List.length_append]
  simp
mutual
/-- a plain term lies in tuples alone -/
theorem plD_mono {H H' : Hp} (s : ∀ b xs, H b = some (.tup xs) → H' b = some (.tup xs)) : ∀ {v : V} {d : PyData}, plB d = true → Dd H v d → Dd H' v d
  | _, .tuple ds, h, .tup e A => by
    refine .tup (s _ _ e) ?_
    obtain ⟨x, ps, q, hp⟩ := plB_of h
    cases q
    cases A with
    | cons h1 A1 => cases h1; exact .cons (.str _) (plA_mono s hp A1)
theorem plA_mono {H H' : Hp} (s : ∀ b xs, H b = some (.tup xs) → H' b = some (.tup xs)) : ∀ {vs : List V} {ds : List PyData}, (∀ d ∈ ds, plB d = true) → DdA H vs ds → DdA H' vs ds
  | _, _, _, .nil => .nil
  | _, _, h, .cons a t => .cons (plD_mono s (h _ (List.mem_cons_self ..)) a) (plA_mono s (fun x hx => h x (List.mem_cons_of_mem _ hx)) t)
end
theorem tsC_pl {md : List PyData} {k : Str} {s : Nat} : ∀ d ∈ tsC md k s, plB d = true := fun d hd => clC_pl d (tsC_mem.mp hd)
theorem pair_key {q r : Str × Nat} (h : ([Sum.inr q.1, Sum.inl (q.2 : Int)] : List Key) = [Sum.inr r.1, Sum.inl (r.2 : Int)]) : q = r := by
  have h1 := Sum.inr.inj (List.cons.inj h).1
  have h2 := Sum.inl.inj (List.cons.inj (List.cons.inj h).2).1
  exact Prod.ext h1 (by omega)
/-- kp keeps terms that were made before, in lists that stand at none of Z -/
def KpD (H : Hp) (kp : Addr) (md : List PyData) (us : List Str) (S : Nat) (Z : Addr → Prop) : Prop :=
  ∃ kvs : List (List Key × V), H kp = some (.dT kvs) ∧ (∃ ks : List (Str × Nat), kvs.map (·.1) = ks.map (fun q => ([Sum.inr q.1, Sum.inl (q.2 : Int)] : List Key)) ∧ ks.Nodup ∧ ∀ q ∈ ks, q.1 ∈ us ∧ 1 ≤ q.2 ∧ q.2 ≤ S) ∧
    ∀ (k : Str) (s : Nat) (v : V), valV kvs [Sum.inr k, Sum.inl (s : Int)] = some v → ∃ p ws, v = .ref p ∧ ¬ Z p ∧ H p = some (.lst ws) ∧ DdA H ws (tsC md k s)
section
variable {H H' : Hp} {kp : Addr} {md : List PyData} {us : List Str} {S : Nat} {Z : Addr → Prop}
theorem KpD.mono (s : Same H H') (h : KpD H kp md us S Z) : KpD H' kp md us S Z := by
  obtain ⟨kvs, e, kk, q⟩ := h
  refine ⟨kvs, s _ _ e, kk, fun k i v ev => ?_⟩
  obtain ⟨p, ws, h1, h2, h3, h4⟩ := q k i v ev
  exact ⟨p, ws, h1, h2, s _ _ h3, h4.mono s⟩
/-- a list in Z is changed -/
theorem KpD.lst {p : Addr} {xs ys : List V} (hz : Z p) (e : H p = some (.lst xs)) (h : KpD H kp md us S Z) : KpD (upd H p (.lst ys)) kp md us S Z := by
  obtain ⟨kvs, ek, kk, q⟩ := h
  have n : kp ≠ p := fun z => by rw [z, e] at ek; cases ek
  refine ⟨kvs, by rw [upd_ne n]; exact ek, kk, fun k i v ev => ?_⟩
  obtain ⟨p2, ws, h1, h2, h3, h4⟩ := q k i v ev
  have n2 : p2 ≠ p := fun w => h2 (w ▸ hz)
  exact ⟨p2, ws, h1, h2, by rw [upd_ne n2]; exact h3, plA_mono (fun b xs q => tup_put e q) tsC_pl h4⟩
theorem KpD.less {Y : Addr → Prop} (hz : ∀ p, Y p → Z p) (h : KpD H kp md us S Z) : KpD H kp md us S Y := by
  obtain ⟨kvs, ek, kk, q⟩ := h
  refine ⟨kvs, ek, kk, fun k i v ev => ?_⟩
  obtain ⟨p2, ws, h1, h2, h3, h4⟩ := q k i v ev
  exact ⟨p2, ws, h1, fun w => h2 (hz _ w), h3, h4⟩
/-- a new place, too -/
theorem KpD.more {p : Addr} (hp : H p = none) (h : KpD H kp md us S Z) : KpD H kp md us S (fun z => Z z ∨ z = p) := by
  obtain ⟨kvs, ek, kk, q⟩ := h
  refine ⟨kvs, ek, kk, fun k i v ev => ?_⟩
  obtain ⟨p2, ws, h1, h2, h3, h4⟩ := q k i v ev
  exact ⟨p2, ws, h1, (fun w => w.elim h2 fun z => by rw [z, hp] at h3; cases h3), h3, h4⟩
theorem pairs_few {us : List Str} {S : Nat} {ks : List (Str × Nat)} (nd : ks.Nodup) (h : ∀ q ∈ ks, q.1 ∈ us ∧ 1 ≤ q.2 ∧ q.2 ≤ S) : ks.length ≤ us.length * (S + 1) := by
  have : ∀ (us : List Str) (ks : List (Str × Nat)), ks.Nodup → (∀ q ∈ ks, q.1 ∈ us ∧ q.2 ≤ S) → ks.length ≤ us.length * (S + 1) := fun us => by
    induction us with
    | nil =>
      intro ks nd h
      cases ks with
      | nil => exact Nat.zero_le _
      | cons q ks => exact absurd (h q (List.mem_cons_self ..)).1 (by intro z; cases z)
    | cons u us ih =>
      intro ks nd h
      have e : ks.length = (ks.filter fun q => decide (q.1 = u)).length + (ks.filter fun q => !decide (q.1 = u)).length := by
        clear nd h ih
        induction ks with
        | nil => rfl
        | cons q ks ih2 =>
          by_cases c : q.1 = u
          · simp only [List.filter_cons, c, decide_true, Bool.not_true, if_true, Bool.false_eq_true, if_false, List.length_cons]; omega
          · simp only [List.filter_cons, c, decide_false, Bool.not_false, if_false, Bool.false_eq_true, if_true, List.length_cons]; omega
      have h1 : (ks.filter fun q => decide (q.1 = u)).length ≤ S + 1 := by
        have nd1 : ((ks.filter fun q => decide (q.1 = u)).map (·.2)).Nodup := by
          refine List.Pairwise.map (R := fun a b => a.1 = u ∧ b.1 = u ∧ a ≠ b) _ (fun a b ⟨x, y, n⟩ z => n (Prod.ext (x.trans y.symm) z)) ?_
          have nd2 : (ks.filter fun q => decide (q.1 = u)).Nodup := nd.filter _
          refine List.Pairwise.imp_of_mem (fun {a b} ha hb n => ?_) nd2
          exact ⟨of_decide_eq_true (List.mem_filter.mp ha).2, of_decide_eq_true (List.mem_filter.mp hb).2, n⟩
        have sub := List.Nodup.length_le_of_subset (l₂ := List.range (S + 1)) nd1 fun x hx => by
          obtain ⟨q, hq, rfl⟩ := List.mem_map.mp hx
          have := (h q (List.mem_filter.mp hq).1).2
          exact List.mem_range.mpr (by omega)
        rw [List.length_map, List.length_range] at sub
        exact sub
      have h2 := ih (ks.filter fun q => !decide (q.1 = u)) (nd.filter _) fun q hq => by
        obtain ⟨m, c⟩ := List.mem_filter.mp hq
        obtain ⟨h3, h4⟩ := h q m
        refine ⟨?_, h4⟩
        rcases List.mem_cons.mp h3 with z | z
        · rw [decide_eq_true z] at c; cases c
        · exact z
      rw [List.length_cons, Nat.add_mul]
      omega
  exact this us ks nd fun q hq => ⟨(h q hq).1, (h q hq).2.2⟩
theorem KpD.few {kvs : List (List Key × V)} (e : H kp = some (.dT kvs)) (h : KpD H kp md us S Z) : kvs.length ≤ us.length * (S + 1) := by
  obtain ⟨kvs2, ek, ⟨ks, e1, nd, hk⟩, _⟩ := h
  rw [e] at ek
  cases ek
  have := congrArg List.length e1
  rw [List.length_map, List.length_map] at this
  rw [this]
  exact pairs_few nd hk
/-- one more is kept -/
theorem KpD.put {kvs : List (List Key × V)} {p : Addr} {ws : List V} {k : Str} {s : Nat} (e : H kp = some (.dT kvs)) (h : KpD H kp md us S Z) (hk : k ∈ us) (h1 : 1 ≤ s) (hs : s ≤ S) (hz : ¬ Z p) (ep : H p = some (.lst ws)) (A : DdA H ws (tsC md k s)) :
    KpD (upd H kp (.dT (putK kvs [Sum.inr k, Sum.inl (s : Int)] (.ref p)))) kp md us S Z := by
  obtain ⟨kvs2, ek, ⟨ks, e1, nd, hks⟩, q⟩ := h
  rw [e] at ek
  cases ek
  have keep : ∀ b xs, H b = some (.tup xs) → upd H kp (.dT (putK kvs [Sum.inr k, Sum.inl (s : Int)] (.ref p))) b = some (.tup xs) := fun b xs q => by
    rw [upd_ne fun z => by rw [z, e] at q; cases q]; exact q
  have keepL : ∀ b xs, H b = some (.lst xs) → upd H kp (.dT (putK kvs [Sum.inr k, Sum.inl (s : Int)] (.ref p))) b = some (.lst xs) := fun b xs q => by
    rw [upd_ne fun z => by rw [z, e] at q; cases q]; exact q
  refine ⟨_, upd_same, ?_, fun k2 i v ev => ?_⟩
  · by_cases c : (kvs.any fun kv => decide (kv.1 = ([Sum.inr k, Sum.inl (s : Int)] : List Key))) = true
    · refine ⟨ks, ?_, nd, hks⟩
      rw [show putK kvs [Sum.inr k, Sum.inl (s : Int)] (.ref p) = kvs.map (fun kv => if kv.1 = ([Sum.inr k, Sum.inl (s : Int)] : List Key) then (kv.1, .ref p) else kv) from if_pos c, List.map_map, ← e1]
      refine List.map_congr_left fun kv _ => ?_
      show (if kv.1 = _ then (kv.1, V.ref p) else kv).1 = kv.1
      split <;> rfl
    · refine ⟨ks ++ [(k, s)], ?_, ?_, fun q hq => ?_⟩
      · rw [show putK kvs [Sum.inr k, Sum.inl (s : Int)] (.ref p) = kvs ++ [([Sum.inr k, Sum.inl (s : Int)], .ref p)] from if_neg c, List.map_append, List.map_append, e1]
        rfl
      · refine List.nodup_append.mpr ⟨nd, List.nodup_cons.mpr ⟨(fun z => by cases z), List.nodup_nil⟩, fun a ha b hb z => ?_⟩
        rw [List.mem_singleton.mp hb] at z
        subst z
        have m : ([Sum.inr k, Sum.inl (s : Int)] : List Key) ∈ kvs.map (·.1) := by
          rw [e1]; exact List.mem_map.mpr ⟨_, ha, rfl⟩
        obtain ⟨kv, hkv, ekv⟩ := List.mem_map.mp m
        exact c (List.any_eq_true.mpr ⟨kv, hkv, decide_eq_true ekv⟩)
      · rcases List.mem_append.mp hq with w | w
        · exact hks q w
        · rw [List.mem_singleton.mp w]; exact ⟨hk, h1, hs⟩
  · rw [valV_put] at ev
    by_cases c : ([Sum.inr k2, Sum.inl (i : Int)] : List Key) = [Sum.inr k, Sum.inl (s : Int)]
    · rw [if_pos c] at ev
      cases ev
      have := pair_key (q := (k2, i)) (r := (k, s)) c
      cases this
      exact ⟨p, ws, rfl, hz, keepL _ _ ep, plA_mono keep tsC_pl A⟩
    · rw [if_neg c] at ev
      obtain ⟨p2, ws2, h1, h2, h3, h4⟩ := q k2 i v ev
      exact ⟨p2, ws2, h1, h2, keepL _ _ h3, plA_mono keep tsC_pl h4⟩
theorem MkD.butT {pm : Addr} {kvs : List (List Key × V)} {ns : List Str} {md : List PyData} (hD : H kp = some (.dT kvs)) (s : But kp H H') (M : MkD H pm ns md) : MkD H' pm ns md := by
  obtain ⟨L, e, hL⟩ := M
  refine ⟨L, s _ _ (fun z => by rw [z, hD] at e; cases e) e, fun x hx => ?_⟩
  obtain ⟨ys, e1, m⟩ := hL x hx
  refine ⟨ys, s _ _ (fun z => by rw [z, hD] at e1; cases e1) e1, m.mono fun b o e2 ⟨xs, eo⟩ => s _ _ (fun z => by rw [z, hD, eo] at e2; cases e2) e2⟩
theorem but_tup {kvs : List (List Key × V)} (hD : H kp = some (.dT kvs)) (s : But kp H H') : ∀ b xs, H b = some (.tup xs) → H' b = some (.tup xs) := fun b xs q => s _ _ (fun z => by rw [z, hD] at q; cases q) q
theorem but_lst {kvs : List (List Key × V)} (hD : H kp = some (.dT kvs)) (s : But kp H H') : ∀ b xs, H b = some (.lst xs) → H' b = some (.lst xs) := fun b xs q => s _ _ (fun z => by rw [z, hD] at q; cases q) q
end

section
variable {P : Program} {w : World} {K : PySem.W.Frag} {mg : Str → Option Value} {base : Heap}

/-- terms_of_size(makers, known, kind, size, kept) -/
def spTos (n : Nat) : Sp := fun vs H Q _ => ∃ (M Dk kp : Addr) (kd md : List PyData) (k : Str) (s S : Nat) (Z : Addr → Prop), vs = [.ref M, .ref Dk, .str k, .int (s : Nat), .ref kp] ∧ MkD H M (kd.map nameOf) md ∧ KnD H Dk (knC md) (kd.map nameOf) S ∧ kindsB (.tuple kd) = true ∧ makersB (kd.map nameOf) (.tuple md) = true ∧
  k ∈ kd.map nameOf ∧ 1 ≤ s ∧ s ≤ S ∧ S ≤ 8 ∧ Few md S ∧ s < n ∧ Dk ≠ kp ∧ (∀ z, Z z → H z ≠ none) ∧ KpD H kp md (kd.map nameOf) S Z ∧
  ∀ p ws H', But kp H H' → KpD H' kp md (kd.map nameOf) S Z → H' p = some (.lst ws) → DdA H' ws (tsC md k s) → Q (.ref p) H'
theorem sc_terms_of_size : FnScope ["makers", "known", "kind", "size", "kept", "found", "maker", "needs", "sizes", "rows", "need", "part", "parts", "row", "term"] ["makers", "known", "kind", "size", "kept"] (defScope s_terms_of_size) := ⟨rfl, rfl, rfl, by decide +kernel, rfl, by decide +kernel, by decide +kernel⟩

theorem ok_tos_step {n : Nat} (D : Df K mg "terms_of_size" s_terms_of_size) (B : Bi mg) (Bz : mg "zip" = none) (G0 : Gd P w K mg base CX0 (n + 6) "terms_of_size" ["makers", "known", "kind", "size", "kept"] (spTos n)) (G1 : Gd P w K mg base CX0 5 "splits" ["known", "needs", "total"] (spSpl 4)) : Gd P w K mg base CX0 (n + 7) "terms_of_size" ["makers", "known", "kind", "size", "kept"] (spTos (n + 1)) := by
  refine gd_of D (fun _ _ _ _ _ _ us hl => match us, hl with | [_, _, _, _, _], _ => rfl) fun f fd F => ?_
  refine fun_q F sc_terms_of_size (fun vs H Q E h => by obtain ⟨M, Dk, kp, kd, md, k, s, S, Z, rfl, _⟩ := h; rfl) (fun cdv A outer s H vs Q E hr hq h => ?_)
  obtain ⟨M, Dk, kp, kd, md, k0, s0, S, Z, rfl, mk, kn, k1, k2, hk0, h1, hs, lS, few, ln, nDk, hZ, KP, k⟩ := h
  refine ⟨_, (pss_cons (ps_if (pt_cmp (pc_dnotin (hu_of hr) (pe_tup (pa_cons (pv 2) (pa_cons (pv 3) pa_nil))) (pv 4))) (pss_cons (ps_set (i := 5) sc_terms_of_size.nd rfl (Or.inl rfl) (pe_lst pa_nil))
      (pss_cons (ps_for PassesOwn.never rfl (pi_list (pe_dget (hu_of hr) (pv 0) (pv 2) (fun _ _ => rfl))) (pg_tup rfl (pgs_cons (pg_name (i := 6) sc_terms_of_size.nd rfl (Or.inl rfl)) (pgs_cons (pg_name (i := 7) sc_terms_of_size.nd rfl (Or.inl rfl)) pgs_nil))) (pss_one (ps_for PassesOwn.never rfl (pi_list (pe_g (G1.mono (by omega)) hr hq (pa_cons (pv 1) (pa_cons (pv 7) (pa_cons (pe_op op_sub (pv 3) pe_int) pa_nil))))) (pg_name (i := 8) sc_terms_of_size.nd rfl (Or.inl rfl)) (pss_cons (ps_set (i := 9) sc_terms_of_size.nd rfl (Or.inl rfl) (pe_lst (pa_cons (pe_tup (pa_cons (pv 6) pa_nil)) pa_nil)))
      (pss_cons (ps_for PassesOwn.never rfl (RZ.pi_zipA (by rfl) Bz (pa_cons (pv 7) (pa_cons (pv 8) pa_nil))) (pg_tup rfl (pgs_cons (pg_name (i := 10) sc_terms_of_size.nd rfl (Or.inl rfl)) (pgs_cons (pg_name (i := 11) sc_terms_of_size.nd rfl (Or.inl rfl)) pgs_nil))) (pss_cons (ps_set (i := 12) sc_terms_of_size.nd rfl (Or.inr rfl) (pe_g (G0.mono (by omega)) hr hq (pa_cons (pv 0) (pa_cons (pv 1) (pa_cons (pv 10) (pa_cons (pv 11) (pa_cons (pv 4) pa_nil)))))))
      (pss_one (ps_setLc2 (i := 9) (own := [("row", 13), ("term", 14)]) (vs1 := [14]) (g := (gName 13)) (g1 := (gName 14)) (tt := tYes) (tt1 := tYes) rfl sc_terms_of_size.nd rfl rfl (sw_true rfl rfl rfl (by decide +kernel)) (pi_list (pv 9)) (blkOk_by (own := [("row", 13), ("term", 14)]) (N := ["makers", "known", "kind", "size", "kept", "found", "maker", "needs", "sizes", "rows", "need", "part", "parts", "row", "term"]) (sc := defScope s_terms_of_size) (by decide +kernel)) (by decide) (fun _ _ _ _ _ => (pg_name (i := 13) sc_terms_of_size.nd rfl (Or.inl rfl))) (fun _ _ _ _ _ => pts_nil) (fun _ _ _ _ _ => (pi_listK (K := K) rfl (pv 12))) (fun _ _ _ _ _ => (pg_name (i := 14) sc_terms_of_size.nd rfl (Or.inl rfl))) (fun _ _ _ _ _ => pts_nil) (fun _ _ _ _ _ => (pe_tup (pa_starK (K := K) rfl (pv 13) (pa_cons (pv 14) pa_nil))))))))
      (pss_one (ps_expr (pe_bm PySem.F.plainAttrs_list PySem.F.slot_list_extend PySem.F.type_list_extend mt_extend (pv 5) (pa_cons (pv 9) pa_nil)))))))))
      (pss_one (ps_dput (hu_of hr) (pv 4) (pe_tup (pa_cons (pv 2) (pa_cons (pv 3) pa_nil))) (pe_callB (cr_sortDd hr.units) (by rfl) B.sorted (by decide +kernel) (pa_cons (pv 5) pa_nil)) rfl)))) pss_nil)
      (pss_one (ps_ret (pe_dget (hu_of hr) (pv 4) (pe_tup (pa_cons (pv 2) (pa_cons (pv 3) pa_nil))) (fun _ _ => rfl))))), ?_⟩
  obtain ⟨l1, l8, kb, knd⟩ := kindsB_parts k1
  obtain ⟨l24, mb, mnd⟩ := makersB_parts k2
  obtain ⟨L, eL, hL⟩ := id mk
  obtain ⟨kvs, ekp, _⟩ := id KP
  have lus : (kd.map nameOf).length = kd.length := List.length_map ..
  refine seq_nx (a := tIfS _ _ _) (fun σ H3 => (∃ x5 x6 x7 x8 x9 x10 x11 x12 x13 x14, σ = [some (.ref M), some (.ref Dk), some (.str k0), some (.int (s0 : Nat)), some (.ref kp), x5, x6, x7, x8, x9, x10, x11, x12, x13, x14]) ∧ But kp H H3 ∧ KpD H3 kp md (kd.map nameOf) S Z ∧ ∃ kvs3 v, H3 kp = some (.dT kvs3) ∧ valV kvs3 [Sum.inr k0, Sum.inl (s0 : Int)] = some v) (fun σ H3 pp => ?_) (fun N hN => ?_)
  · obtain ⟨⟨x5, x6, x7, x8, x9, x10, x11, x12, x13, x14, rfl⟩, b3, KP3, kvs3, v, e3, ev⟩ := pp
    obtain ⟨kvs4, e4, _, q4⟩ := id KP3
    rw [e3] at e4
    cases e4
    obtain ⟨p, ws, rfl, hz, ep, A⟩ := q4 k0 s0 v ev
    refine ⟨_, rfl, _, rfl, _, rfl, by show 2 ≤ sizeLine; rw [sizeLine_eq]; decide, fun tq htq => ?_⟩
    have s4 := same_new htq (.tup [V.str k0, V.int (s0 : Int)])
    have dg := DGet.t (k := [Sum.inr k0, Sum.inl (s0 : Int)]) (s4 _ _ e3) (b := tq) upd_same
    rw [ev] at dg
    exact ⟨kp, _, rfl, dg, k p ws _ (b3.trans (Same.but s4)) (KP3.mono s4) (s4 _ _ ep) (A.mono s4)⟩
  · refine ⟨_, rfl, _, rfl, by show 2 ≤ sizeLine; rw [sizeLine_eq]; decide, fun tq htq => ?_⟩
    have s4 := same_new htq (.tup [V.str k0, V.int (s0 : Int)])
    have dg := DGet.t (k := [Sum.inr k0, Sum.inl (s0 : Int)]) (s4 _ _ ekp) (b := tq) upd_same
    refine ⟨_, rfl, kp, _, rfl, dg, _, rfl, ?_⟩
    cases ev : valV kvs [Sum.inr k0, Sum.inl (s0 : Int)] with
    | some v => exact iteF (hN _ _ ⟨⟨_, _, _, _, _, _, _, _, _, _, rfl⟩, Same.but s4, KP.mono s4, kvs, v, s4 _ _ ekp, ev⟩)
    | none =>
    refine iteT ?_
    refine ⟨Nat.zero_le _, fun p0 hp0 => ?_⟩
    have hp0H : H p0 = none := s4.free hp0
    have s5 := s4.trans (same_new hp0 (.lst []))
    have KP5 := ((KP.mono s4).more hp0).mono (same_new hp0 (.lst []))
    have e50 : upd (upd H tq (.tup [V.str k0, V.int (s0 : Int)])) p0 (.lst []) p0 = some (.lst []) := upd_same
    generalize upd (upd H tq (.tup [V.str k0, V.int (s0 : Int)])) p0 (.lst []) = H5 at s5 KP5 e50 ⊢
    generalize eZ1 : (fun z => Z z ∨ z = p0) = Z1 at KP5 ⊢
    have z10 : Z1 p0 := by rw [← eZ1]; exact .inr rfl
    have zz : ∀ p, Z p → Z1 p := fun p h => by rw [← eZ1]; exact .inl h
    have back : ∀ {H3 : Hp}, But2 kp p0 H5 H3 → But kp H H3 := fun b b1 o n e => b b1 o n (fun z => by rw [z, hp0H] at e; cases e) (s5 _ _ e)
    have hZ1 : ∀ {H3 : Hp}, But2 kp p0 H5 H3 → H3 p0 ≠ none → H3 kp ≠ none → ∀ z, Z1 z → H3 z ≠ none := fun {H3} b n1 n2 z hz => by
      by_cases c1 : z = p0
      · rw [c1]; exact n1
      by_cases c2 : z = kp
      · rw [c2]; exact n2
      have hz : Z z := by rw [← eZ1] at hz; exact hz.resolve_right c1
      cases e : H z with
      | none => exact absurd e (hZ z hz)
      | some o => rw [back b z o c2 e]; intro w; cases w
    obtain ⟨ys, eys, ML⟩ := hL k0 hk0
    have lM := ML.len
    have dgM := DGet.k (k := Sum.inr k0) (s5 _ _ eL)
    rw [map_get (f := fun x => V.ref (L x)) hk0] at dgM
    refine ⟨_, rfl, _, rfl, M, V.ref (L k0), rfl, dgM, L k0, rfl, ⟨_, SqL.of (s5 _ _ eys)⟩, ?_⟩
    have nkpL : ∀ {b xs}, H b = some (.lst xs) → b ≠ kp := fun e z => by rw [z, ekp] at e; cases e
    have nkpT : ∀ {b xs}, H b = some (.tup xs) → b ≠ kp := fun e z => by rw [z, ekp] at e; cases e
    have clen := (few s0 hs).1 k0
    have tot := (fnd_perm (md := md) (k := k0) h1).length_eq
    obtain ⟨kvk, ekk, qkk⟩ := id kn
    refine for_it walk_list (fun i σ H3 => (∃ x6 x7 x8 x9 x10 x11 x12, σ = [some (.ref M), some (.ref Dk), some (.str k0), some (.int (s0 : Nat)), some (.ref kp), some (.ref p0), x6, x7, x8, x9, x10, x11, x12, none, none]) ∧ But2 kp p0 H5 H3 ∧ KpD H3 kp md (kd.map nameOf) S Z1 ∧ ∃ us, H3 p0 = some (.lst us) ∧ DdA H3 us (((ofKind md k0).take i).flatMap (fndM md s0)))
      ⟨⟨_, _, _, _, _, _, _, rfl⟩, But2.refl, KP5, [], e50, by rw [List.take_zero]; exact .nil⟩ (fun i σ H3 _ p => SqL.of (back p.2.1 _ _ (nkpL eys) eys)) (fun i y σ H3p H3 hi pp hy => ?_) (fun σ H3 pp => ?_)
    rotate_left
    · obtain ⟨⟨x6, x7, x8, x9, x10, x11, x12, rfl⟩, b3, KP3, us, e3, A3⟩ := pp
      rw [lM, List.take_length] at A3
      have pm := fnd_perm (md := md) (k := k0) h1
      refine ⟨_, rfl, p0, us, _, rfl, SqL.of e3, A3, fun d hd => ?_, fun zs p hA hp => ?_⟩
      · have hd := pm.mem_iff.mp hd
        have := (clC_psz hd).2
        exact ⟨clC_pl d hd, by omega⟩
      rw [srtD_eq (fun d hd => clC_pl d (pm.mem_iff.mp hd)) pm] at hA
      have s6 := same_new hp (.lst zs)
      refine ⟨_, rfl, _, rfl, _, rfl, by show 2 ≤ sizeLine; rw [sizeLine_eq]; decide, fun tq2 htq2 => ?_⟩
      have s7 := s6.trans (same_new htq2 (.tup [V.str k0, V.int (s0 : Int)]))
      obtain ⟨kvs3, ek3, _⟩ := id KP3
      have fw := KP3.few ek3
      have kl : kvs3.length < sizeLine := by
        have : (kd.map nameOf).length * (S + 1) ≤ 8 * 9 := Nat.mul_le_mul (by omega) (by omega)
        rw [sizeLine_eq]; omega
      have npq : p ≠ tq2 := fun z => by
        rw [← z, upd_same] at htq2; cases htq2
      have ep7 : upd (upd H3 p (.lst zs)) tq2 (.tup [V.str k0, V.int (s0 : Int)]) p = some (.lst zs) := by rw [upd_ne npq]; exact upd_same
      have nz1 : ¬ Z1 p := fun w => hZ1 b3 (by rw [e3]; intro q; cases q) (by rw [ek3]; intro q; cases q) p w hp
      have KP7 := (KP3.mono s7).put (p := p) (ws := zs) (k := k0) (s := s0) (s7 _ _ ek3) hk0 h1 hs nz1 ep7 (hA.mono s7)
      refine ⟨kp, _, rfl, DPut.t (k := [Sum.inr k0, Sum.inl (s0 : Int)]) (b := tq2) (s7 _ _ ek3) upd_same kl, hN _ _ ⟨⟨_, _, _, _, _, _, _, _, _, _, rfl⟩, fun b o n e => ?_, KP7.less zz, _, _, upd_same, by rw [valV_put, if_pos rfl]⟩⟩
      rw [upd_ne n]
      exact s7 _ _ (back b3 b o n e)
    obtain ⟨rfl, ey⟩ := hy
    obtain ⟨⟨x6, x7, x8, x9, x10, x11, x12, rfl⟩, b3, KP3, us3, e3, A3⟩ := pp
    obtain ⟨m, em, t2, nv, na, rfl, ht2, hna⟩ := ML.get ey
    have hmd := (List.mem_filter.mp (List.mem_of_getElem? em)).1
    have lns := needs_few (mb m hmd)
    have nok := needs_ok2 (mb m hmd)
    have bH3 := back b3
    have ht3 := bH3 _ _ (nkpT ht2) ht2
    have hna3 := bH3 _ _ (nkpT hna) hna
    refine ⟨t2, _, rfl, SqT.of ht3, rfl, _, _, rfl, _, _, rfl, rfl, ?_⟩
    walk_at "rd"
    have kn3 : KnD H3 Dk (knC md) (kd.map nameOf) (s0 - 1) := ⟨kvk, bH3 _ _ nDk ekk, fun k hk i w1 w2 => qkk k hk i w1 (by omega)⟩
    refine ⟨Dk, .ref na, kd.map nameOf, needsOf m, s0 - 1, knC md, (by show [V.ref Dk, V.ref na, V.int ((s0 : Int) - 1)] = [V.ref Dk, V.ref na, V.int ((s0 - 1 : Nat) : Int)]; rw [show (s0 : Int) - 1 = ((s0 - 1 : Nat) : Int) from by omega]), kn3, .tup hna3 (DdA.ofStrs _), nok, by omega, lns, by omega, fun q wsq H6 hq s6 e6 T6 => ?_⟩
    have b6 := b3.trans (Same.two s6)
    have lT6 := T6.len
    refine ⟨q, rfl, ⟨_, SqL.of e6⟩, ?_⟩
    obtain ⟨mkT, emk⟩ : ∃ mkT : List PyData → PyData, mkT = fun r => .tuple (.str (nameOf m) :: r) := ⟨_, rfl⟩
    have pmk : ∀ r, (∀ d ∈ r, plB d = true) → plB (mkT r) = true := fun r h => by rw [emk]; exact plB_mk h
    obtain ⟨g, eg⟩ : ∃ g : List Nat → List PyData, g = fun ss => (prd (tsC md) ((needsOf m).zip ss)).map mkT := ⟨_, rfl⟩
    have efn : fndM md s0 m = (splC (knC md) (needsOf m) (s0 - 1)).flatMap g := by rw [eg, emk]; rfl
    have et : ((ofKind md k0).take (i + 1)).flatMap (fndM md s0) = ((ofKind md k0).take i).flatMap (fndM md s0) ++ fndM md s0 m := by
      rw [List.take_add_one, em, List.flatMap_append]; simp
    have lpre := flat_pre (f := fndM md s0) em
    have pre_pl : ∀ d ∈ ((ofKind md k0).take i).flatMap (fndM md s0), plB d = true := fun d hd => by
      refine clC_pl d ((fnd_perm (md := md) (k := k0) h1).mem_iff.mp ?_)
      obtain ⟨m2, h2, h3⟩ := List.mem_flatMap.mp hd
      exact List.mem_flatMap.mpr ⟨m2, List.mem_of_mem_take h2, h3⟩
    generalize ((ofKind md k0).take i).flatMap (fndM md s0) = Pre at A3 et lpre pre_pl
    have nq0 : q ≠ p0 := fun z => by rw [z] at hq; rw [hq] at e3; cases e3
    have nqk : q ≠ kp := fun z => by obtain ⟨_, ek3, _⟩ := id KP3; rw [z, ek3] at hq; cases hq
    refine for_it walk_list (fun j σ H7 => (∃ x8 x9 x10 x11 x12, σ = [some (.ref M), some (.ref Dk), some (.str k0), some (.int (s0 : Nat)), some (.ref kp), some (.ref p0), some (.str (nameOf m)), some (.ref na), x8, x9, x10, x11, x12, none, none]) ∧ But2 kp p0 H6 H7 ∧ KpD H7 kp md (kd.map nameOf) S Z1 ∧ ∃ us, H7 p0 = some (.lst us) ∧ DdA H7 us (Pre ++ ((splC (knC md) (needsOf m) (s0 - 1)).take j).flatMap g))
      ⟨⟨_, _, _, _, _, rfl⟩, But2.refl, KP3.mono s6, us3, s6 _ _ e3, by rw [List.take_zero, List.flatMap_nil, List.append_nil]; exact A3.mono s6⟩ (fun j σ H7 _ p => SqL.of (p.2.1 _ _ nqk nq0 e6)) (fun j y σ H7p H7 hj pp hy => ?_) (fun σ H7 pp => ?_)
    rotate_left
    · obtain ⟨⟨x8, x9, x10, x11, x12, rfl⟩, b7, KP7, us7, e7, A7⟩ := pp
      rw [lT6, List.take_length, ← efn, ← et] at A7
      exact ⟨⟨_, _, _, _, _, _, _, rfl⟩, b6.trans b7, KP7, us7, e7, A7⟩
    obtain ⟨rfl, ey2⟩ := hy
    obtain ⟨⟨x8, x9, x10, x11, x12, rfl⟩, b7, KP7, us7, e7, A7⟩ := pp
    obtain ⟨t6, ss, rfl, ess, et6⟩ := T6.get ey2
    have hss := List.mem_of_getElem? ess
    obtain ⟨lss, lt1, hss1, hkn⟩ := splC_of _ _ _ hss
    have pfew := prd_few few (show s0 - 1 ≤ S by omega) lns hss
    have tne : ∀ q ∈ (needsOf m).zip ss, tsC md q.1 q.2 ≠ [] := fun q hq => tsC_ne (hkn q hq)
    refine ⟨_, rfl, by show 1 ≤ sizeLine; rw [sizeLine_eq]; decide, fun t8 ht8 => ?_⟩
    have s8 := same_new ht8 (.tup [V.str (nameOf m)])
    have e8 : upd H7 t8 (.tup [V.str (nameOf m)]) t8 = some (.tup [V.str (nameOf m)]) := upd_same
    refine ⟨by show 1 ≤ sizeLine; rw [sizeLine_eq]; decide, fun r0 hr0 => ?_⟩
    have s9 := same_new hr0 (.lst [V.ref t8])
    have s89 := s8.trans s9
    have e90 : upd (upd H7 t8 (.tup [V.str (nameOf m)])) r0 (.lst [V.ref t8]) r0 = some (.lst [V.ref t8]) := upd_same
    have e9t : upd (upd H7 t8 (.tup [V.str (nameOf m)])) r0 (.lst [V.ref t8]) t8 = some (.tup [V.str (nameOf m)]) := s9 _ _ e8
    have nr0 : r0 ≠ p0 := fun z => by have := s8 _ _ e7; rw [← z, hr0] at this; cases this
    generalize upd (upd H7 t8 (.tup [V.str (nameOf m)])) r0 (.lst [V.ref t8]) = H9 at s89 e90 e9t ⊢
    have b9 := b6.trans (b7.trans (Same.two s89))
    have bH9 := back b9
    have KP9 := KP7.mono s89
    have e79 := s89 _ _ e7
    have A9 := A7.mono s89
    have plall : ∀ d ∈ Pre ++ ((splC (knC md) (needsOf m) (s0 - 1)).take j).flatMap g, plB d = true := fun d hd => by
      rcases List.mem_append.mp hd with w | w
      · exact pre_pl d w
      · obtain ⟨s2, hs2, hd2⟩ := List.mem_flatMap.mp w
        refine clC_pl (md := md) (k := k0) (s := s0) d ((fnd_perm h1).mem_iff.mp (List.mem_flatMap.mpr ⟨m, List.mem_of_getElem? em, ?_⟩))
        rw [efn]
        exact List.mem_flatMap.mpr ⟨s2, List.mem_of_mem_take hs2, hd2⟩
    have prd_pl : ∀ (qs : List (Str × Nat)), ∀ r ∈ prd (tsC md) qs, ∀ d ∈ r, plB d = true := fun qs => by
      induction qs with
      | nil => intro r hr d hd; rw [List.mem_singleton.mp hr] at hd; cases hd
      | cons q qs ih =>
        intro r hr d hd
        obtain ⟨t, ht, hr⟩ := List.mem_flatMap.mp (show r ∈ (tsC md q.1 q.2).flatMap _ from hr)
        obtain ⟨r2, hr2, rfl⟩ := List.mem_map.mp hr
        rcases List.mem_cons.mp hd with rfl | hd
        · exact tsC_pl _ ht
        · exact ih r2 hr2 d hd
    have rows_pl : ∀ (qs : List (Str × Nat)), ∀ d ∈ (prd (tsC md) qs).map mkT, plB d = true := fun qs d hd => by
      obtain ⟨r, hr, rfl⟩ := List.mem_map.mp hd
      exact pmk r (prd_pl qs r hr)
    refine ⟨_, rfl, _, rfl, na, t6, _, _, rfl, .inr ⟨SqT.of (bH9 _ _ (nkpT hna) hna), SqT.of (s89 _ _ (b7 _ _ (fun z => by obtain ⟨_, ek3, _⟩ := id KP3; have := s6 _ _ ek3; rw [z, this] at et6; cases et6) (fun z => by rw [z, s6 _ _ e3] at et6; cases et6) et6)), ?_⟩⟩
    have lz : ((needsOf m).zip ss).length = (needsOf m).length := by rw [List.length_zip]; omega
    refine for_it (walk_zipT (xs := (needsOf m).map V.str) (ys := ss.map fun n => V.int (n : Nat)) rfl) (fun l σ H10 => (∃ r x10 x11 x12 wr, σ = [some (.ref M), some (.ref Dk), some (.str k0), some (.int (s0 : Nat)), some (.ref kp), some (.ref p0), some (.str (nameOf m)), some (.ref na), some (.ref t6), some (.ref r), x10, x11, x12, none, none] ∧ H10 r = some (.lst wr) ∧ r ≠ p0 ∧ DdA H10 wr ((prd (tsC md) (((needsOf m).zip ss).take l)).map mkT)) ∧ But2 kp p0 H9 H10 ∧ KpD H10 kp md (kd.map nameOf) S Z1 ∧ H10 p0 = some (.lst us7))
      ⟨⟨r0, _, _, _, _, rfl, e90, nr0, by rw [List.take_zero, emk]; exact .cons (.tup e9t (.cons (.str _) .nil)) .nil⟩, But2.refl, KP9, e79⟩
      (fun l σ H10 _ p => ⟨SqT.of (back (b9.trans p.2.1) _ _ (nkpT hna) hna), SqT.of (by
        have w := s89 _ _ (b7 _ _ (fun z => by obtain ⟨_, ek3, _⟩ := id KP3; have := s6 _ _ ek3; rw [z, this] at et6; cases et6) (fun z => by rw [z, s6 _ _ e3] at et6; cases et6) et6)
        obtain ⟨_, ek9, _⟩ := id KP9
        exact p.2.1 _ _ (fun z => by rw [z, ek9] at w; cases w) (fun z => by rw [z, e79] at w; cases w) w)⟩) (fun l y σ H10p H10 hl pp hy => ?_) (fun σ H10 pp => ?_)
    rotate_left
    · obtain ⟨⟨r, x10, x11, x12, wr, rfl, er, nr, Ar⟩, b10, KP10, e10⟩ := pp
      have ez : ((needsOf m).zip ss).take (min ((needsOf m).map V.str).length (ss.map fun n => V.int (n : Nat)).length) = (needsOf m).zip ss := List.take_of_length_le (by rw [lz, List.length_map, List.length_map]; omega)
      rw [ez] at Ar
      have lr := Ar.length
      have l7 := A7.length
      have lg := flat_pre (f := g) ess
      rw [← efn] at lg
      rw [List.length_append] at l7
      have lgs : (g ss).length = (prd (tsC md) ((needsOf m).zip ss)).length := by rw [eg]; exact List.length_map ..
      have ltot : us7.length + wr.length ≤ 4000000 := by rw [List.length_map] at lr; omega
      obtain ⟨_, ek10, _⟩ := id KP10
      have keep : ∀ b xs, H10 b = some (.tup xs) → upd H10 p0 (.lst (us7 ++ wr)) b = some (.tup xs) := fun b xs q => tup_put e10 q
      refine ⟨_, rfl, .inl ⟨rfl, _, SqL.of e10⟩, _, rfl, p0, r, us7, wr, rfl, rfl, e10, er, by rw [sizeLine_eq]; omega, ⟨_, _, _, _, _, rfl⟩, ?_, KP10.lst z10 e10, us7 ++ wr, upd_same, ?_⟩
      · intro b o n1 n2 e
        rw [upd_ne n2]
        exact b10 _ _ n1 n2 (s89 _ _ (b7 _ _ n1 n2 e))
      · rw [List.take_add_one, ess, List.flatMap_append, ← List.append_assoc]
        refine DdA.append (plA_mono keep plall (plA_mono (fun b xs e => ?_) plall A9)) ?_
        · obtain ⟨_, ek9, _⟩ := id KP9
          exact b10 _ _ (fun z => by rw [z, ek9] at e; cases e) (fun z => by rw [z, e79] at e; cases e) e
        · have : [ss].flatMap g = (prd (tsC md) ((needsOf m).zip ss)).map mkT := by rw [eg]; simp
          show DdA _ wr (List.flatMap g [ss])
          rw [this]
          exact plA_mono keep (rows_pl _) Ar
    obtain ⟨T, a1, b1, rfl, nT, rfl, ea1, eb1⟩ := hy
    obtain ⟨⟨r, x10, x11, x12, wr, rfl, er, nr, Ar⟩, b10, KP10, e10⟩ := pp
    dsimp only at ea1 eb1
    rw [List.getElem?_map] at ea1 eb1
    obtain ⟨arg, ea, rfl⟩ := Option.map_eq_some_iff.mp ea1
    obtain ⟨sz, esz, rfl⟩ := Option.map_eq_some_iff.mp eb1
    have s11 := same_new nT (.tup [.str arg, .int (sz : Nat)])
    refine ⟨T, _, rfl, SqT.of upd_same, rfl, _, _, rfl, _, _, rfl, rfl, ?_⟩
    walk_at "rd"
    have b11 := b10.trans (Same.two s11)
    have bH11 := back (b9.trans b11)
    have KP11 := KP10.mono s11
    have e11 := s11 _ _ e10
    have er11 := s11 _ _ er
    have Ar11 := Ar.mono s11
    generalize upd H10p T (.tup [.str arg, .int (sz : Nat)]) = H11 at b11 bH11 KP11 e11 er11 Ar11 ⊢
    obtain ⟨sz1, sz2⟩ := hss1 sz (List.mem_of_getElem? esz)
    have harg := nok arg (List.mem_of_getElem? ea)
    obtain ⟨kv11, ek11, _⟩ := id KP11
    refine ⟨M, Dk, kp, kd, md, arg, sz, S, Z1, rfl, mk.butT ekp bH11, ⟨kvk, bH11 _ _ nDk ekk, qkk⟩, k1, k2, harg, sz1, by omega, lS, few, by omega, nDk, hZ1 (b9.trans b11) (by rw [e11]; intro z; cases z) (by rw [ek11]; intro z; cases z), KP11, fun p2 ws2 H12 b12 KP12 e12 A12 => ?_⟩
    have er12 := but_lst ek11 b12 _ _ er11
    have e120 := but_lst ek11 b12 _ _ e11
    have Ar12 := plA_mono (but_tup ek11 b12) (rows_pl _) Ar11
    have lr := Ar12.length
    have l2 := A12.length
    refine ⟨_, rfl, r, rfl, ⟨_, SqL.of er12⟩, fun D2 hD2 => ?_⟩
    have eq1 : ((needsOf m).zip ss)[l]? = some (arg, sz) := List.getElem?_zip_eq_some.mpr ⟨ea, esz⟩
    have etk : ((needsOf m).zip ss).take (l + 1) = ((needsOf m).zip ss).take l ++ [(arg, sz)] := by rw [List.take_add_one, eq1]; rfl
    have esn := prd_snoc (T := tsC md) (q := (arg, sz)) (((needsOf m).zip ss).take l)
    rw [← etk] at esn
    have lsn := prd_take (T := tsC md) tne (l + 1)
    rw [esn] at lsn
    obtain ⟨h, eh⟩ : ∃ h : List PyData → List PyData, h = fun row => (tsC md arg sz).map fun t => mkT (row ++ [t]) := ⟨_, rfl⟩
    have efull : (prd (tsC md) (((needsOf m).zip ss).take (l + 1))).map mkT = (prd (tsC md) (((needsOf m).zip ss).take l)).flatMap h := by
      rw [esn, List.map_flatMap, eh]
      refine flat_congr fun row _ => ?_
      rw [List.map_map]; rfl
    have lfull : ((prd (tsC md) (((needsOf m).zip ss).take l)).flatMap h).length ≤ 4000000 := by rw [← efull, List.length_map, esn]; omega
    have fpl : ∀ d ∈ (prd (tsC md) (((needsOf m).zip ss).take l)).flatMap h, plB d = true := fun d hd => by rw [← efull] at hd; exact rows_pl _ d hd
    have nD20 : D2 ≠ p0 := fun z => by rw [z, e120] at hD2; cases hD2
    refine loop_it walk_list (fun a H13 => Same H12 H13 ∧ ∃ zs, H13 D2 = some (.lst zs) ∧ DdA H13 zs (((prd (tsC md) (((needsOf m).zip ss).take l)).take a).flatMap h))
      ⟨same_new hD2 _, [], upd_same, by rw [List.take_zero]; exact .nil⟩ (fun a H13 _ p => SqL.of (p.1 _ _ er12)) (fun a y H13p H13 ha pp hy => ?_) (fun H13 pp => ?_)
    rotate_left
    · obtain ⟨s13, zs, e13, A13⟩ := pp
      rw [lr, List.length_map, List.take_length, ← efull] at A13
      exact ⟨⟨D2, _, _, _, zs, rfl, e13, nD20, A13⟩, b11.trans ((But.two b12).trans (Same.two s13)), KP12.mono s13, s13 _ _ e120⟩
    obtain ⟨rfl, ey3⟩ := hy
    obtain ⟨s13, zs, e13, A13⟩ := pp
    obtain ⟨dr, edr, hdr⟩ := Ar12.get ey3
    rw [List.getElem?_map] at edr
    obtain ⟨row, erow, rfl⟩ := Option.map_eq_some_iff.mp edr
    rw [emk] at hdr
    obtain ⟨tr, xr, rfl, etr, Axr⟩ := hdr.tupD
    have lxr := Axr.length
    have rowpl := prd_pl _ row (List.mem_of_getElem? erow)
    have et1 : ((prd (tsC md) (((needsOf m).zip ss).take l)).take (a + 1)).flatMap h = ((prd (tsC md) (((needsOf m).zip ss).take l)).take a).flatMap h ++ h row := by
      rw [List.take_add_one, erow, List.flatMap_append]; simp
    have fp := flat_pre (f := h) erow
    have prepl : ∀ d ∈ ((prd (tsC md) (((needsOf m).zip ss).take l)).take a).flatMap h, plB d = true := fun d hd => by
      obtain ⟨r1, hr1, hd⟩ := List.mem_flatMap.mp hd
      exact fpl d (List.mem_flatMap.mpr ⟨r1, List.mem_of_mem_take hr1, hd⟩)
    generalize ((prd (tsC md) (((needsOf m).zip ss).take l)).take a).flatMap h = Pa at A13 et1 fp prepl
    refine ⟨rfl, ?_⟩
    refine ⟨_, rfl, p2, rfl, ⟨_, SqL.of (s13 _ _ e12)⟩, ?_⟩
    refine loop_it walk_list (fun b H14 => Same H12 H14 ∧ ∃ zs, H14 D2 = some (.lst zs) ∧ DdA H14 zs (Pa ++ ((tsC md arg sz).take b).map fun t => mkT (row ++ [t])))
      ⟨s13, zs, e13, by rw [List.take_zero, List.map_nil, List.append_nil]; exact A13⟩ (fun b H14 _ p => SqL.of (p.1 _ _ e12)) (fun b y H14p H14 hb pp hy => ?_) (fun H14 pp => ?_)
    rotate_left
    · obtain ⟨s14, zs4, e14, A14⟩ := pp
      rw [l2, List.take_length] at A14
      refine ⟨s14, zs4, e14, ?_⟩
      rw [et1, eh]
      exact A14
    obtain ⟨rfl, ey4⟩ := hy
    obtain ⟨s14, zs4, e14, A14⟩ := pp
    obtain ⟨dt, edt, hdt⟩ := A12.get ey4
    have dtpl := tsC_pl dt (List.mem_of_getElem? edt)
    have lrow : row.length ≤ 1000 := by
      have : ∀ (qs : List (Str × Nat)), ∀ r ∈ prd (tsC md) qs, r.length = qs.length := fun qs => by
        induction qs with
        | nil => intro r hr; rw [List.mem_singleton.mp hr]; rfl
        | cons q qs ih =>
          intro r hr
          obtain ⟨t, ht, hr⟩ := List.mem_flatMap.mp (show r ∈ (tsC md q.1 q.2).flatMap _ from hr)
          obtain ⟨r2, hr2, rfl⟩ := List.mem_map.mp hr
          rw [List.length_cons, List.length_cons, ih r2 hr2]
      rw [this _ row (List.mem_of_getElem? erow), List.length_take]
      omega
    refine ⟨rfl, ?_⟩
    refine ⟨_, rfl, tr, _, rfl, .inl (SqT.of (s14 _ _ etr)), _, rfl, by show (xr ++ [y]).length ≤ sizeLine; rw [List.length_append, lxr, sizeLine_eq]; show row.length + 1 + 1 ≤ _; omega, fun tn htn => ?_⟩
    have s15 := same_new htn (.tup (xr ++ [y]))
    have l14 := A14.length
    rw [List.length_append, List.length_map, List.length_take] at l14
    have lh : (h row).length = (tsC md arg sz).length := by rw [eh]; exact List.length_map ..
    refine ⟨zs4, s15 _ _ e14, by rw [sizeLine_eq]; omega, same_put (s14.trans s15) hD2, zs4 ++ [.ref tn], upd_same, ?_⟩
    have keep : ∀ b xs, upd H14 tn (.tup (xr ++ [y])) b = some (.tup xs) → upd (upd H14 tn (.tup (xr ++ [y]))) D2 (.lst (zs4 ++ [.ref tn])) b = some (.tup xs) := fun b xs q => tup_put (s15 _ _ e14) q
    have allpl : ∀ d ∈ Pa ++ ((tsC md arg sz).take b).map (fun t => mkT (row ++ [t])), plB d = true := fun d hd => by
      rcases List.mem_append.mp hd with w | w
      · exact prepl d w
      · obtain ⟨t, ht, rfl⟩ := List.mem_map.mp w
        refine pmk _ fun x hx => ?_
        rcases List.mem_append.mp hx with v | v
        · exact rowpl x v
        · rw [List.mem_singleton.mp v]; exact tsC_pl t (List.mem_of_mem_take ht)
    rw [List.take_add_one, edt, List.map_append, ← List.append_assoc]
    refine DdA.append (plA_mono keep allpl (A14.mono s15)) (.cons ?_ .nil)
    rw [emk]
    refine .tup (keep _ _ upd_same) ?_
    have c1 := DdA.append (Axr.mono (s14.trans s15)) (.cons (hdt.mono (s14.trans s15)) .nil)
    cases Axr with
    | cons hx1 hx2 =>
      cases hx1
      refine .cons (.str _) (plA_mono keep (fun x hx => ?_) ((DdA.append hx2 (.cons hdt .nil)).mono (s14.trans s15)))
      rcases List.mem_append.mp hx with v | v
      · exact rowpl x v
      · rw [List.mem_singleton.mp v]; exact dtpl

end

section
variable {P : Program} {w : World} {K : PySem.W.Frag} {mg : Str → Option Value} {base : Heap}

theorem ok_tos (D : Df K mg "terms_of_size" s_terms_of_size) (B : Bi mg) (Bz : mg "zip" = none) (G1 : Gd P w K mg base CX0 5 "splits" ["known", "needs", "total"] (spSpl 4)) : ∀ n : Nat, Gd P w K mg base CX0 (n + 6) "terms_of_size" ["makers", "known", "kind", "size", "kept"] (spTos n)
  | 0 => by
    refine gd_of D (fun _ _ _ _ _ _ us hl => match us, hl with | [_, _, _, _, _], _ => rfl) fun f fd F => ?_
    have no : ∀ {vs : List V} {H : Hp} {Q : VK} {E : XK}, ¬ spTos 0 vs H Q E := fun h => by
      obtain ⟨_, _, _, _, _, _, _, _, _, _, _, _, _, _, _, _, _, _, _, z, _⟩ := h
      exact Nat.not_lt_zero _ z
    exact fun_q F sc_terms_of_size (fun vs H Q E h => (no h).elim) (fun cdv A outer s H vs Q E hr hq h => (no h).elim)
  | n + 1 => ok_tos_step D B Bz (ok_tos D B Bz G1 n) G1

/-- terms(signature, kind, size) -/
def spTerms : Sp := fun vs H Q _ => ∃ (v : V) (kd md : List PyData) (x : Str) (s : Nat), vs = [v, .str x, .int (s : Nat)] ∧ Dd H v (.tuple [.tuple kd, .tuple md]) ∧ okT (.tuple [.tuple kd, .tuple md]) = true ∧ sigB (.tuple [.tuple kd, .tuple md]) = true ∧ x ∈ kd.map nameOf ∧ 1 ≤ s ∧ s ≤ 8 ∧ Few md 8 ∧
  ∀ r H', Same H H' → Dd H' r (.tuple (tsC md x s)) → Q r H'
theorem sc_terms : FnScope ["signature", "kind", "size", "makers"] ["signature", "kind", "size"] (defScope s_terms) := ⟨rfl, rfl, rfl, by decide +kernel, rfl, by decide +kernel, by decide +kernel⟩

theorem okF_terms {f : Addr} {fd : FuncData} (F : Fun K "terms" "terms" s_terms f fd)  (B : Bi mg) (C : Cn mg) (G1 : Gd P w K mg base CX0 5 "check_signature" ["signature"] spCheckSig) (G2 : Gd P w K mg base CX0 2 "check_kind" ["signature", "kind"] spCheckKind) (G3 : Gd P w K mg base CX0 1 "is_whole" ["value"] spWhole) (G4 : Gd P w K mg base CX0 2 "makers_by_kind" ["signature"] spMakersBy) (G5 : Gd P w K mg base CX0 8 "sizes_of_terms" ["makers", "most"] spSizes) (G6 : Gd P w K mg base CX0 15 "terms_of_size" ["makers", "known", "kind", "size", "kept"] (spTos 9)) : Fn P w K mg base CX0 16 f fd ["signature", "kind", "size"] spTerms := by
  refine fun_q F sc_terms (fun vs H Q E h => by obtain ⟨v, kd, md, x, s, rfl, _⟩ := h; rfl) (fun cdv A outer s H vs Q E hr hq h => ?_)
  obtain ⟨v, kd, md, x, s0, rfl, hd, ok, sg, hx, h1, h8, few, k⟩ := h
  obtain ⟨kd', md', e, ek, em, _⟩ := sigB_of sg
  cases e
  refine ⟨_, (pss_cons (ps_expr (pe_g (G1.mono (by decide)) hr hq (pa_cons (pv 0) pa_nil)))
      (pss_cons (ps_expr (pe_g (G2.mono (by decide)) hr hq (pa_cons (pv 0) (pa_cons (pv 1) pa_nil))))
      (pss_cons (ps_if (PW.pt (pw_or (pt_not (pt_val (pe_g (G3.mono (by decide)) hr hq (pa_cons (pv 2) pa_nil)))) (pw_or1 (pt_not (pt_chain op_le op_le pe_int (pv 2) (pe_cn (by rfl) C.MOST_SIZE)))))) (pss_one ps_never) pss_nil)
      (pss_cons (ps_set (i := 3) sc_terms.nd rfl (Or.inl rfl) (pe_g (G4.mono (by decide)) hr hq (pa_cons (pv 0) pa_nil)))
      (pss_one (ps_ret (pe_callTy call_tuple_of (by rfl) B.tuple (by decide +kernel) (pa_cons (pe_g (G6.mono (by decide)) hr hq (pa_cons (pv 3) (pa_cons (pe_g (G5.mono (by decide)) hr hq (pa_cons (pv 3) (pa_cons (pv 2) pa_nil))) (pa_cons (pv 1) (pa_cons (pv 2) (pa_cons pe_dnewT pa_nil)))))) pa_nil)))))))), ?_⟩
  walk_at "rd"
  refine ⟨v, _, rfl, hd, ok, sg, fun H1 s1 => ?_⟩
  walk_at "rd"
  refine ⟨v, kd, _, x, rfl, hd.mono s1, ek, hx, fun H2 s2 => ?_⟩
  have s12 := s1.trans s2
  walk_at "rd"
  refine ⟨_, .int (s0 : Nat), rfl, .int _, fun H3 s3 => ?_⟩
  have s13 := s12.trans s3
  refine ⟨_, rfl, ?_⟩
  refine iteF ?_
  walk_at "rd"
  rw [decide_eq_true (show (1 : Int) ≤ (s0 : Int) from by omega)]
  refine iteT ?_
  walk_at "rd"
  rw [decide_eq_true (show (s0 : Int) ≤ 8 from by omega)]
  refine iteF ?_
  walk_at "rd"
  refine ⟨v, kd, md, rfl, hd.mono s13, ek, em, fun M H4 hM s4 mk => ?_⟩
  have s14 := s13.trans s4
  refine ⟨_, rfl, _, rfl, _, rfl, M, kd, md, s0, rfl, mk, ek, em, h8, fun Dk H5 hDk s5 kn => ?_⟩
  have s15 := s14.trans s5
  refine ⟨_, rfl, _, rfl, fun kp hkp => ?_⟩
  have s6 := same_new hkp (.dT [])
  obtain ⟨kvk, ekk, _⟩ := id kn
  have nDk : Dk ≠ kp := fun z => by rw [z, hkp] at ekk; cases ekk
  have mk6 : MkD (upd H5 kp (.dT [])) M (kd.map nameOf) md := by
    obtain ⟨L, e, hL⟩ := mk
    refine ⟨L, s6 _ _ (s5 _ _ e), fun x hx => ?_⟩
    obtain ⟨ys, e1, m⟩ := hL x hx
    exact ⟨ys, s6 _ _ (s5 _ _ e1), m.mono fun b o e2 _ => s6 _ _ (s5 _ _ e2)⟩
  refine ⟨M, Dk, kp, kd, md, x, s0, s0, fun _ => False, rfl, mk6, kn.mono s6 (Nat.le_refl _), ek, em, hx, h1, Nat.le_refl _, h8, fun s hs => few s (by omega), by omega, nDk, fun z w => w.elim, ⟨[], upd_same, ⟨[], rfl, List.nodup_nil, fun q hq => (by cases hq)⟩, fun k s v ev => (by cases ev)⟩, fun p ws H7 b7 KP7 e7 A7 => ?_⟩
  have s7 : Same H H7 := fun b o e => b7 b o (fun z => by have := s15 _ _ e; rw [z, hkp] at this; cases this) (s6 _ _ (s15 _ _ e))
  refine ⟨p, _, rfl, .inl ⟨SqL.of e7, fun q hq => ?_⟩⟩
  exact k _ _ (s7.trans (same_new hq _)) (.tup upd_same (A7.mono (same_new hq _)))
theorem ok_terms (D : Df K mg "terms" s_terms) (B : Bi mg) (C : Cn mg) (G1 : Gd P w K mg base CX0 5 "check_signature" ["signature"] spCheckSig) (G2 : Gd P w K mg base CX0 2 "check_kind" ["signature", "kind"] spCheckKind) (G3 : Gd P w K mg base CX0 1 "is_whole" ["value"] spWhole) (G4 : Gd P w K mg base CX0 2 "makers_by_kind" ["signature"] spMakersBy) (G5 : Gd P w K mg base CX0 8 "sizes_of_terms" ["makers", "most"] spSizes) (G6 : Gd P w K mg base CX0 15 "terms_of_size" ["makers", "known", "kind", "size", "kept"] (spTos 9)) : Gd P w K mg base CX0 16 "terms" ["signature", "kind", "size"] spTerms := gd_of D (fun _ _ _ _ _ _ us hl => match us, hl with | [_, _, _], _ => rfl) fun _ _ F => okF_terms F B C G1 G2 G3 G4 G5 G6

end

/-- less the places p and f -/
def del2 (p f : Addr) (H : Hp) : Hp := L2.del (L2.del H p) f
theorem del2_some {p f b : Addr} {H : Hp} {o : HO} : del2 p f H b = some o ↔ b ≠ p ∧ b ≠ f ∧ H b = some o := by
  constructor
  · intro e
    have n1 : b ≠ f := fun z => by unfold del2 at e; rw [z, del_same] at e; cases e
    unfold del2 at e
    rw [del_ne n1] at e
    have n2 : b ≠ p := fun z => by rw [z, del_same] at e; cases e
    rw [del_ne n2] at e
    exact ⟨n2, n1, e⟩
  · rintro ⟨n2, n1, e⟩
    unfold del2
    rw [del_ne n1, del_ne n2]
    exact e
theorem del2_old {p f : Addr} {H : Hp} : Same (del2 p f H) H := fun b o e => (del2_some.mp e).2.2
theorem But2.del {p f : Addr} {H H' : Hp} (b : But2 p f H H') : Same (del2 p f H) (del2 p f H') := fun a o e => by
  obtain ⟨n1, n2, e⟩ := del2_some.mp e
  exact del2_some.mpr ⟨n1, n2, b a o n1 n2 e⟩
theorem well_lst {H : Hp} {p : Addr} (W : Well H p) : ∃ xs, H p = some (HO.lst xs) := by
  obtain ⟨a, m, c, N, e⟩ := W
  exact ⟨_, e⟩
theorem dd_apart2 {p f : Addr} {H : Hp} {kvs : List (Key × V)} {r : V} {d : PyData} (W : Well H p) (ef : H f = some (.dK kvs)) (t : trB d = true) (h : Dd H r d) : Dd (del2 p f H) r d := by
  obtain ⟨xs, ep⟩ := well_lst W
  exact trD_mono (fun b ys e => del2_some.mpr ⟨(fun z => by rw [z, ep] at e; cases e), (fun z => by rw [z, ef] at e; cases e), e⟩) t h
theorem da_apart2 {p f : Addr} {H : Hp} {kvs : List (Key × V)} {rs : List V} {ds : List PyData} (W : Well H p) (ef : H f = some (.dK kvs)) (t : ∀ d ∈ ds, trB d = true) (h : DdA H rs ds) : DdA (del2 p f H) rs ds := by
  obtain ⟨xs, ep⟩ := well_lst W
  exact trA_mono (fun b ys e => del2_some.mpr ⟨(fun z => by rw [z, ep] at e; cases e), (fun z => by rw [z, ef] at e; cases e), e⟩) t h
/-- a dict of names and kinds, at most c -/
def KnW (H : Hp) (f : Addr) (c : Nat) : Prop := ∃ (kvs : List (Key × V)) (ns : List Str), H f = some (.dK kvs) ∧ kvs.map (·.1) = ns.map (fun n => (Sum.inr n : Key)) ∧ ns.length ≤ c ∧ (∀ m ∈ ns, nameS m = true) ∧ ∀ m v, valV kvs (Sum.inr m) = some v → ∃ k, v = .str k
theorem KnW.at {H H' : Hp} {f : Addr} {c : Nat} (e : H' f = H f) (h : KnW H f c) : KnW H' f c :=
  let ⟨kvs, ns, e1, q⟩ := h
  ⟨kvs, ns, e.trans e1, q⟩
theorem KnW.same {H H' : Hp} {f : Addr} {c : Nat} (s : Same H H') (h : KnW H f c) : KnW H' f c :=
  let ⟨kvs, ns, e1, q⟩ := h
  ⟨kvs, ns, s _ _ e1, q⟩
theorem KnW.but {H H' : Hp} {p f : Addr} {c : Nat} (s : But p H H') (n : f ≠ p) (h : KnW H f c) : KnW H' f c :=
  let ⟨kvs, ns, e1, q⟩ := h
  ⟨kvs, ns, s _ _ n e1, q⟩
theorem KnW.put {H : Hp} {f : Addr} {c : Nat} {kvs : List (Key × V)} {m k : Str} (e : H f = some (.dK kvs)) (hm : nameS m = true) (h : KnW H f c) : KnW (upd H f (.dK (putK kvs (Sum.inr m) (.str k)))) f (c + 1) := by
  obtain ⟨kvs2, ns, e1, ek, l, hn, hv⟩ := h
  rw [e] at e1
  cases e1
  have hv2 : ∀ j v, valV (putK kvs (Sum.inr m) (.str k)) (Sum.inr j) = some v → ∃ k, v = .str k := fun j v ev => by
    rw [valV_put] at ev
    by_cases z : (Sum.inr j : Key) = Sum.inr m
    · rw [if_pos z] at ev; cases ev; exact ⟨_, rfl⟩
    · rw [if_neg z] at ev; exact hv j v ev
  by_cases a : (kvs.any fun kv => decide (kv.1 = (Sum.inr m : Key))) = true
  · refine ⟨_, ns, upd_same, ?_, by omega, hn, hv2⟩
    rw [show putK kvs (Sum.inr m) (.str k) = kvs.map (fun kv => if kv.1 = (Sum.inr m : Key) then (kv.1, .str k) else kv) from if_pos a, List.map_map, ← ek]
    refine List.map_congr_left fun kv _ => ?_
    show (if kv.1 = _ then (kv.1, V.str k) else kv).1 = kv.1
    split <;> rfl
  · refine ⟨_, ns ++ [m], upd_same, ?_, by rw [List.length_append]; show ns.length + 1 ≤ _; omega, fun j hj => ?_, hv2⟩
    · rw [show putK kvs (Sum.inr m) (.str k) = kvs ++ [(Sum.inr m, .str k)] from if_neg a, List.map_append, List.map_append, ek]
      rfl
    · rcases List.mem_append.mp hj with w | w
      · exact hn j w
      · rw [List.mem_singleton.mp w]; exact hm
def pB : Nat → Nat
  | 0 => 3
  | n + 1 => 2 + 3 * pB n
/-- a drawn pattern, up to n deep -/
structure PatOk (md : List PyData) (x : Str) (n : Nat) (d : PyData) : Prop where
  tr : trB d = true
  pk : ∃ ls, pkB md d x = some ls
  sz : psz d ≤ pB n
  dp : d.depth ≤ n + 1
  sh : shB (n + 1) d = true
theorem pB_ge (n : Nat) : 3 ≤ pB n := by cases n <;> simp [pB] <;> (have := pB_ge ‹_›; omega)
theorem var_sh {m : Str} (h : nameS m = true) : shB 1 (.tuple [.str "?", .str m]) = true := by
  refine shB_of (by show 2 ≤ 1000; decide) fun d hd => ?_
  rcases List.mem_cons.mp hd with w | hd
  · rw [w]; decide +kernel
  · rw [List.mem_singleton.mp hd]; exact name_ok h
theorem PatOk.var {md : List PyData} {x m : Str} {n : Nat} (h : nameS m = true) : PatOk md x n (.tuple [.str "?", .str m]) where
  tr := by rw [trB, trH, if_pos rfl]; rfl
  pk := ⟨_, pkB_var h⟩
  sz := by have := pB_ge n; have : psz (.tuple [.str "?", .str m]) = 3 := by simp [psz, pszs]
           omega
  dp := by have : (PyData.tuple [.str "?", .str m]).depth = 1 := by simp [PyData.depth, PyData.depthAll]
           omega
  sh := shB_mono (by omega) (var_sh h)
theorem tOr_val {A B : TT} {σ : L2.St} {H : Hp} {K : Bool → Hp → Prop} (a b : Bool) (hA : ∀ K' : Bool → Hp → Prop, (∀ H', Same H H' → K' a H') → A σ H K') (hB : ∀ H1, Same H H1 → ∀ K' : Bool → Hp → Prop, (∀ H', Same H1 H' → K' b H') → B σ H1 K') (h : ∀ H', Same H H' → K (a || b) H') : tOr A B σ H K := by
  refine hA _ fun H1 s1 => ?_
  cases a with
  | true => exact iteT (h H1 s1)
  | false => exact iteF (hB H1 s1 _ fun H2 s2 => h H2 (s1.trans s2))
theorem num64_all : ∀ n : Fin 64, ((toString ((n : Nat) : Int) : String) : Str).length ≤ 10 ∧ ((n : Nat) : Int).natAbs.log2 < 1920 := by decide +kernel
theorem fresh_ok : (["x", "y", "v1", "v2", "a_1"] : List Str).all (fun b => (List.range 64).all fun n => nameS (b ++ ((toString ((n : Nat) : Int) : String) : Str))) = true := by decide +kernel
theorem fresh_name {b : Str} {n : Nat} (hb : b ∈ (["x", "y", "v1", "v2", "a_1"] : List Str)) (hn : n < 64) : nameS (b ++ ((toString ((n : Nat) : Int) : String) : Str)) = true :=
  List.all_eq_true.mp (List.all_eq_true.mp fresh_ok b hb) n (List.mem_range.mpr hn)

section
variable {P : Program} {w : World} {K : PySem.W.Frag} {mg : Str → Option Value} {base : Heap}

/-- _law_pattern(well, sig, kind, deep, known) -/
def spPat (n : Nat) : Sp := fun vs H Q _ => ∃ (p f : Addr) (v : V) (kd md : List PyData) (x : Str) (c : Nat), vs = [.ref p, v, .str x, .int (n : Nat), .ref f] ∧ Well H p ∧ Dd (del2 p f H) v (.tuple [.tuple kd, .tuple md]) ∧ kindsB (.tuple kd) = true ∧ makersB (kd.map nameOf) (.tuple md) = true ∧ x ∈ kd.map nameOf ∧ KnW H f c ∧ c + 3 ^ n ≤ 60 ∧
  ∀ (r : V) (d : PyData) (H' : Hp) (c' : Nat), Well H' p → But2 p f H H' → Dd (del2 p f H') r d → PatOk md x n d → KnW H' f c' → c' ≤ c + 3 ^ n → Q r H'
def spPatPrev : Nat → Sp
  | 0 => fun _ _ _ _ => False
  | n + 1 => spPat n
theorem sc_pattern : FnScope ["well", "sig", "kind", "deep", "known", "makers", "way", "own", "name", "args", "arg"] ["well", "sig", "kind", "deep", "known"] (defScope s_pattern) := ⟨rfl, rfl, rfl, by decide +kernel, rfl, by decide +kernel, by decide +kernel⟩

theorem ok_pattern_step {n : Nat} (D : Df K mg "_law_pattern" s_pattern) (B : Bi mg) (G0 : Gd P w K mg base CX0 (n + 3) "_law_pattern" ["well", "sig", "kind", "deep", "known"] (spPatPrev n)) (G1 : Gd P w K mg base CX0 1 "_law_makers" ["sig", "kind"] spLMakers) (G2 : Gd P w K mg base CX0 1 "_law_draw" ["well", "few"] spDraw) (G3 : Gd P w K mg base CX0 2 "_law_one" ["well", "some"] (spOne K)) (G4 : Gd P w K mg base CX0 2 "_law_one" ["well", "some"] (spOneL K)) : Gd P w K mg base CX0 (n + 4) "_law_pattern" ["well", "sig", "kind", "deep", "known"] (spPat n) := by
  refine gd_of D (fun _ _ _ _ _ _ us hl => match us, hl with | [_, _, _, _, _], _ => rfl) fun f fd F => ?_
  refine fun_q F sc_pattern (fun vs H Q E h => by obtain ⟨p, f, v, kd, md, x, c, rfl, _⟩ := h; rfl) (fun cdv A outer s H vs Q E hr hq h => ?_)
  obtain ⟨p, fK, v, kd, md, x, c, rfl, W, hd, k1, k2, hx, KW, hc, k⟩ := h
  refine ⟨_, (pss_cons (ps_par (i := 5) (j := 6) (by rfl) sc_pattern.nd rfl rfl (by decide) rfl rfl (pa_cons (pe_g (G1.mono (by omega)) hr hq (pa_cons (pv 1) (pa_cons (pv 2) pa_nil))) (pa_cons (pe_g (G2.mono (by omega)) hr hq (pa_cons (pv 0) (pa_cons pe_int pa_nil))) pa_nil)) (by rfl))
      (pss_cons (ps_setLc (i := 7) (own := [("name", 8)]) (g := (gName 8)) rfl sc_pattern.nd rfl rfl (sw_true rfl rfl rfl (by decide +kernel)) (pi_list (pe_callB (cr_sortDK rfl) (by rfl) B.sorted (by decide +kernel) (pa_cons (pv 4) pa_nil))) (blkOk_by (own := [("name", 8)]) (N := ["well", "sig", "kind", "deep", "known", "makers", "way", "own", "name", "args", "arg"]) (sc := defScope s_pattern) (by decide +kernel)) (fun _ _ _ _ _ => (pg_name (i := 8) sc_pattern.nd rfl (Or.inl rfl))) (fun _ _ _ _ _ => (pts_one (pt_cmpR op_eq (pe_dget (hu_of hr) (pv 4) (pv 8) (fun _ _ => rfl)) (pv 2) (nomark _)))) (fun _ _ _ _ _ => (pv 8)))
      (pss_cons (ps_if (PW.pt (pw_and (pt_cmpR (op_neL (un0 hr)) (pv 7) (pe_lst pa_nil) (nomark _)) (pw_and1 (pt_cmpR op_eq (pv 6) pe_int (nomark _))))) (pss_one (ps_ret (pe_tup (pa_cons pe_str (pa_cons (pe_g (G4.mono (by omega)) hr hq (pa_cons (pv 0) (pa_cons (pv 7) pa_nil))) pa_nil))))) pss_nil)
      (pss_cons (ps_if (PW.pt (pw_or (pt_cmpR op_lt (pv 6) pe_int (nomark _)) (pw_or (pt_cmpR op_eq (pv 3) pe_int (nomark _)) (pw_or1 (pt_cmpR (op_eqL (un0 hr)) (pv 5) (pe_lst pa_nil) (nomark _)))))) (pss_cons (ps_set (i := 8) sc_pattern.nd rfl (Or.inl rfl) (pe_op op_add_str (pe_g (G3.mono (by omega)) hr hq (pa_cons (pv 0) (pa_cons (pe_tup (pa_cons pe_str (pa_cons pe_str (pa_cons pe_str (pa_cons pe_str (pa_cons pe_str pa_nil)))))) pa_nil))) (pe_callTy call_str_int (by rfl) B.str (by decide +kernel) (pa_cons (pe_callB call_lenD (by rfl) B.len (by decide +kernel) (pa_cons (pv 4) pa_nil)) pa_nil))))
      (pss_cons (ps_dput (hu_of hr) (pv 4) (pv 8) (pv 2) rfl)
      (pss_one (ps_ret (pe_tup (pa_cons pe_str (pa_cons (pv 8) pa_nil))))))) pss_nil)
      (pss_cons (ps_asg (pe_g (G4.mono (by omega)) hr hq (pa_cons (pv 0) (pa_cons (pv 5) pa_nil))) (pg_tup rfl (pgs_cons (pg_name (i := 8) sc_pattern.nd rfl (Or.inl rfl)) (pgs_cons (pg_name (i := 9) sc_pattern.nd rfl (Or.inl rfl)) pgs_nil))))
      (pss_one (ps_ret (pe_op op_catA (pe_tup (pa_cons (pv 8) pa_nil)) (pe_callTy call_tuple_of (by rfl) B.tuple (by decide +kernel) (pa_cons (pe_lc (own := [("arg", 10)]) (g := (gName 10)) (tt := tYes) rfl sc_pattern.nd (pi_tup (pv 9)) (blkOk_by (own := [("arg", 10)]) (N := ["well", "sig", "kind", "deep", "known", "makers", "way", "own", "name", "args", "arg"]) (sc := defScope s_pattern) (by decide +kernel)) (fun _ _ _ _ _ => (pg_name (i := 10) sc_pattern.nd rfl (Or.inl rfl))) (fun _ _ _ _ _ => pts_nil) (fun _ _ _ _ _ => (pe_g (G0.mono (by omega)) hr hq (pa_cons (pv 0) (pa_cons (pv 1) (pa_cons (pv 10) (pa_cons (pe_op op_sub (pv 3) pe_int) (pa_cons (pv 4) pa_nil)))))))) pa_nil)))))))))), ?_⟩
  obtain ⟨l24, mb, mnd⟩ := makersB_parts k2
  obtain ⟨l1, l8, kb, knd⟩ := kindsB_parts k1
  have p1 : 1 ≤ 3 ^ n := Nat.pos_of_ne_zero (by have := Nat.pow_pos (n := n) (show 0 < 3 by decide); omega)
  refine ⟨_, rfl, _, rfl, v, kd, md, x, rfl, hd.mono del2_old, k2, fun l ys H1 s1 hl el M => ?_⟩
  have W1 := W.same s1
  refine ⟨_, rfl, p, 5, rfl, W1, by decide, by decide, fun way H2 w0 w5 W2 b2 => ?_⟩
  obtain ⟨xs0, ep0⟩ := well_lst W
  have nfp : fK ≠ p := fun z => by obtain ⟨_, _, e, _⟩ := KW; rw [z, ep0] at e; cases e
  have KW2 : KnW H2 fK c := (KW.same s1).but b2 nfp
  obtain ⟨kvs, ns, ef2, ek, lns, hns, hvs⟩ := id KW2
  have b02 : But p H H2 := (Same.but s1).trans b2
  have nlp : l ≠ p := fun z => W.some (z ▸ hl)
  have nlf : l ≠ fK := fun z => by obtain ⟨_, _, e, _⟩ := KW; rw [z, e] at hl; cases hl
  have el2 := b2 _ _ nlp el
  have there : ∀ m ∈ ns, ∃ k, valV kvs (Sum.inr m) = some (.str k) := fun m hm => by
    have h1 : (kvs.any fun kv => decide (kv.1 = (Sum.inr m : Key))) = true := by
      have : (Sum.inr m : Key) ∈ kvs.map (·.1) := by rw [ek]; exact List.mem_map.mpr ⟨m, hm, rfl⟩
      obtain ⟨q, hq, e⟩ := List.mem_map.mp this
      exact List.any_eq_true.mpr ⟨q, hq, decide_eq_true e⟩
    rw [valV_any] at h1
    obtain ⟨v, ev⟩ := Option.isSome_iff_exists.mp h1
    obtain ⟨k, rfl⟩ := hvs m v ev
    exact ⟨k, ev⟩
  refine ⟨_, _, rfl, _, rfl, fK, kvs, ns, rfl, ef2, ek, by omega, fun ys2 q pm srt hq => ?_⟩
  have s3 := same_new hq (.lst (ys2.map V.str))
  have eq3 : upd H2 q (.lst (ys2.map V.str)) q = some (.lst (ys2.map V.str)) := upd_same
  have W3 := W2.same s3
  have b03 := b02.trans (Same.but s3)
  have b13 := b2.trans (Same.but s3)
  have ef3 := s3 _ _ ef2
  have el3 := s3 _ _ el2
  have KW3 := KW2.same s3
  have nqp : q ≠ p := fun z => W2.some (z ▸ hq)
  generalize upd H2 q (.lst (ys2.map V.str)) = H3 at eq3 W3 b03 b13 ef3 el3 KW3 ⊢
  have lys := pm.length_eq
  refine ⟨q, rfl, ⟨_, SqL.of eq3⟩, fun D hD => ?_⟩
  have nDp : D ≠ p := fun z => W3.some (z ▸ hD)
  refine lc_it walk_list (fun i H5 => Same H3 H5 ∧ ∃ zs : List Str, H5 D = some (.lst (zs.map V.str)) ∧ zs.length ≤ i ∧ ∀ m ∈ zs, m ∈ ns) ⟨same_new hD _, [], upd_same, Nat.zero_le _, fun m hm => (by cases hm)⟩
    (fun i H5 _ pp => SqL.of (pp.1 _ _ eq3)) (fun i y H5p H5 hi pp hy => ?_) (fun H5 pp => ?_)
  · obtain ⟨rfl, ey⟩ := hy
    obtain ⟨s5, zs, e5, l5, h5⟩ := pp
    rw [List.getElem?_map] at ey
    obtain ⟨nm, en, rfl⟩ := Option.map_eq_some_iff.mp ey
    have hnm := pm.mem_iff.mp (List.mem_of_getElem? en)
    obtain ⟨kx, ev⟩ := there nm hnm
    have dg := DGet.k (k := Sum.inr nm) (s5 _ _ ef3)
    rw [ev] at dg
    rw [List.length_map] at hi
    refine ⟨rfl, ?_⟩
    refine ⟨_, rfl, _, rfl, fK, _, rfl, dg, _, rfl, rfl, _, rfl, ?_⟩
    rw [dec_str]
    by_cases ck : kx = x
    · rw [decide_eq_true ck]
      refine iteT ⟨_, rfl, _, e5, by rw [sizeLine_eq, List.length_map]; omega, same_put s5 hD, zs ++ [nm], by rw [upd_same, List.map_append]; rfl, by rw [List.length_append]; show zs.length + 1 ≤ _; omega, fun m hm => ?_⟩
      rcases List.mem_append.mp hm with w | w
      · exact h5 m w
      · rw [List.mem_singleton.mp w]; exact hnm
    · rw [decide_eq_false ck]
      exact iteF ⟨s5, zs, e5, by omega, h5⟩
  obtain ⟨s5, zs, e5, l5, h5⟩ := pp
  rw [List.length_map] at l5
  have W5 := W3.same s5
  have b05 := b03.trans (Same.but s5)
  have KW5 := KW3.same s5
  have ef5 := s5 _ _ ef3
  have el5 := s5 _ _ el3
  dsimp only [gName]
  have b15 := b13.trans (Same.but s5)
  refine seq_nx (a := tIfS _ _ _) (fun σ H6 => σ = [some (.ref p), some v, some (.str x), some (.int (n : Nat)), some (.ref fK), some (.ref l), some (.int way), some (.ref D), none, none, none] ∧ Well H6 p ∧ But p H H6 ∧ But p H1 H6 ∧ KnW H6 fK c) (fun σ H6 pp => ?_) (fun N hN => ?_)
  rotate_left
  · refine ⟨_, rfl, Nat.zero_le _, fun t1 ht1 => ?_⟩
    have s6 := same_new ht1 (.lst [])
    have W6 := W5.same s6
    refine ⟨D, t1, zs.map V.str, rfl, rfl, SqL.of (s6 _ _ e5), SqL.of upd_same, _, rfl, ?_⟩
    have e6 := s6 _ _ e5
    have b06 := b05.trans (Same.but s6)
    have b16 := b15.trans (Same.but s6)
    have KW6 := KW5.same s6
    generalize upd H5 t1 (.lst []) = H6 at e6 W6 b06 b16 KW6 ⊢
    by_cases cz : zs.map V.str = []
    · rw [decide_eq_true cz]
      exact iteF (iteF (hN _ _ ⟨rfl, W6, b06, b16, KW6⟩))
    rw [decide_eq_false cz]
    refine iteT ⟨_, rfl, rfl, _, rfl, ?_⟩
    rw [show decide (V.int way = V.int 0) = decide (way = 0) from decide_eq_decide.mpr ⟨fun z => by injection z with z, fun z => by rw [z]⟩]
    by_cases cw : way = 0
    · rw [decide_eq_true cw]
      refine iteT ?_
      refine ⟨_, rfl, _, rfl, p, D, zs.map V.str, rfl, W6, e6, nDp.symm, List.length_pos_iff.mpr cz, by rw [List.length_map]; omega, fun i w H7 ei W7 b7 => ?_⟩
      rw [List.getElem?_map] at ei
      obtain ⟨m, em, rfl⟩ := Option.map_eq_some_iff.mp ei
      have hm := hns m (h5 m (List.mem_of_getElem? em))
      refine ⟨by show 2 ≤ sizeLine; rw [sizeLine_eq]; decide, fun tn htn => ?_⟩
      have s8 := same_new htn (.tup [.str "?", .str m])
      have KW8 := (KW6.but b7 nfp).same s8
      obtain ⟨kv8, _, ek8, _⟩ := id KW8
      exact k _ (.tuple [.str "?", .str m]) _ c (W7.same s8) (But.two ((b06.trans b7).trans (Same.but s8))) (dd_apart2 (W7.same s8) ek8 (PatOk.var (md := md) (x := x) (n := n) hm).tr (.tup upd_same (.cons (.str _) (.cons (.str _) .nil)))) (PatOk.var hm) KW8 (by omega)
    · rw [decide_eq_false cw]
      exact iteF (hN _ _ ⟨rfl, W6, b06, b16, KW6⟩)
  obtain ⟨rfl, W6, b06, b16, KW6⟩ := pp
  have el6 := b16 _ _ nlp el
  refine seq_nx (a := tIfS _ _ _) (fun σ H7 => σ = [some (.ref p), some v, some (.str x), some (.int (n : Nat)), some (.ref fK), some (.ref l), some (.int way), some (.ref D), none, none, none] ∧ n ≠ 0 ∧ ys ≠ [] ∧ Well H7 p ∧ But p H H7 ∧ But p H1 H7 ∧ KnW H7 fK c) (fun σ H7 pp => ?_) (fun N hN => ?_)
  rotate_left
  · refine tOr_val (decide (way < 3)) (decide (n = 0) || decide (ys = [])) (fun K' hK => ?_) (fun H7 s7 K' hK => ?_) (fun H7 s7 => ?_)
    · walk_at "rd"
      exact hK _ (Same.refl _)
    · refine tOr_val (decide (n = 0)) (decide (ys = [])) (fun K' hK => ?_) (fun H8 s8 K' hK => ?_) hK
      · refine ⟨_, rfl, rfl, _, rfl, ?_⟩
        rw [show decide (V.int ((n : Nat) : Int) = V.int 0) = decide (n = 0) from decide_eq_decide.mpr ⟨fun z => by injection z with z; omega, fun z => by rw [z]; rfl⟩]
        exact hK _ (Same.refl _)
      · refine ⟨_, rfl, Nat.zero_le _, fun t2 ht2 => ?_⟩
        have s9 := same_new ht2 (.lst [])
        exact ⟨l, t2, ys, rfl, rfl, SqL.of (s9 _ _ (s8 _ _ (s7 _ _ el6))), SqL.of upd_same, _, rfl, hK _ s9⟩
    have W7 := W6.same s7
    have b07 := b06.trans (Same.but s7)
    have b17 := b16.trans (Same.but s7)
    have KW7 := KW6.same s7
    by_cases cc : (decide (way < 3) || (decide (n = 0) || decide (ys = []))) = true
    case neg =>
      rw [show (decide (way < 3) || (decide (n = 0) || decide (ys = []))) = false from by simpa using cc]
      have c3 : ¬ n = 0 ∧ ¬ ys = [] := by
        constructor
        · intro z; rw [decide_eq_true z] at cc; simp at cc
        · intro z; rw [decide_eq_true z] at cc; simp at cc
      exact iteF (hN _ _ ⟨rfl, c3.1, c3.2, W7, b07, b17, KW7⟩)
    rw [cc]
    refine iteT ?_
    refine ⟨_, rfl, by show 5 ≤ sizeLine; rw [sizeLine_eq]; decide, fun t ht => ?_⟩
    have s8 := same_new ht (.tup ((["x", "y", "v1", "v2", "a_1"] : List Str).map V.str))
    have W8 := W7.same s8
    have ntp : t ≠ p := fun z => W7.some (z ▸ ht)
    refine ⟨p, t, (["x", "y", "v1", "v2", "a_1"] : List Str).map V.str, rfl, W8, SqT.of upd_same, ntp.symm, by decide, by decide, fun i w H9 ei W9 b9 => ?_⟩
    rw [List.getElem?_map] at ei
    obtain ⟨bs, eb, rfl⟩ := Option.map_eq_some_iff.mp ei
    have hbs := List.mem_of_getElem? eb
    have b09 := b07.trans ((Same.but s8).trans b9)
    have KW9 := (KW7.same s8).but b9 nfp
    obtain ⟨kv9, ns9, ek9, em9, l9, hn9, hv9⟩ := id KW9
    have lk9 : kv9.length = ns9.length := by have := congrArg List.length em9; rwa [List.length_map, List.length_map] at this
    have nn := num64_all ⟨kv9.length, by omega⟩
    have hname := fresh_name hbs (n := kv9.length) (by omega)
    have nn1 : ((toString ((kv9.length : Nat) : Int) : String) : Str).length ≤ 10 := nn.1
    have lbs : bs.length ≤ 3 := by
      have : ∀ b ∈ (["x", "y", "v1", "v2", "a_1"] : List Str), b.length ≤ 3 := by decide +kernel
      exact this bs hbs
    refine ⟨_, rfl, fK, kv9, rfl, ek9, ?_⟩
    walk_at "rd"
    refine ⟨nn.2, ?_⟩
    refine ⟨_, _, rfl, rfl, by rw [sizeLine_eq]; omega, ?_⟩
    refine ⟨_, rfl, _, rfl, _, rfl, fK, _, rfl, DPut.k (k := Sum.inr (bs ++ ((toString ((kv9.length : Nat) : Int) : String) : Str))) ek9 (by rw [sizeLine_eq]; omega), ?_⟩
    generalize (bs ++ ((toString ((kv9.length : Nat) : Int) : String) : Str)) = nm at hname ⊢
    refine ⟨_, rfl, by show 2 ≤ sizeLine; rw [sizeLine_eq]; decide, fun tn htn => ?_⟩
    have KWp := KnW.put (k := x) ek9 hname KW9
    have s10 := same_new htn (.tup [.str "?", .str nm])
    have KW10 := KWp.same s10
    have Wp : Well (upd H9 fK (.dK (putK kv9 (Sum.inr nm) (.str x)))) p := by
      obtain ⟨a, m, c, N, ew⟩ := W9
      exact ⟨a, m, c, N, by rw [upd_ne nfp.symm]; exact ew⟩
    have W10 := Wp.same s10
    obtain ⟨kv10, _, ek10, _⟩ := id KW10
    have pv := PatOk.var (md := md) (x := x) (n := n) hname
    refine k _ (.tuple [.str "?", .str nm]) _ (c + 1) W10 (fun a o n1 n2 e => ?_) (dd_apart2 W10 ek10 pv.tr (.tup upd_same (.cons (.str _) (.cons (.str _) .nil)))) pv KW10 (by omega)
    refine s10 _ _ ?_
    rw [upd_ne n2]
    exact b09 _ _ n1 e
  obtain ⟨rfl, n0, yne, W7, b07, b17, KW7⟩ := pp
  have el7 := b17 _ _ nlp el
  have lM := M.len
  have lof : (ofKind md x).length ≤ md.length := List.length_filter_le _ _
  refine ⟨_, rfl, _, rfl, p, l, ys, rfl, W7, el7, nlp.symm, List.length_pos_iff.mpr yne, by omega, fun i w H8 ei W8 b8 => ?_⟩
  obtain ⟨m, em, tt, nv, na, rfl, ht, hna⟩ := M.get ei
  obtain ⟨xs1, ep1⟩ := well_lst W1
  have keep : ∀ {H' : Hp}, But p H1 H' → ∀ {b : Addr} {zs : List V}, H1 b = some (.tup zs) → H' b = some (.tup zs) := fun {H'} bt {b zs} q => bt _ _ (fun z => by rw [z, ep1] at q; cases q) q
  have b18 := b17.trans b8
  have b08 := b07.trans b8
  have KW8 := KW7.but b8 nfp
  have hmd := (List.mem_filter.mp (List.mem_of_getElem? em)).1
  have hmk := of_decide_eq_true (List.mem_filter.mp (List.mem_of_getElem? em)).2
  have lns3 := needs_few (mb m hmd)
  have nok := needs_ok2 (mb m hmd)
  obtain ⟨nm1, nm2⟩ := name_marks (mb m hmd)
  refine ⟨tt, _, rfl, SqT.of (keep b18 ht), rfl, _, _, rfl, _, _, rfl, rfl, ?_⟩
  refine ⟨_, rfl, by show 1 ≤ sizeLine; rw [sizeLine_eq]; decide, fun t2 ht2 => ?_⟩
  have s9 := same_new ht2 (.tup [.str (nameOf m)])
  have et2 : upd H8 t2 (.tup [.str (nameOf m)]) t2 = some (.tup [.str (nameOf m)]) := upd_same
  have W9 := W8.same s9
  have b19 := b18.trans (Same.but s9)
  have b09 := b08.trans (Same.but s9)
  have KW9 := KW8.same s9
  generalize upd H8 t2 (.tup [.str (nameOf m)]) = H9 at s9 et2 W9 b19 b09 KW9 ⊢
  refine ⟨_, rfl, na, rfl, ⟨_, SqT.of (keep b19 hna)⟩, fun D2 hD2 => ?_⟩
  cases n with
  | zero => exact absurd rfl n0
  | succ n =>
  have nD2p : D2 ≠ p := fun z => W9.some (z ▸ hD2)
  have nD2f : D2 ≠ fK := fun z => by obtain ⟨_, _, e, _⟩ := KW9; rw [z, e] at hD2; cases hD2
  have pw : 3 ^ (n + 1) = 3 * 3 ^ n := by rw [Nat.pow_succ]; omega
  refine lc_it walk_tup (fun j H7 => Well H7 p ∧ But2 p fK H9 H7 ∧ ∃ us ds c', H7 D2 = some (.lst us) ∧ DdA (del2 p fK H7) us ds ∧ ds.length = j ∧ (∀ d ∈ ds, trB d = true ∧ psz d ≤ pB n ∧ d.depth ≤ n + 1 ∧ shB (n + 1) d = true) ∧ (∃ ls, pkL md ds ((needsOf m).take j) = some ls) ∧ KnW H7 fK c' ∧ c' ≤ c + j * 3 ^ n)
    ⟨W9.new hD2, (new_but hD2).two, [], [], c, upd_same, .nil, rfl, (fun d hd => by cases hd), ⟨[], by rw [List.take_zero, pkL]⟩, KW9.same (same_new hD2 _), by omega⟩ (fun j H7 _ pp => SqT.of (pp.2.1 _ _ (fun z => by have := keep b19 hna; rw [z] at this; obtain ⟨_, e⟩ := well_lst W9; rw [e] at this; cases this) (fun z => by have := keep b19 hna; rw [z] at this; obtain ⟨_, _, e, _⟩ := KW9; rw [e] at this; cases this) (keep b19 hna))) (fun j y H7p H7 hj pp hy => ?_) (fun H7 pp => ?_)
  · obtain ⟨rfl, ey⟩ := hy
    obtain ⟨W7, b7, us, ds, c7, e7, A7, l7, h7, ⟨ls, hls⟩, KW7, lc7⟩ := pp
    rw [List.getElem?_map] at ey
    obtain ⟨arg, ea, rfl⟩ := Option.map_eq_some_iff.mp ey
    have ja := (List.getElem?_eq_some_iff.mp ea).1
    have bH7 : But2 p fK H H7 := (But.two b09).trans b7
    have jm : j * 3 ^ n ≤ 2 * 3 ^ n := Nat.mul_le_mul_right _ (by omega)
    refine ⟨rfl, ?_⟩
    refine ⟨_, rfl, _, rfl, _, rfl, _, rfl, ?_⟩
    walk_at "rd"
    refine ⟨p, fK, v, kd, md, arg, c7, (by show [V.ref p, v, V.str arg, V.int (((n + 1 : Nat) : Int) - 1), V.ref fK] = [V.ref p, v, V.str arg, V.int ((n : Nat) : Int), V.ref fK]; rw [show ((n + 1 : Nat) : Int) - 1 = ((n : Nat) : Int) from by omega]), W7, hd.mono bH7.del, k1, k2, nok arg (List.mem_of_getElem? ea), KW7, by omega, fun r d H8 c8 W8 b8 hr8 P8 KW8 l8 => ?_⟩
    have e8 := b8 _ _ nD2p nD2f e7
    have l7' := A7.length
    have keepD : ∀ b xs, del2 p fK H8 b = some (.tup xs) → del2 p fK (upd H8 D2 (.lst (us ++ [r]))) b = some (.tup xs) := fun b xs q => by
      obtain ⟨n1, n2, q⟩ := del2_some.mp q
      exact del2_some.mpr ⟨n1, n2, tup_put e8 q⟩
    refine ⟨us, e8, by rw [sizeLine_eq]; omega, ?_, fun a o n1 n2 e => ?_, us ++ [r], ds ++ [d], c8, upd_same, ?_, by rw [List.length_append, l7]; rfl, fun z hz => ?_, ?_, KW8.at (upd_ne nD2f.symm), by rw [Nat.add_mul]; omega⟩
    · obtain ⟨a, m, c, N, ew⟩ := W8
      exact ⟨a, m, c, N, by rw [upd_ne nD2p.symm]; exact ew⟩
    · have cD : a ≠ D2 := fun z => by rw [z, hD2] at e; cases e
      rw [upd_ne cD]
      exact (b7.trans b8) a o n1 n2 e
    · exact DdA.append (trA_mono keepD (fun d hd => (h7 d hd).1) (A7.mono b8.del)) (.cons (trD_mono keepD P8.tr hr8) .nil)
    · rcases List.mem_append.mp hz with w | w
      · exact h7 z w
      · rw [List.mem_singleton.mp w]; exact ⟨P8.tr, P8.sz, P8.dp, P8.sh⟩
    · obtain ⟨l2, hl2⟩ := P8.pk
      refine ⟨ls ++ l2, ?_⟩
      rw [List.take_add_one, ea]
      show pkL md (ds ++ [d]) ((needsOf m).take j ++ [arg]) = _
      rw [pkL_snoc (by rw [List.length_take]; omega), hls, hl2]
      rfl
  · obtain ⟨W7, b7, us, ds, c7, e7, A7, l7, h7, ⟨ls, hls⟩, KW7, lc7⟩ := pp
    have l7' := A7.length
    rw [List.length_map] at l7 hls lc7
    rw [List.take_length] at hls
    refine ⟨D2, us, rfl, .inl ⟨SqL.of e7, fun tt2 htt => ?_⟩⟩
    have ntp : tt2 ≠ p := fun z => W7.some (z ▸ htt)
    have s8 : Same H7 (upd H7 tt2 (.tup us)) := same_new htt _
    have nt2p : t2 ≠ p := fun z => W8.some (z ▸ ht2)
    have nt2f : t2 ≠ fK := fun z => by obtain ⟨_, _, e, _⟩ := KW8; rw [z, e] at ht2; cases ht2
    have b9t : But2 p fK H9 (upd H7 tt2 (.tup us)) := b7.trans (Same.two s8)
    refine catA_all (xs := [V.str (nameOf m)]) (ys := us) (b9t _ _ nt2p nt2f et2) upd_same (by rw [sizeLine_eq]; show 1 + us.length ≤ _; omega) fun c8 H8' s9' ec8 => ?_
    have W8' := (W7.same s8).same s9'
    have KW8' := (KW7.same s8).same s9'
    obtain ⟨kv8, _, ek8, _⟩ := id KW8'
    obtain ⟨xs8, ep8⟩ := well_lst W8'
    have b3m : (needsOf m).length * 3 ^ n ≤ 3 * 3 ^ n := Nat.mul_le_mul_right _ lns3
    have hps := pszs_le ds (fun d hd => (h7 d hd).2.1)
    have da := depthAll_of (fun d hd => (h7 d hd).2.2.1)
    have pz : psz (.tuple (.str (nameOf m) :: ds)) = 2 + pszs ds := by
      rw [psz, pszs, psz]
      · omega
      · intros; simp_all
    have l3 : ds.length * pB n ≤ 3 * pB n := Nat.mul_le_mul_right _ (by omega)
    have P : PatOk md x (n + 1) (.tuple (.str (nameOf m) :: ds)) := {
      tr := by rw [trB, trH, if_neg nm1, if_neg nm2]; exact trL_of fun d hd => (h7 d hd).1
      pk := ⟨ls, by rw [pkB_make nm1, findM_kind mnd hmd]; show (if kindOf m = x then pkL md ds (needsOf m) else none) = _; rw [if_pos hmk, hls]⟩
      sz := by rw [pz]; show _ ≤ 2 + 3 * pB n; omega
      dp := by
        rw [PyData.depth]
        have : PyData.depthAll (.str (nameOf m) :: ds) ≤ n + 1 := by
          unfold PyData.depthAll
          exact Nat.max_le.mpr ⟨Nat.zero_le _, da⟩
        omega
      sh := shB_of (by rw [List.length_cons]; omega) fun x hx => by
        rcases List.mem_cons.mp hx with w | w
        · rw [w]; exact shB_mono (Nat.zero_le _) (name_ok (name_of_maker (mb m hmd)))
        · exact (h7 x w).2.2.2 }
    refine k _ _ H8' c7 W8' ((But.two b09).trans (b9t.trans (Same.two s9'))) ?_ P KW8' (by omega)
    have A8 : DdA (del2 p fK H8') us ds := A7.mono ((Same.two (p := p) (q := fK) (s8.trans s9')).del)
    exact .tup (del2_some.mpr ⟨(fun z => by rw [z, ep8] at ec8; cases ec8), (fun z => by rw [z, ek8] at ec8; cases ec8), ec8⟩) (.cons (.str _) A8)

end

section
variable {P : Program} {w : World} {K : PySem.W.Frag} {mg : Str → Option Value} {base : Heap}

theorem ok_pattern (D : Df K mg "_law_pattern" s_pattern) (B : Bi mg) (G1 : Gd P w K mg base CX0 1 "_law_makers" ["sig", "kind"] spLMakers) (G2 : Gd P w K mg base CX0 1 "_law_draw" ["well", "few"] spDraw) (G3 : Gd P w K mg base CX0 2 "_law_one" ["well", "some"] (spOne K)) (G4 : Gd P w K mg base CX0 2 "_law_one" ["well", "some"] (spOneL K)) :
    ∀ n : Nat, Gd P w K mg base CX0 (n + 4) "_law_pattern" ["well", "sig", "kind", "deep", "known"] (spPat n)
  | 0 => ok_pattern_step (n := 0) D B (by
    refine gd_of D (fun _ _ _ _ _ _ us hl => match us, hl with | [_, _, _, _, _], _ => rfl) fun f fd F => ?_
    exact fun_q F sc_pattern (fun vs H Q E h => (show False from h).elim) (fun cdv A outer s H vs Q E hr hq h => (show False from h).elim)) G1 G2 G3 G4
  | n + 1 => ok_pattern_step (n := n + 1) D B (ok_pattern D B G1 G2 G3 G4 n) G1 G2 G3 G4

/-- what is drawn as patterns for kinds -/
structure PatsOk (md : List PyData) (ks : List Str) (ps : List PyData) : Prop where
  len : ps.length = ks.length
  tr : ∀ d ∈ ps, trB d = true
  pk : ∃ ls, pkL md ps ks = some ls
  sz : ∀ d ∈ ps, psz d ≤ 35
  dp : ∀ d ∈ ps, d.depth ≤ 3
  sh : ∀ d ∈ ps, shB 3 d = true
  few : szL ps ≤ 14
/-- _law_patterns(well, sig, kinds, 2) -/
def spPats : Sp := fun vs H Q _ => ∃ (p : Addr) (v z : V) (kd md : List PyData) (ks : List Str), vs = [.ref p, v, z, .int 2] ∧ Well H p ∧ Dd (L2.del H p) v (.tuple [.tuple kd, .tuple md]) ∧ kindsB (.tuple kd) = true ∧ makersB (kd.map nameOf) (.tuple md) = true ∧
  Dd (L2.del H p) z (.tuple (ks.map PyData.str)) ∧ 1 ≤ ks.length ∧ ks.length ≤ 4 ∧ (∀ x ∈ ks, x ∈ kd.map nameOf) ∧ (∀ x ∈ kd.map nameOf, nameS (("x_" : Str) ++ x) = true) ∧
  ∀ (r : V) (ps : List PyData) (H' : Hp), Well H' p → But p H H' → Dd (L2.del H' p) r (.tuple ps) → PatsOk md ks ps → Q r H'
theorem sc_patterns : FnScope ["well", "sig", "kinds", "deep", "known", "found", "kind", "part"] ["well", "sig", "kinds", "deep"] (defScope s_patterns) := ⟨rfl, rfl, rfl, by decide +kernel, rfl, by decide +kernel, by decide +kernel⟩

theorem ok_patterns (D : Df K mg "_law_patterns" s_patterns) (B : Bi mg) (Bs : mg "sum" = none) (G1 : Gd P w K mg base CX0 6 "_law_pattern" ["well", "sig", "kind", "deep", "known"] (spPat 2)) (G2 : Gd P w K mg base CX0 46 "_law_size" ["term"] (spSize 45)) : Gd P w K mg base CX0 49 "_law_patterns" ["well", "sig", "kinds", "deep"] spPats := by
  refine gd_of D (fun _ _ _ _ _ _ us hl => match us, hl with | [_, _, _, _], _ => rfl) fun f fd F => ?_
  refine fun_q F sc_patterns (fun vs H Q E h => by obtain ⟨p, v, z, kd, md, ks, rfl, _⟩ := h; rfl) (fun cdv A outer s H vs Q E hr hq h => ?_)
  obtain ⟨p, v, z, kd, md, ks, rfl, W, hd, k1, k2, hz, lk1, lk4, hk, hx, k⟩ := h
  obtain ⟨za, zx, rfl, hza, ZA⟩ := hz.tupD
  obtain rfl := ZA.strs
  refine ⟨_, (pss_cons (ps_set (i := 4) sc_patterns.nd rfl (Or.inr rfl) pe_dnewK)
      (pss_cons (ps_set (i := 5) sc_patterns.nd rfl (Or.inl rfl) (pe_callTy call_tuple_of (by rfl) B.tuple (by decide +kernel) (pa_cons (pe_lc (own := [("kind", 6)]) (g := (gName 6)) (tt := tYes) rfl sc_patterns.nd (pi_tup (pv 2)) (blkOk_by (own := [("kind", 6)]) (N := ["well", "sig", "kinds", "deep", "known", "found", "kind", "part"]) (sc := defScope s_patterns) (by decide +kernel)) (fun _ _ _ _ _ => (pg_name (i := 6) sc_patterns.nd rfl (Or.inl rfl))) (fun _ _ _ _ _ => pts_nil) (fun _ _ _ _ _ => (pe_g (G1.mono (by omega)) hr hq (pa_cons (pv 0) (pa_cons (pv 1) (pa_cons (pv 6) (pa_cons (pv 3) (pa_cons (pv 4) pa_nil)))))))) pa_nil)))
      (pss_one (ps_ret (pe_ifExp (pt_cmpR op_lt (pe_callB (cr_sum rfl) (by rfl) Bs (by decide +kernel) (pa_cons (pe_lc (own := [("part", 7)]) (g := (gName 7)) (tt := tYes) rfl sc_patterns.nd (pi_tup (pv 5)) (blkOk_by (own := [("part", 7)]) (N := ["well", "sig", "kinds", "deep", "known", "found", "kind", "part"]) (sc := defScope s_patterns) (by decide +kernel)) (fun _ _ _ _ _ => (pg_name (i := 7) sc_patterns.nd rfl (Or.inl rfl))) (fun _ _ _ _ _ => pts_nil) (fun _ _ _ _ _ => (pe_g (G2.mono (by omega)) hr hq (pa_cons (pv 7) pa_nil)))) pa_nil)) pe_int (nomark _)) (pv 5) (pe_callTy call_tuple_of (by rfl) B.tuple (by decide +kernel) (pa_cons (pe_lc (own := [("kind", 6)]) (g := (gName 6)) (tt := tYes) rfl sc_patterns.nd (pi_tup (pv 2)) (blkOk_by (own := [("kind", 6)]) (N := ["well", "sig", "kinds", "deep", "known", "found", "kind", "part"]) (sc := defScope s_patterns) (by decide +kernel)) (fun _ _ _ _ _ => (pg_name (i := 6) sc_patterns.nd rfl (Or.inl rfl))) (fun _ _ _ _ _ => pts_nil) (fun _ _ _ _ _ => (pe_tup (pa_cons pe_str (pa_cons (pe_op op_add_str pe_str (pv 6)) pa_nil))))) pa_nil))))))), ?_⟩
  refine fun fK hf => ?_
  have s1 := same_new hf (.dK [])
  have ef1 : upd H fK (.dK []) fK = some (.dK []) := upd_same
  have W1 := W.same s1
  have nfp : fK ≠ p := fun z => W.some (z ▸ hf)
  have KW1 : KnW (upd H fK (.dK [])) fK 0 := ⟨[], [], ef1, rfl, Nat.le_refl _, fun m hm => (by cases hm), fun m v e => (by cases e)⟩
  generalize upd H fK (.dK []) = H1 at s1 ef1 W1 KW1 ⊢
  have hza1 := s1 _ _ (del_old _ _ hza)
  obtain ⟨xs0, ep0⟩ := well_lst W1
  have nzp : za ≠ p := fun z => by rw [z, ep0] at hza1; cases hza1
  have nzf : za ≠ fK := fun z => by rw [z, ef1] at hza1; cases hza1
  refine ⟨_, rfl, za, rfl, ⟨_, SqT.of hza1⟩, fun D hD => ?_⟩
  have nDp : D ≠ p := fun z => W1.some (z ▸ hD)
  have nDf : D ≠ fK := fun z => by rw [z, ef1] at hD; cases hD
  have hd1 : Dd (del2 p fK H1) v (.tuple [.tuple kd, .tuple md]) := hd.mono fun b o e => by
    have nb : b ≠ p := fun z => by rw [z, del_same] at e; cases e
    rw [del_ne nb] at e
    exact del2_some.mpr ⟨nb, (fun z => by rw [z, hf] at e; cases e), s1 _ _ e⟩
  refine lc_it walk_tup (fun j H7 => Well H7 p ∧ But2 p fK H1 H7 ∧ ∃ us ds c', H7 D = some (.lst us) ∧ DdA (del2 p fK H7) us ds ∧ ds.length = j ∧ (∀ d ∈ ds, trB d = true ∧ psz d ≤ 35 ∧ d.depth ≤ 3 ∧ shB 3 d = true) ∧ (∃ ls, pkL md ds (ks.take j) = some ls) ∧ KnW H7 fK c' ∧ c' ≤ j * 9)
    ⟨W1.new hD, (new_but hD).two, [], [], 0, upd_same, .nil, rfl, (fun d hd => by cases hd), ⟨[], by rw [List.take_zero, pkL]⟩, KW1.same (same_new hD _), Nat.zero_le _⟩ (fun j H7 _ pp => SqT.of (pp.2.1 _ _ nzp nzf hza1)) (fun j y H7p H7 hj pp hy => ?_) (fun H7 pp => ?_)
  · obtain ⟨rfl, ey⟩ := hy
    obtain ⟨W7, b7, us, ds, c7, e7, A7, l7, h7, ⟨ls, hls⟩, KW7, lc7⟩ := pp
    rw [List.getElem?_map] at ey
    obtain ⟨arg, ea, rfl⟩ := Option.map_eq_some_iff.mp ey
    have ja := (List.getElem?_eq_some_iff.mp ea).1
    refine ⟨rfl, ?_⟩
    refine ⟨_, rfl, _, rfl, _, rfl, _, rfl, ?_⟩
    walk_at "rd"
    refine ⟨p, fK, v, kd, md, arg, c7, rfl, W7, hd1.mono b7.del, k1, k2, hk arg (List.mem_of_getElem? ea), KW7, by show c7 + 9 ≤ 60; omega, fun r d H8 c8 W8 b8 hr8 P8 KW8 l8 => ?_⟩
    have l8 : c8 ≤ c7 + 9 := l8
    have e8 := b8 _ _ nDp nDf e7
    have l7' := A7.length
    have keepD : ∀ b xs, del2 p fK H8 b = some (.tup xs) → del2 p fK (upd H8 D (.lst (us ++ [r]))) b = some (.tup xs) := fun b xs q => by
      obtain ⟨n1, n2, q⟩ := del2_some.mp q
      exact del2_some.mpr ⟨n1, n2, tup_put e8 q⟩
    refine ⟨us, e8, by rw [sizeLine_eq]; omega, ?_, fun a o n1 n2 e => ?_, us ++ [r], ds ++ [d], c8, upd_same, ?_, by rw [List.length_append, l7]; rfl, fun z hz => ?_, ?_, KW8.at (upd_ne nDf.symm), by omega⟩
    · obtain ⟨a, m, c, N, ew⟩ := W8
      exact ⟨a, m, c, N, by rw [upd_ne nDp.symm]; exact ew⟩
    · have cD : a ≠ D := fun z => by rw [z, hD] at e; cases e
      rw [upd_ne cD]
      exact (b7.trans b8) a o n1 n2 e
    · exact DdA.append (trA_mono keepD (fun d hd => (h7 d hd).1) (A7.mono b8.del)) (.cons (trD_mono keepD P8.tr hr8) .nil)
    · rcases List.mem_append.mp hz with w | w
      · exact h7 z w
      · rw [List.mem_singleton.mp w]; exact ⟨P8.tr, P8.sz, P8.dp, P8.sh⟩
    · obtain ⟨l2, hl2⟩ := P8.pk
      refine ⟨ls ++ l2, ?_⟩
      rw [List.take_add_one, ea]
      show pkL md (ds ++ [d]) (ks.take j ++ [arg]) = _
      rw [pkL_snoc (by rw [List.length_take]; omega), hls, hl2]
      rfl
  obtain ⟨W7, b7, us, ds, c7, e7, A7, l7, h7, ⟨ls, hls⟩, KW7, lc7⟩ := pp
  have l7' := A7.length
  rw [List.length_map] at l7 hls lc7
  rw [List.take_length] at hls
  refine ⟨D, us, rfl, .inl ⟨SqL.of e7, fun tt htt => ?_⟩⟩
  have s8 : Same H7 (upd H7 tt (.tup us)) := same_new htt _
  have W8 := W7.same s8
  have b8 : But p H (upd H7 tt (.tup us)) := fun a o n e => s8 _ _ (b7 a o n (fun z => by rw [z, hf] at e; cases e) (s1 _ _ e))
  have e8 : upd H7 tt (.tup us) tt = some (.tup us) := upd_same
  have htr : ∀ d ∈ ds, trB d = true := fun d hd => (h7 d hd).1
  have A8 : DdA (upd H7 tt (.tup us)) us ds := (A7.mono del2_old).mono s8
  generalize upd H7 tt (.tup us) = H8 at s8 W8 b8 e8 A8 ⊢
  refine ⟨_, rfl, tt, rfl, ⟨_, SqT.of e8⟩, fun D2 hD2 => ?_⟩
  refine lc_vals walk_tup (fun i => ds[i]?.map fun d => V.int ((szD d : Nat) : Int)) hD2 (by rw [l7', sizeLine_eq]; omega) (fun H s => SqT.of (s _ _ e8)) (fun i y H4 H5 K1 K0 hi s4 hy k1 k0 => ?_) (fun H4 s4 e4 => ?_)
  · obtain ⟨rfl, ey⟩ := hy
    obtain ⟨d, ed, hdd⟩ := A8.get ey
    have hm := List.mem_of_getElem? ed
    refine ⟨rfl, ?_⟩
    exact ⟨_, rfl, y, d, rfl, hdd.mono s4, htr d hm, by have := (h7 d hm).2.1; omega, by have := (h7 d hm).2.2.1; omega, fun H6 s6 => k1 _ _ (by rw [ed]; rfl) s6⟩
  rw [l7', range_map' (fun d => V.int ((szD d : Nat) : Int)) ds] at e4
  have e5 : (ds.map fun d => V.int ((szD d : Nat) : Int)) = (ds.map fun d => ((szD d : Nat) : Int)).map V.int := by rw [List.map_map]; rfl
  rw [e5] at e4
  refine ⟨D2, _, rfl, SqL.of e4, ?_⟩
  rw [szL_sum]
  walk_at "rd"
  have W4 := W8.same s4
  have b4 := b8.trans (Same.but s4)
  have apart : ∀ {H' : Hp} {rs : List V} {es : List PyData}, Well H' p → (∀ d ∈ es, trB d = true) → DdA H' rs es → DdA (L2.del H' p) rs es := fun {H' rs es} W' t A => by
    obtain ⟨xs', ep'⟩ := well_lst W'
    refine trA_mono (fun b ys e => ?_) t A
    rw [del_ne (fun z => by rw [z, ep'] at e; cases e)]
    exact e
  have at1 : ∀ {H' : Hp} {q : Addr} {rs : List V}, Well H' p → H' q = some (.tup rs) → L2.del H' p q = some (.tup rs) := fun {H' q rs} W' e => by
    obtain ⟨xs', ep'⟩ := well_lst W'
    rw [del_ne (fun z => by rw [z, ep'] at e; cases e)]
    exact e
  by_cases c15 : (((szL ds : Nat) : Int) < 15)
  · rw [decide_eq_true c15]
    refine iteT ⟨_, rfl, k _ ds H4 W4 b4 (.tup (at1 W4 (s4 _ _ e8)) (apart W4 htr (A8.mono s4))) ⟨by omega, htr, ⟨ls, hls⟩, fun d hd => (h7 d hd).2.1, fun d hd => (h7 d hd).2.2.1, fun d hd => (h7 d hd).2.2.2, by omega⟩⟩
  rw [decide_eq_false c15]
  have hza4 := b4 _ _ nzp (del_old _ _ hza)
  refine iteF ⟨_, rfl, za, rfl, ⟨_, SqT.of hza4⟩, fun D3 hD3 => ?_⟩
  obtain ⟨xv, exv⟩ : ∃ xv : Str → PyData, xv = fun k => .tuple [.str "?", .str (("x_" : Str) ++ k)] := ⟨_, rfl⟩
  have xtr : ∀ k, trB (xv k) = true := fun k => by rw [exv]; show trB (.tuple [.str "?", .str _]) = true; rw [trB, trH, if_pos rfl]; rfl
  refine lc_it walk_tup (fun i H5 => Same H4 H5 ∧ ∃ us, H5 D3 = some (.lst us) ∧ DdA H5 us ((ks.take i).map xv)) ⟨same_new hD3 _, [], upd_same, by rw [List.take_zero]; exact .nil⟩ (fun i H5 _ pp => SqT.of (pp.1 _ _ hza4)) (fun i y H5p H5 hi pp hy => ?_) (fun H5 pp => ?_)
  · obtain ⟨rfl, ey⟩ := hy
    obtain ⟨s5, us5, e5, A5⟩ := pp
    rw [List.getElem?_map] at ey
    obtain ⟨kx, ekx, rfl⟩ := Option.map_eq_some_iff.mp ey
    have hkx := hx kx (hk kx (List.mem_of_getElem? ekx))
    have l5 := A5.length
    rw [List.length_map, List.length_take] at l5
    have lnm : (("x_" : Str) ++ kx).length ≤ 12 := by
      unfold nameS at hkx
      simp only [Bool.and_eq_true] at hkx
      exact of_decide_eq_true hkx.1.1.2
    rw [Str.length_append] at lnm
    refine ⟨rfl, ?_⟩
    refine ⟨_, rfl, _, _, rfl, rfl, by rw [sizeLine_eq]; omega, by show 2 ≤ sizeLine; rw [sizeLine_eq]; decide, fun tn htn => ?_⟩
    have s6 := same_new htn (.tup [.str "?", .str (("x_" : Str) ++ kx)])
    have e6 := s6 _ _ e5
    refine ⟨us5, e6, by rw [sizeLine_eq]; omega, same_put (s5.trans s6) hD3, us5 ++ [.ref tn], upd_same, ?_⟩
    rw [List.take_add_one, ekx, List.map_append]
    have keep : ∀ b xs, upd H5 tn (.tup [.str "?", .str (("x_" : Str) ++ kx)]) b = some (.tup xs) → upd (upd H5 tn (.tup [.str "?", .str (("x_" : Str) ++ kx)])) D3 (.lst (us5 ++ [.ref tn])) b = some (.tup xs) := fun b xs q => tup_put e6 q
    refine DdA.append (trA_mono keep (fun d hd => by obtain ⟨k, _, rfl⟩ := List.mem_map.mp hd; exact xtr k) (A5.mono s6)) (.cons ?_ .nil)
    rw [exv]
    exact .tup (keep _ _ upd_same) (.cons (.str _) (.cons (.str _) .nil))
  obtain ⟨s5, us5, e5, A5⟩ := pp
  rw [List.length_map, List.take_length] at A5
  refine ⟨D3, us5, rfl, .inl ⟨SqL.of e5, fun t9 ht9 => ?_⟩⟩
  have s9 := same_new ht9 (.tup us5)
  have W9 := (W4.same s5).same s9
  have xtrs : ∀ d ∈ ks.map xv, trB d = true := fun d hd => by obtain ⟨k, _, rfl⟩ := List.mem_map.mp hd; exact xtr k
  have xpat : ∀ (kx : Str), kx ∈ ks → PatOk md kx 0 (xv kx) := fun kx h => by rw [exv]; exact PatOk.var (hx kx (hk kx h))
  refine k _ (ks.map xv) _ W9 (b4.trans (Same.but (s5.trans s9))) (.tup (at1 W9 upd_same) (apart W9 xtrs (A5.mono s9))) ⟨List.length_map _, xtrs, ?_, fun d hd => ?_, fun d hd => ?_, fun d hd => ?_, ?_⟩
  · have : ∀ ks : List Str, (∀ kx ∈ ks, PatOk md kx 0 (xv kx)) → ∃ ls, pkL md (ks.map xv) ks = some ls := fun ks => by
      induction ks with
      | nil => intro _; exact ⟨[], by rw [List.map_nil, pkL]⟩
      | cons a ks ih =>
        intro h
        obtain ⟨l1, h1⟩ := (h a (List.mem_cons_self ..)).pk
        obtain ⟨l2, h2⟩ := ih fun b hb => h b (List.mem_cons_of_mem _ hb)
        exact ⟨l1 ++ l2, by rw [List.map_cons, pkL, h1, h2]⟩
    exact this ks xpat
  · obtain ⟨kx, h, rfl⟩ := List.mem_map.mp hd
    exact Nat.le_trans (xpat kx h).sz (by decide)
  · obtain ⟨kx, h, rfl⟩ := List.mem_map.mp hd
    exact Nat.le_trans (xpat kx h).dp (by decide)
  · obtain ⟨kx, h, rfl⟩ := List.mem_map.mp hd
    exact shB_mono (by decide) (xpat kx h).sh
  · have : ∀ ks : List Str, szL (ks.map xv) = ks.length := fun ks => by
      induction ks with
      | nil => rw [List.map_nil, szL]; rfl
      | cons a ks ih =>
        rw [List.map_cons, szL, ih, List.length_cons, exv]
        show szD (.tuple [.str "?", .str _]) + _ = _
        rw [szD, szH, if_pos (.inl rfl)]
        omega
    rw [this]
    omega

end

local macro_rules | `(tactic| walk_at "stb") => `(tactic| repeat (first | exact stb_T | exact stb_V | exact stb_I | exact stb_P | exact stb_Z | exact stb_S | exact stb_K | refine stb_and ?_ ?_))
def isTn (Z : Nat) (d : PyData) : Prop := isTz 1000 Z 20 d ∧ d ≠ .tuple []
def isLr (n : Nat) (R : PyData → Prop) (d : PyData) : Prop := ∃ ds, d = .list ds ∧ ds.length ≤ n ∧ ∀ x ∈ ds, R x
theorem oz_up {s h S D : Nat} {d : PyData} (a : s ≤ S) (b : h ≤ D) (q : isOz s h d) : isOz S D d := ⟨q.1, Nat.le_trans q.2.1 a, Nat.le_trans q.2.2 b⟩
section
variable {X : Cx} {e e2 : Expr} {es : List Expr} {p : Addr} {p1 p2 p3 : L2.St → Hp → Prop} {R : PyData → Prop} {pos pos2 pos3 : Pos} {n m s t h S D : Nat}
theorem dz_bl {b : Bool} {j : Nat} (hs : 1 ≤ S := by omega) : PE X (.Constant (.bool b) j pos) (tW p pT (isOz S D)) := dw_of pe_bl fun σ H Q w _ k => k _ (.bool b) H w But.refl (.bl b) (oz_bool b hs)
theorem dz_neg {x : Int} {j : Nat} (hs : 1 ≤ S := by omega) : PE X (.UnaryOp .USub (.Constant (.int x) j pos) pos2) (tW p pT (isOz S D)) := dw_of (pe_un un_neg pe_int) fun σ H Q w _ k => ⟨x, rfl, k _ (.int (-x)) H w But.refl (.int _) (oz_int _ hs)⟩
theorem dz_pow {i k : Int} {j j2 : Nat} (h : CPow i k := by exact ⟨by decide, by decide, by decide⟩) (hs : 1 ≤ S := by omega) : PE X (.BinOp (.Constant (.int i) j pos) .Pow (.Constant (.int k) j2 pos2) pos3) (tW p pT (isOz S D)) := dw_of (pe_op op_pow pe_int pe_int) fun σ H Q w _ k0 => ⟨i, k, rfl, rfl, h, k0 _ (.int _) H w But.refl (.int _) (oz_int _ hs)⟩
theorem dr_lst (h0 : PA X es (tWr p p1 n R)) (hl : n ≤ sizeLine := by first | decide | (rw [sizeLine_eq]; decide)) : PE X (.List es pos) (tW p p1 (isLr n R)) :=
  pe_imp (pe_lstN h0) fun σ H Q ⟨w, q, k⟩ => show tWr p p1 n R σ H _ from ⟨w, q, fun vs ds H1 w1 b1 h1 l1 o1 => ⟨by rw [h1.length, l1]; exact hl, fun q hq hs => k _ _ _ (w1.new hq) (b1.trans (new_but hq))
    (.lst (del_new (w1.ne hq).symm) hs (h1.mono (new_but hq).del)) ⟨ds, rfl, by omega, o1⟩⟩⟩
theorem dz_okr (a : PE X e (tW p p1 (isLr n (isOz 1 0)))) : PE X e (tW p p1 (isOz 1 1)) := dw_imp a fun _ ⟨ds, e, l, q⟩ => by
  subst e
  refine ⟨okTs_of fun x hx => (q x hx).1, by simp [psz], ?_⟩
  rw [PyData.depth]
  have := depthAll_of fun d hd => (q d hd).2.2
  omega
theorem dr_catL (st : Stb p p2) (h : PE X e (tW p p1 (isLr n R))) (h2 : PE X e2 (tW p p2 (isLr m R))) (hl : n + m ≤ 100000 := by decide) : PE X (.BinOp e .Add e2 pos) (tW p (pAnd p1 p2) (isLr (n + m) R)) := by
  refine pe_imp (pe_op op_catN h h2) fun σ H Q ⟨w, ⟨q1, q2⟩, k⟩ => ?_
  refine ⟨w, q1, fun v d H1 w1 b1 hd pd => ⟨w1, st σ H H1 b1 q2, fun v2 d2 H2 w2 b2 hd2 pd2 => ?_⟩⟩
  obtain ⟨ds, rfl, l1, o1⟩ := pd
  obtain ⟨es, rfl, l2, o2⟩ := pd2
  obtain ⟨a, xs, rfl, ha, A⟩ := (hd.but b2).lstD
  obtain ⟨b, ys, rfl, hb, B⟩ := hd2.lstD
  have la := A.length
  have lb := B.length
  refine ⟨a, b, xs, ys, rfl, rfl, del_old _ _ ha, del_old _ _ hb, by rw [sizeLine_eq]; omega, fun q hq hs => ?_⟩
  exact k _ _ _ (w2.new hq) ((b1.trans b2).trans (new_but hq)) (.lst (del_new (w2.ne hq).symm) hs ((A.append B).mono (new_but hq).del)) ⟨_, rfl, by rw [List.length_append]; omega, fun x hx => (List.mem_append.mp hx).elim (o1 x) (o2 x)⟩
/-- t[0] -/
theorem dz_ix0 {i j : Nat} (hv : PE X e (tVar i)) (hs : 1000 ≤ S := by omega) (hd : 20 ≤ D := by omega) : PE X (.Subscript e (.Constant (.int 0) j pos2) pos) (tW p (wV p i (isTn 1000)) (isOz S D)) := by
  refine pe_imp (pe_ix ix_tup hv pe_int (fun _ _ => rfl)) fun σ H Q ⟨w, ⟨v, d, h1, h2, h3⟩, k⟩ => ?_
  obtain ⟨⟨ds, rfl, l, ls, q⟩, ne⟩ := h3
  obtain ⟨a, xs, rfl, ha, A⟩ := h2.tupD
  cases A with
  | nil => exact absurd rfl ne
  | @cons x xs0 d0 ds0 hx hr =>
    have m : d0 ∈ d0 :: ds0 := List.mem_cons_self ..
    have lz : psz d0 ≤ 1000 := by rw [pszs] at ls; omega
    exact ⟨_, h1, a, _, 0, _, rfl, rfl, SqT.of (del_old _ _ ha), atI_nat (j := 0) rfl, k _ d0 H w But.refl hx ⟨(q d0 m).1, by omega, Nat.le_trans (q d0 m).2 hd⟩⟩
end

section
variable {P : Program} {w : World} {K : PySem.W.Frag} {mg : Str → Option Value} {base : Heap}

/-- a drawn term, or a pattern -/
structure TrOk (d : PyData) : Prop where
  tr : trB d = true
  sz : psz d ≤ 1000
  sh : shB 20 d = true
theorem TrOk.tn {d : PyData} (h : TrOk d) : isTn 1000 d := by
  rcases trB_of h.tr with ⟨n, rfl⟩ | ⟨k, i, rfl⟩ | ⟨x, ps, rfl, _⟩
  all_goals exact ⟨shB_isTz h.sh h.sz, fun z => by cases z⟩
/-- _law_things(well, sig, term) -/
def spThings : Sp := fun vs H Q _ => ∃ (p : Addr) (v u : V) (kd md : List PyData) (d : PyData), vs = [.ref p, v, u] ∧ Well H p ∧ Dd (L2.del H p) v (.tuple [.tuple kd, .tuple md]) ∧ kindsB (.tuple kd) = true ∧ makersB (kd.map nameOf) (.tuple md) = true ∧ Few md 8 ∧ (∀ y ∈ kd.map nameOf, Small kd md y) ∧ Dd (L2.del H p) u d ∧ TrOk d ∧
  ∀ (q : Addr) (zs : List V) (ds : List PyData) (H' : Hp), Well H' p → But p H H' → H' q = some (.lst zs) → q ≠ p → DdA (L2.del H' p) zs ds → (∀ d ∈ ds, isOz 20000 30 d) → ds.length ≤ 200 → Q (.ref q) H'
/-- terms that are small -/
def Lw (d : PyData) : Prop := trB d = true ∧ psz d ≤ 20 ∧ d.depth ≤ 8 ∧ shB 8 d = true
theorem Lw.x : Lw (.tuple [.str "?", .str "x"]) := ⟨by rw [trB, trH, if_pos rfl]; rfl, by simp [psz, pszs], by simp [PyData.depth, PyData.depthAll], by decide +kernel⟩
theorem lw_oz {nm : Str} {es : List PyData} (hn : nameS nm = true) (h : ∀ d ∈ es, Lw d) (l : es.length ≤ 3) : isOz 20000 30 (.tuple (.str nm :: es)) := by
  refine ⟨okTs_of fun d hd => ?_, ?_, ?_⟩
  · rcases List.mem_cons.mp hd with w | w
    · rw [w]; exact shB_ok (name_ok hn)
    · exact shB_ok (h d w).2.2.2
  · have pz : psz (.tuple (.str nm :: es)) = 2 + pszs es := by
      rw [psz, pszs, psz]
      · omega
      · intros; simp_all
    have := pszs_le es fun d hd => (h d hd).2.1
    have : es.length * 20 ≤ 3 * 20 := Nat.mul_le_mul_right _ l
    omega
  · rw [PyData.depth]
    have : PyData.depthAll (.str nm :: es) ≤ 8 := by
      unfold PyData.depthAll
      exact Nat.max_le.mpr ⟨Nat.zero_le _, depthAll_of fun d hd => (h d hd).2.2.1⟩
    omega
theorem lw_push {H9 H10 : Hp} {D : Addr} {us : List V} {es : List PyData} {r : V} {d : PyData} (s : Same H9 H10) (e : H9 D = some (.lst us)) (A : DdA H9 us es) (h : ∀ d ∈ es, Lw d) (hr : Dd H10 r d) (hd : Lw d) :
    upd H10 D (.lst (us ++ [r])) D = some (.lst (us ++ [r])) ∧ DdA (upd H10 D (.lst (us ++ [r]))) (us ++ [r]) (es ++ [d]) ∧ ∀ x ∈ es ++ [d], Lw x := by
  have keep : ∀ b xs, H10 b = some (.tup xs) → upd H10 D (.lst (us ++ [r])) b = some (.tup xs) := fun b xs q => tup_put (s _ _ e) q
  refine ⟨upd_same, DdA.append (trA_mono keep (fun d hd => (h d hd).1) (A.mono s)) (.cons (trD_mono keep hd.1 hr) .nil), fun x hx => ?_⟩
  rcases List.mem_append.mp hx with w | w
  · exact h x w
  · rw [List.mem_singleton.mp w]; exact hd
/-- one more at the end of the list -/
theorem app_ok {H7 H9 : Hp} {p q c : Addr} {zs us : List V} {ds es : List PyData} {nm : Str} (s : Same H7 H9) (W7 : Well H7 p) (nqp : q ≠ p) (eq : H7 q = some (.lst zs)) (A : DdA (del2 p q H7) zs ds) (o : ∀ d ∈ ds, isOz 20000 30 d)
    (ec : H9 c = some (.tup (V.str nm :: us))) (E : DdA H9 us es) (hes : ∀ d ∈ es, Lw d) (l : es.length ≤ 3) (hn : nameS nm = true) :
    Well (upd H9 q (.lst (zs ++ [.ref c]))) p ∧ But2 p q H7 (upd H9 q (.lst (zs ++ [.ref c]))) ∧ upd H9 q (.lst (zs ++ [.ref c])) q = some (.lst (zs ++ [.ref c])) ∧ DdA (del2 p q (upd H9 q (.lst (zs ++ [.ref c])))) (zs ++ [.ref c]) (ds ++ [.tuple (.str nm :: es)]) ∧ ∀ d ∈ ds ++ [.tuple (.str nm :: es)], isOz 20000 30 d := by
  have W9 := W7.same s
  obtain ⟨xs9, ep9⟩ := well_lst W9
  have bb : But2 p q H7 (upd H9 q (.lst (zs ++ [.ref c]))) := fun a o na nb e => by rw [upd_ne nb]; exact s _ _ e
  have tt : ∀ b xs, H9 b = some (.tup xs) → del2 p q (upd H9 q (.lst (zs ++ [.ref c]))) b = some (.tup xs) := fun b xs e => by
    have n2 : b ≠ q := fun z => by rw [z, s _ _ eq] at e; cases e
    refine del2_some.mpr ⟨(fun z => by rw [z, ep9] at e; cases e), n2, ?_⟩
    rw [upd_ne n2]; exact e
  refine ⟨?_, bb, upd_same, DdA.append (A.mono bb.del) (.cons (.tup (tt _ _ ec) (.cons (.str _) (trA_mono tt (fun d hd => (hes d hd).1) E))) .nil), fun d hd => ?_⟩
  · obtain ⟨a, m, c', N, ew⟩ := W9
    exact ⟨a, m, c', N, by rw [upd_ne nqp.symm]; exact ew⟩
  · rcases List.mem_append.mp hd with w | w
    · exact o d w
    · rw [List.mem_singleton.mp w]; exact lw_oz hn hes l
theorem sc_things : FnScope ["well", "sig", "term", "kind", "other", "some", "name", "args", "own", "arg"] ["well", "sig", "term"] (defScope s_things) := ⟨rfl, rfl, rfl, by decide +kernel, rfl, by decide +kernel, by decide +kernel⟩

theorem ok_things (D : Df K mg "_law_things" s_things) (B : Bi mg) (G1 : Gd P w K mg base CX0 2 "_law_one" ["well", "some"] (spOne K)) (G2 : Gd P w K mg base CX0 50 "_law_least" ["sig", "kind"] spLeast) (G3 : Gd P w K mg base CX0 4 "_law_bent" ["well", "thing"] (spBent 1000)) (G4 : Gd P w K mg base CX0 3 "_law_odd_thing" ["well"] spOdd) : Gd P w K mg base CX0 52 "_law_things" ["well", "sig", "term"] spThings := by
  refine gd_of D (fun _ _ _ _ _ _ us hl => match us, hl with | [_, _, _], _ => rfl) fun f fd F => ?_
  refine fun_q F sc_things (fun vs H Q E h => by obtain ⟨p, v, u, kd, md, d, rfl, _⟩ := h; rfl) (fun cdv A outer s H vs Q E hr hq h => ?_)
  obtain ⟨p, v, u, kd, md, d, rfl, W, hd, k1, k2, few, sm, hu, TO, k⟩ := h
  refine ⟨_, (pss_cons (ps_par (i := 3) (j := 4) (by rfl) sc_things.nd rfl rfl (by decide) rfl rfl (pa_cons (pe_ix ix_tup (pe_g (G1.mono (by omega)) hr hq (pa_cons (pv 0) (pa_cons (pe_ix ix_tup (pv 1) pe_int (fun _ _ => rfl)) pa_nil))) pe_int (fun _ _ => rfl)) (pa_cons (pe_ix ix_tup (pe_g (G1.mono (by omega)) hr hq (pa_cons (pv 0) (pa_cons (pe_ix ix_tup (pv 1) pe_int (fun _ _ => rfl)) pa_nil))) pe_int (fun _ _ => rfl)) pa_nil)) (by rfl))
      (pss_cons (ps_set (i := 5) sc_things.nd rfl (Or.inl rfl) (dr_lst (p := p) (dr_cons (by walk_at "stb") (dz_ok1 (S := 20000) (D := 30) (dw_imp (dw_var (P := isTn 1000) (pv 2)) fun _ q => q.1)) (dr_cons (by walk_at "stb") (dz_okL (S := 20000) (D := 30) (dz_list B.list (dw_imp (dw_var (P := isTn 1000) (pv 2)) fun _ q => q.1))) (dr_cons (by walk_at "stb") (dz_ok1 (S := 20000) (D := 30) (dz_cat (by walk_at "stb") (dw_imp (dw_var (P := isTn 1000) (pv 2)) fun _ q => q.1) (dz_cut (p2 := pT) (dw_imp (dw_var (P := isTn 1000) (pv 2)) fun _ q => q.1) (po_some (pe_un un_neg pe_int)) po_none (fun _ _ _ _ q => ⟨1, rfl, -1, rfl, q _⟩) (fun _ _ _ _ q => q none) stb_T))) (dr_cons (by walk_at "stb") (dz_ok1 (S := 20000) (D := 30) (dz_cut (p2 := pT) (dw_imp (dw_var (P := isTn 1000) (pv 2)) fun _ q => q.1) po_none (po_some (pe_un un_neg pe_int)) (fun _ _ _ _ q => q none) (fun _ _ _ _ q => ⟨1, rfl, -1, rfl, q _⟩) stb_T)) (dr_cons (by walk_at "stb") (dz_ok1 (S := 20000) (D := 30) (dr_tup (dr_cons (by walk_at "stb") (dz_ok0 (dw_imp (dw_var (P := isTn 1000) (pv 2)) fun _ q => q.1)) dr_nil))) (dr_cons (by walk_at "stb") (dz_ok1 (S := 20000) (D := 30) (dr_tup (dr_cons (by walk_at "stb") (dz_str (S := 1) (D := 0)) (dr_cons (by walk_at "stb") (dw_imp (dw_var (P := isOz 1 0) (pv 3)) fun _ q => oz_up (S := 1) (D := 0) (by decide) (by decide) q) (dr_cons (by walk_at "stb") (dz_int (S := 1) (D := 0)) dr_nil))))) (dr_cons (by walk_at "stb") (dz_ok1 (S := 20000) (D := 30) (dr_tup (dr_cons (by walk_at "stb") (dz_str (S := 1) (D := 0)) (dr_cons (by walk_at "stb") (dw_imp (dw_var (P := isOz 1 0) (pv 3)) fun _ q => oz_up (S := 1) (D := 0) (by decide) (by decide) q) (dr_cons (by walk_at "stb") (dz_int (S := 1) (D := 0)) dr_nil))))) (dr_cons (by walk_at "stb") (dz_ok1 (S := 20000) (D := 30) (dr_tup (dr_cons (by walk_at "stb") (dz_str (S := 1) (D := 0)) (dr_cons (by walk_at "stb") (dw_imp (dw_var (P := isOz 1 0) (pv 3)) fun _ q => oz_up (S := 1) (D := 0) (by decide) (by decide) q) (dr_cons (by walk_at "stb") (dz_neg (S := 1) (D := 0)) dr_nil))))) (dr_cons (by walk_at "stb") (dz_ok1 (S := 20000) (D := 30) (dr_tup (dr_cons (by walk_at "stb") (dz_str (S := 1) (D := 0)) (dr_cons (by walk_at "stb") (dw_imp (dw_var (P := isOz 1 0) (pv 4)) fun _ q => oz_up (S := 1) (D := 0) (by decide) (by decide) q) (dr_cons (by walk_at "stb") (dz_int (S := 1) (D := 0)) dr_nil))))) dr_nil)))))))))))
      (pss_cons (ps_set (i := 5) sc_things.nd rfl (Or.inl rfl) (dr_catL (by walk_at "stb") (dw_var (p := p) (P := isLr 9 (isOz 20000 30)) (pv 5)) (dr_lst (p := p) (dr_cons (by walk_at "stb") (dz_ok1 (S := 20000) (D := 30) (dr_tup (dr_cons (by walk_at "stb") (dz_str (S := 1) (D := 0)) (dr_cons (by walk_at "stb") (dw_imp (dw_var (P := isOz 1 0) (pv 3)) fun _ q => oz_up (S := 1) (D := 0) (by decide) (by decide) q) (dr_cons (by walk_at "stb") (dz_bl (S := 1) (D := 0)) dr_nil))))) (dr_cons (by walk_at "stb") (dz_ok1 (S := 20000) (D := 30) (dr_tup (dr_cons (by walk_at "stb") (dz_str (S := 1) (D := 0)) (dr_cons (by walk_at "stb") (dw_imp (dw_var (P := isOz 1 0) (pv 3)) fun _ q => oz_up (S := 1) (D := 0) (by decide) (by decide) q) dr_nil)))) (dr_cons (by walk_at "stb") (dz_ok1 (S := 20000) (D := 30) (dr_tup (dr_cons (by walk_at "stb") (dz_str (S := 1) (D := 0)) (dr_cons (by walk_at "stb") (dw_imp (dw_var (P := isOz 1 0) (pv 3)) fun _ q => oz_up (S := 1) (D := 0) (by decide) (by decide) q) (dr_cons (by walk_at "stb") (dz_int (S := 1) (D := 0)) (dr_cons (by walk_at "stb") (dz_int (S := 1) (D := 0)) dr_nil)))))) (dr_cons (by walk_at "stb") (dz_ok1 (S := 20000) (D := 30) (dr_tup (dr_cons (by walk_at "stb") (dz_str (S := 1) (D := 0)) (dr_cons (by walk_at "stb") (dz_str (S := 1) (D := 0)) dr_nil)))) (dr_cons (by walk_at "stb") (dz_ok1 (S := 20000) (D := 30) (dr_tup (dr_cons (by walk_at "stb") (dz_str (S := 1) (D := 0)) (dr_cons (by walk_at "stb") (dz_str (S := 1) (D := 0)) dr_nil)))) (dr_cons (by walk_at "stb") (dz_ok1 (S := 20000) (D := 30) (dr_tup (dr_cons (by walk_at "stb") (dz_str (S := 1) (D := 0)) dr_nil))) (dr_cons (by walk_at "stb") (dz_ok1 (S := 20000) (D := 30) (dr_tup (dr_cons (by walk_at "stb") (dz_str (S := 1) (D := 0)) (dr_cons (by walk_at "stb") (dz_str (S := 1) (D := 0)) (dr_cons (by walk_at "stb") (dz_str (S := 1) (D := 0)) dr_nil))))) (dr_cons (by walk_at "stb") (dz_ok1 (S := 20000) (D := 30) (dr_tup (dr_cons (by walk_at "stb") (dw_imp (dw_var (P := isOz 1 0) (pv 3)) fun _ q => oz_up (S := 1) (D := 0) (by decide) (by decide) q) dr_nil))) (dr_cons (by walk_at "stb") (dz_ix0 (S := 20000) (D := 30) (pv 2)) dr_nil))))))))))))
      (pss_cons (ps_set (i := 5) sc_things.nd rfl (Or.inl rfl) (pe_op op_catN (pv 5) (dr_lst (p := p) (dr_cons (by walk_at "stb") (dz_ok1 (S := 20000) (D := 30) (dr_tup (dr_cons (by walk_at "stb") (dz_str (S := 1) (D := 0)) (dr_cons (by walk_at "stb") (dz_str (S := 1) (D := 0)) dr_nil)))) (dr_cons (by walk_at "stb") (dz_ok1 (S := 20000) (D := 30) (dr_tup (dr_cons (by walk_at "stb") (dz_str (S := 1) (D := 0)) (dr_cons (by walk_at "stb") (dz_str (S := 1) (D := 0)) dr_nil)))) (dr_cons (by walk_at "stb") (dz_ok1 (S := 20000) (D := 30) (dr_tup (dr_cons (by walk_at "stb") (dz_str (S := 1) (D := 0)) (dr_cons (by walk_at "stb") (dz_str (S := 1) (D := 0)) dr_nil)))) (dr_cons (by walk_at "stb") (dz_ok1 (S := 20000) (D := 30) (dr_tup (dr_cons (by walk_at "stb") (dz_str (S := 1) (D := 0)) (dr_cons (by walk_at "stb") (dz_str (S := 1) (D := 0)) dr_nil)))) (dr_cons (by walk_at "stb") (dz_ok1 (S := 20000) (D := 30) (dr_tup (dr_cons (by walk_at "stb") (dz_str (S := 1) (D := 0)) (dr_cons (by walk_at "stb") (dz_str (S := 1) (D := 0)) dr_nil)))) (dr_cons (by walk_at "stb") (dz_ok1 (S := 20000) (D := 30) (dr_tup (dr_cons (by walk_at "stb") (dz_str (S := 1) (D := 0)) (dr_cons (by walk_at "stb") (dw_imp (dw_var (P := isOz 1 0) (pv 3)) fun _ q => oz_up (S := 1) (D := 0) (by decide) (by decide) q) (dr_cons (by walk_at "stb") (dz_str (S := 1) (D := 0)) dr_nil))))) (dr_cons (by walk_at "stb") (dz_ok1 (S := 20000) (D := 30) (dr_tup (dr_cons (by walk_at "stb") (dz_okr (dr_lst (dr_cons (by walk_at "stb") (dz_str (S := 1) (D := 0)) dr_nil))) (dr_cons (by walk_at "stb") (dw_imp (dw_var (P := isOz 1 0) (pv 3)) fun _ q => oz_up (S := 1) (D := 1) (by decide) (by decide) q) (dr_cons (by walk_at "stb") (dz_int (S := 1) (D := 1)) dr_nil))))) (dr_cons (by walk_at "stb") (dz_ok1 (S := 20000) (D := 30) (dr_tup (dr_cons (by walk_at "stb") (dz_str (S := 1) (D := 0)) (dr_cons (by walk_at "stb") (dw_imp (dw_var (P := isOz 1 0) (pv 3)) fun _ q => oz_up (S := 1) (D := 0) (by decide) (by decide) q) (dr_cons (by walk_at "stb") (dz_pow (S := 1) (D := 0)) dr_nil))))) dr_nil)))))))))))
      (pss_cons (ps_for PassesOwn.never rfl (pi_tup (pe_ix ix_tup (pv 1) pe_int (fun _ _ => rfl))) (pg_tup rfl (pgs_cons (pg_name (i := 6) sc_things.nd rfl (Or.inl rfl)) (pgs_cons (pg_name (i := 7) sc_things.nd rfl (Or.inl rfl)) (pgs_cons (pg_name (i := 8) sc_things.nd rfl (Or.inl rfl)) pgs_nil)))) (pss_cons (ps_expr (pe_bm PySem.F.plainAttrs_list PySem.F.slot_list_append PySem.F.type_list_append mt_append (pv 5) (pa_cons (pe_op op_catA (pe_tup (pa_cons (pv 6) pa_nil)) (pe_callTy call_tuple_of (by rfl) B.tuple (by decide +kernel) (pa_cons (pe_lc (own := [("arg", 9)]) (g := (gName 9)) (tt := tYes) rfl sc_things.nd (pi_tup (pv 7)) (blkOk_by (own := [("arg", 9)]) (N := ["well", "sig", "term", "kind", "other", "some", "name", "args", "own", "arg"]) (sc := defScope s_things) (by decide +kernel)) (fun _ _ _ _ _ => (pg_name (i := 9) sc_things.nd rfl (Or.inl rfl))) (fun _ _ _ _ _ => pts_nil) (fun _ _ _ _ _ => (pe_g (G2.mono (by omega)) hr hq (pa_cons (pv 1) (pa_cons (pv 9) pa_nil))))) pa_nil))) pa_nil)))
      (pss_cons (ps_expr (pe_bm PySem.F.plainAttrs_list PySem.F.slot_list_append PySem.F.type_list_append mt_append (pv 5) (pa_cons (pe_op op_catA (pe_tup (pa_cons (pv 6) pa_nil)) (pe_callTy call_tuple_of (by rfl) B.tuple (by decide +kernel) (pa_cons (pe_lc (own := [("arg", 9)]) (g := (gName 9)) (tt := tYes) rfl sc_things.nd (pi_tup (pv 7)) (blkOk_by (own := [("arg", 9)]) (N := ["well", "sig", "term", "kind", "other", "some", "name", "args", "own", "arg"]) (sc := defScope s_things) (by decide +kernel)) (fun _ _ _ _ _ => (pg_name (i := 9) sc_things.nd rfl (Or.inl rfl))) (fun _ _ _ _ _ => pts_nil) (fun _ _ _ _ _ => (pe_tup (pa_cons pe_str (pa_cons pe_str pa_nil))))) pa_nil))) pa_nil)))
      (pss_one (ps_expr (pe_bm PySem.F.plainAttrs_list PySem.F.slot_list_append PySem.F.type_list_append mt_append (pv 5) (pa_cons (pe_op op_catA (pe_tup (pa_cons (pv 6) pa_nil)) (pe_callTy call_tuple_of (by rfl) B.tuple (by decide +kernel) (pa_cons (pe_lc (own := [("arg", 9)]) (g := (gName 9)) (tt := tYes) rfl sc_things.nd (pi_tup (pe_slice sl_tupA (pv 7) (po_some pe_int) po_none)) (blkOk_by (own := [("arg", 9)]) (N := ["well", "sig", "term", "kind", "other", "some", "name", "args", "own", "arg"]) (sc := defScope s_things) (by decide +kernel)) (fun _ _ _ _ _ => (pg_name (i := 9) sc_things.nd rfl (Or.inl rfl))) (fun _ _ _ _ _ => pts_nil) (fun _ _ _ _ _ => (pe_g (G2.mono (by omega)) hr hq (pa_cons (pv 1) (pa_cons (pv 9) pa_nil))))) pa_nil))) pa_nil)))))))
      (pss_one (ps_ret (pe_op op_cat (pv 5) (pe_lst (pa_cons (pe_g (G3.mono (by omega)) hr hq (pa_cons (pv 0) (pa_cons (pv 2) pa_nil))) (pa_cons (pe_g (G3.mono (by omega)) hr hq (pa_cons (pv 0) (pa_cons (pv 2) pa_nil))) (pa_cons (pe_g (G3.mono (by omega)) hr hq (pa_cons (pv 0) (pa_cons (pv 2) pa_nil))) (pa_cons (pe_g (G4.mono (by omega)) hr hq (pa_cons (pv 0) pa_nil)) pa_nil))))))))))))), ?_⟩
  obtain ⟨l24, mb, mnd⟩ := makersB_parts k2
  obtain ⟨l1, l8, kb, knd⟩ := kindsB_parts k1
  have hd0 := hd
  obtain ⟨sa, vk, vm, rfl, hsa, hk, hm⟩ := dd2 hd
  obtain ⟨ka, kx, rfl, hka, KA⟩ := hk.tupD
  obtain ⟨ma, mx, rfl, hma, MA⟩ := hm.tupD
  have lk := KA.length
  have lm := MA.length
  have up : ∀ {H' : Hp}, But p H H' → ∀ {a : Addr} {o : HO}, L2.del H p a = some o → H' a = some o := fun {H'} b {a o} e => del_old _ _ (b.del _ _ e)
  have npk : p ≠ ka := fun z => by rw [← z, del_at] at hka; cases hka
  refine ⟨_, rfl, _, rfl, sa, _, 0, _, rfl, rfl, SqT.of (del_old _ _ hsa), rfl, p, ka, kx, rfl, W, SqT.of (del_old _ _ hka), npk, by omega, by omega, fun j w H1 ej W1 b1 => ?_⟩
  obtain ⟨q1, x1, c1, ed1, rfl, hq1, _⟩ := kind_at KA kb ej
  refine ⟨q1, _, 0, _, rfl, rfl, SqT.of (up b1 hq1), rfl, ?_⟩
  refine ⟨_, rfl, _, rfl, sa, _, 0, _, rfl, rfl, SqT.of (up b1 hsa), rfl, p, ka, kx, rfl, W1, SqT.of (up b1 hka), npk, by omega, by omega, fun j2 w2 H2 ej2 W2 b2 => ?_⟩
  obtain ⟨q2, x2, c2, ed2, rfl, hq2, _⟩ := kind_at KA kb ej2
  have b02 := b1.trans b2
  refine ⟨q2, _, 0, _, rfl, rfl, SqT.of (up b02 hq2), rfl, ?_⟩
  refine ⟨_, _, rfl, ?_⟩
  have o1 : isOz 1 0 (.str x1) := oz_str (shB_ok (name_ok (name_of_kind kb (List.mem_map.mpr ⟨_, List.mem_of_getElem? ed1, rfl⟩))))
  have o2 : isOz 1 0 (.str x2) := oz_str (shB_ok (name_ok (name_of_kind kb (List.mem_map.mpr ⟨_, List.mem_of_getElem? ed2, rfl⟩))))
  have pv2 : ∀ {H' : Hp} {y5 : Option V}, But p H H' → wV p 2 (isTn 1000) [some (.ref p), some (.ref sa), some u, some (.str x1), some (.str x2), y5, none, none, none, none] H' := fun {H' y5} b => ⟨u, d, rfl, hu.but b, TO.tn⟩
  have pv3 : ∀ {H' : Hp} {y5 : Option V}, wV p 3 (isOz 1 0) [some (.ref p), some (.ref sa), some u, some (.str x1), some (.str x2), y5, none, none, none, none] H' := fun {H' y5} => ⟨_, .str x1, rfl, .str _, o1⟩
  have pv4 : ∀ {H' : Hp} {y5 : Option V}, wV p 4 (isOz 1 0) [some (.ref p), some (.ref sa), some u, some (.str x1), some (.str x2), y5, none, none, none, none] H' := fun {H' y5} => ⟨_, .str x2, rfl, .str _, o2⟩
  refine ⟨W2, ?_, fun v5 d5 H3 W3 b3 hd5 pd5 => ?_⟩
  · repeat (first | exact pv2 b02 | exact pv3 | exact pv4 | exact True.intro | refine And.intro ?_ ?_)
  have b03 := b02.trans b3
  refine ⟨W3, ?_, fun v6 d6 H4 W4 b4 hd6 pd6 => ?_⟩
  · have pv5 : wV p 5 (isLr 9 (isOz 20000 30)) [some (.ref p), some (.ref sa), some u, some (.str x1), some (.str x2), some v5, none, none, none, none] H3 := ⟨v5, d5, rfl, hd5, pd5⟩
    repeat (first | exact pv2 b03 | exact pv3 | exact pv4 | exact pv5 | exact True.intro | refine And.intro ?_ ?_)
  have b04 := b03.trans b4
  obtain ⟨ds6, rfl, l6, o6⟩ := pd6
  obtain ⟨qa, xa, rfl, hqa, A6⟩ := hd6.lstD
  refine ⟨_, rfl, W4, ?_, fun v7 d7 H5 W5 b5 hd7 pd7 => ?_⟩
  · repeat (first | exact pv2 b04 | exact pv3 | exact pv4 | exact True.intro | refine And.intro ?_ ?_)
  have b05 := b04.trans b5
  obtain ⟨ds7, rfl, l7, o7⟩ := pd7
  obtain ⟨qb, xb, rfl, hqb, A7⟩ := hd7.lstD
  have la6 := A6.length
  have la7 := A7.length
  have l6 : ds6.length ≤ 18 := l6
  have l7 : ds7.length ≤ 8 := l7
  refine ⟨qa, qb, xa, xb, rfl, rfl, del_old _ _ (b5.del _ _ hqa), del_old _ _ hqb, by rw [sizeLine_eq]; omega, fun q hq hs => ?_⟩
  have nqp : q ≠ p := fun z => W5.some (z ▸ hq)
  have s6 := same_new hq (.lst (xa ++ xb))
  have b06 := b05.trans (Same.but s6)
  have W6 := W5.same s6
  have eq6 : upd H5 q (.lst (xa ++ xb)) q = some (.lst (xa ++ xb)) := upd_same
  have A67 : DdA (del2 p q (upd H5 q (.lst (xa ++ xb)))) (xa ++ xb) (ds6 ++ ds7) := (DdA.append (A6.but b5) A7).mono fun b o e => by
    have nb : b ≠ p := fun z => by rw [z, del_same] at e; cases e
    rw [del_ne nb] at e
    exact del2_some.mpr ⟨nb, (fun z => by rw [z, hq] at e; cases e), s6 _ _ e⟩
  have o67 : ∀ d ∈ ds6 ++ ds7, isOz 20000 30 d := fun d hd => (List.mem_append.mp hd).elim (o6 d) (o7 d)
  have l67 : (ds6 ++ ds7).length ≤ 26 := by rw [List.length_append]; omega
  generalize upd H5 q (.lst (xa ++ xb)) = H6 at s6 b06 W6 eq6 A67 ⊢
  generalize xa ++ xb = z6 at eq6 A67
  generalize ds6 ++ ds7 = d6' at A67 o67 l67
  have nq : ∀ {a : Addr} {o : HO}, L2.del H p a = some o → a ≠ q := fun {a o} e z => by rw [z] at e; have := b05.del _ _ e; rw [del_ne nqp, hq] at this; cases this
  have np : ∀ {a : Addr} {o : HO}, L2.del H p a = some o → a ≠ p := fun {a o} e z => by rw [z, del_at] at e; cases e
  refine ⟨_, rfl, sa, _, 1, _, rfl, rfl, SqT.of (up b06 hsa), rfl, ma, rfl, ⟨_, SqT.of (up b06 hma)⟩, ?_⟩
  refine for_it walk_tup (fun i σ H7 => (∃ n6 n7 n8, σ = [some (.ref p), some (.ref sa), some u, some (.str x1), some (.str x2), some (.ref q), n6, n7, n8, none]) ∧ Well H7 p ∧ But2 p q H6 H7 ∧ ∃ zs ds, H7 q = some (.lst zs) ∧ DdA (del2 p q H7) zs ds ∧ (∀ d ∈ ds, isOz 20000 30 d) ∧ ds.length ≤ 26 + 3 * i)
    ⟨⟨_, _, _, rfl⟩, W6, But2.refl, z6, d6', eq6, A67, o67, l67⟩ (fun i σ H7 _ pp => SqT.of (pp.2.2.1 _ _ (np hma) (nq hma) (up b06 hma))) (fun i y σ H7p H7 hi pp hy => ?_) (fun σ H7 pp => ?_)
  rotate_left
  · obtain ⟨⟨n6, n7, n8, rfl⟩, W7, b7, zs, ds, e7, A7', o7', l7'⟩ := pp
    have b07 : But p H H7 := fun a o na e => by
      have nb : a ≠ q := fun z => by have := b05 a o na e; rw [z, hq] at this; cases this
      exact b7 a o na nb (b06 a o na e)
    have lz := A7'.length
    have A7p : DdA (L2.del H7 p) zs ds := A7'.mono fun a o e => by
      obtain ⟨m1, m2, m3⟩ := del2_some.mp e
      rw [del_ne m1]; exact m3
    refine ⟨_, rfl, ?_⟩
    refine ⟨_, rfl, _, rfl, p, u, d, rfl, W7, hu.but b07, TO.sh, TO.sz, fun v1 d1 H8 W8 b8 h8 o8 => ?_⟩
    refine ⟨_, rfl, _, rfl, p, u, d, rfl, W8, hu.but (b07.trans b8), TO.sh, TO.sz, fun v2 d2 H9 W9 b9 h9 o9 => ?_⟩
    refine ⟨_, rfl, _, rfl, p, u, d, rfl, W9, hu.but ((b07.trans b8).trans b9), TO.sh, TO.sz, fun v3 d3 H10 W10 b10 h10 o10 => ?_⟩
    refine ⟨_, rfl, p, rfl, W10, fun v4 d4 H11 m4 W11 b11 h11 => ?_⟩
    have h11 := h11.apart W10.some
    have b811 := (b9.trans b10).trans b11
    have b711 := b8.trans b811
    refine ⟨by show 4 ≤ sizeLine; rw [sizeLine_eq]; decide, fun r hr => ?_⟩
    have s12 := same_new hr (.lst [v1, v2, v3, v4])
    have b712 := b711.trans (Same.but s12)
    have W12 := W11.same s12
    have e12 := b712 _ _ nqp e7
    have lm24 : mx.length ≤ 24 := by omega
    have l7' : ds.length ≤ 98 := by omega
    refine ⟨q, r, zs, _, rfl, rfl, e12, upd_same, by rw [sizeLine_eq]; show _ + 4 ≤ _; omega, fun q2 hq2 => ?_⟩
    have s13 := same_new hq2 (.lst (zs ++ [v1, v2, v3, v4]))
    have W13 := W12.same s13
    have nq2 : q2 ≠ p := fun z => W12.some (z ▸ hq2)
    have s1213 := Same.but (p := p) (s12.trans s13)
    refine k q2 _ (ds ++ [d1, d2, d3, d4]) _ W13 (b07.trans (b712.trans (Same.but s13))) upd_same nq2 (DdA.append (A7p.but (b712.trans (Same.but s13))) (.cons (h8.but (b811.trans s1213)) (.cons (h9.but ((b10.trans b11).trans s1213)) (.cons (h10.but (b11.trans s1213)) (.cons (h11.but s1213) .nil))))) (fun x hx => ?_) (by rw [List.length_append]; show _ + 4 ≤ _; omega)
    rcases List.mem_append.mp hx with w | w
    · exact o7' x w
    · rcases List.mem_cons.mp w with w | w
      · rw [w]; exact oz_up (by decide) (by decide) o8
      rcases List.mem_cons.mp w with w | w
      · rw [w]; exact oz_up (by decide) (by decide) o9
      rcases List.mem_cons.mp w with w | w
      · rw [w]; exact oz_up (by decide) (by decide) o10
      · rw [List.mem_singleton.mp w]; exact odd_oz (by omega) (by omega) d4 m4
  obtain ⟨rfl, ey⟩ := hy
  obtain ⟨⟨n6, n7, n8, rfl⟩, W7, b7, zs, ds, e7, A7', o7', l7'⟩ := pp
  obtain ⟨qm, nm, ns, kk, na, em, rfl, hqm, hna, l3, hns, hkk⟩ := maker_at MA mb ey
  have hnm := name_of_maker (mb _ (List.mem_of_getElem? em))
  have hnm : nameS nm = true := hnm
  have bT : ∀ {H' : Hp}, But2 p q H6 H' → ∀ {a : Addr} {o : HO}, L2.del H p a = some o → H' a = some o := fun {H'} b {a o} e => b _ _ (np e) (nq e) (up b06 e)
  have hdS : ∀ {H' : Hp}, But2 p q H6 H' → Dd H' (.ref sa) (.tuple [.tuple kd, .tuple md]) := fun {H'} b => hd0.mono fun a o e => bT b e
  have lna := hna
  refine ⟨qm, _, rfl, SqT.of (bT b7 hqm), rfl, _, _, rfl, _, _, rfl, _, _, rfl, rfl, ?_⟩
  have il : i < 24 := by omega
  have lA0 := A7'.length
  refine ⟨_, rfl, .inl ⟨rfl, _, SqL.of e7⟩, ?_⟩
  refine ⟨_, rfl, by show 1 ≤ sizeLine; rw [sizeLine_eq]; decide, fun t2 ht2 => ?_⟩
  have s8 := same_new ht2 (.tup [.str nm])
  have et2 : upd H7 t2 (.tup [.str nm]) t2 = some (.tup [.str nm]) := upd_same
  generalize upd H7 t2 (.tup [.str nm]) = H8 at s8 et2 ⊢
  have enc := s8 _ _ (bT b7 hna)
  have nc := na
  refine ⟨_, rfl, na, rfl, ⟨_, SqT.of enc⟩, fun D hD => ?_⟩
  refine lc_it walk_tup (fun i H9 => Same H8 H9 ∧ ∃ us es, H9 D = some (.lst us) ∧ DdA H9 us es ∧ es.length = i ∧ ∀ d ∈ es, Lw d) ⟨same_new hD _, [], [], upd_same, .nil, rfl, fun d hd => (by cases hd)⟩ (fun i H9 _ pp => SqT.of (pp.1 _ _ enc)) (fun i2 y2 H9p H9 hi2 pp hy2 => ?_) (fun H9 pp => ?_)
  · obtain ⟨rfl, ey2⟩ := hy2
    obtain ⟨s9, us, es, e9, E9, l9, w9⟩ := pp
    have lE := E9.length
    have ey2 := ey2
    rw [List.getElem?_map] at ey2
    obtain ⟨arg, ea, rfl⟩ := Option.map_eq_some_iff.mp ey2
    have harg := hns arg (List.mem_of_getElem? ea)
    refine ⟨rfl, ?_⟩
    refine ⟨_, rfl, _, rfl, .ref sa, kd, md, arg, rfl, hdS (b7.trans (Same.two (s8.trans s9))), k1, k2, harg, few, sm arg harg, fun r d H10 s10 hr t10 p10 d10 sh10 => ?_⟩
    obtain ⟨g1, g2, g3⟩ := lw_push s10 e9 E9 w9 hr ⟨t10, p10, d10, sh10⟩
    exact ⟨us, s10 _ _ e9, by rw [sizeLine_eq]; simp only [List.length_map, List.length_drop] at hi2; omega, same_put (s9.trans s10) hD, _, _, g1, g2, by rw [List.length_append, l9]; rfl, g3⟩
  obtain ⟨s9, us, es, e9, E9, l9, w9⟩ := pp
  have lE := E9.length
  have l9 : es.length ≤ 3 := by rw [l9]; simp only [List.length_map, List.length_drop]; omega
  refine ⟨D, us, rfl, .inl ⟨SqL.of e9, fun tt htt => ?_⟩⟩
  have s10 := same_new htt (.tup us)
  refine catA_all (xs := [V.str nm]) (ys := us) (s10 _ _ (s9 _ _ et2)) upd_same (by rw [sizeLine_eq]; show 1 + us.length ≤ _; omega) fun c8 H10 s11 ec8 => ?_
  have s7c := s8.trans (s9.trans (s10.trans s11))
  refine ⟨q, zs, _, rfl, rfl, s7c _ _ e7, by rw [sizeLine_eq]; omega, ?_⟩
  obtain ⟨g1, g2, g3, g4, g5⟩ := app_ok s7c W7 nqp e7 A7' o7' ec8 (E9.mono (s10.trans s11)) w9 l9 hnm
  have b7 := b7.trans g2
  have l7' : (ds ++ [PyData.tuple (.str nm :: es)]).length ≤ 26 + 3 * i + 1 := by rw [List.length_append]; show ds.length + 1 ≤ _; omega
  generalize upd H10 q (.lst (zs ++ [V.ref c8])) = H7 at g1 g3 g4 b7 ⊢
  generalize zs ++ [V.ref c8] = zs at g3 g4
  generalize ds ++ [PyData.tuple (.str nm :: es)] = ds at g4 g5 l7'
  have W7 := g1
  have e7 := g3
  have A7' := g4
  have o7' := g5
  have lA1 := A7'.length
  refine ⟨_, rfl, .inl ⟨rfl, _, SqL.of e7⟩, ?_⟩
  refine ⟨_, rfl, by show 1 ≤ sizeLine; rw [sizeLine_eq]; decide, fun t2 ht2 => ?_⟩
  have s8 := same_new ht2 (.tup [.str nm])
  have et2 : upd H7 t2 (.tup [.str nm]) t2 = some (.tup [.str nm]) := upd_same
  generalize upd H7 t2 (.tup [.str nm]) = H8 at s8 et2 ⊢
  have enc := s8 _ _ (bT b7 hna)
  have nc := na
  refine ⟨_, rfl, na, rfl, ⟨_, SqT.of enc⟩, fun D hD => ?_⟩
  refine lc_it walk_tup (fun i H9 => Same H8 H9 ∧ ∃ us es, H9 D = some (.lst us) ∧ DdA H9 us es ∧ es.length = i ∧ ∀ d ∈ es, Lw d) ⟨same_new hD _, [], [], upd_same, .nil, rfl, fun d hd => (by cases hd)⟩ (fun i H9 _ pp => SqT.of (pp.1 _ _ enc)) (fun i2 y2 H9p H9 hi2 pp hy2 => ?_) (fun H9 pp => ?_)
  · obtain ⟨rfl, ey2⟩ := hy2
    obtain ⟨s9, us, es, e9, E9, l9, w9⟩ := pp
    have lE := E9.length
    refine ⟨rfl, ?_⟩
    refine ⟨by show 2 ≤ sizeLine; rw [sizeLine_eq]; decide, fun tn htn => ?_⟩
    have s10 := same_new htn (.tup [.str "?", .str "x"])
    obtain ⟨g1, g2, g3⟩ := lw_push s10 e9 E9 w9 (.tup upd_same (.cons (.str _) (.cons (.str _) .nil))) Lw.x
    exact ⟨us, s10 _ _ e9, by rw [sizeLine_eq]; simp only [List.length_map] at hi2; omega, same_put (s9.trans s10) hD, _, _, g1, g2, by rw [List.length_append, l9]; rfl, g3⟩
  obtain ⟨s9, us, es, e9, E9, l9, w9⟩ := pp
  have lE := E9.length
  have l9 : es.length ≤ 3 := by rw [l9]; simp only [List.length_map, List.length_drop]; omega
  refine ⟨D, us, rfl, .inl ⟨SqL.of e9, fun tt htt => ?_⟩⟩
  have s10 := same_new htt (.tup us)
  refine catA_all (xs := [V.str nm]) (ys := us) (s10 _ _ (s9 _ _ et2)) upd_same (by rw [sizeLine_eq]; show 1 + us.length ≤ _; omega) fun c8 H10 s11 ec8 => ?_
  have s7c := s8.trans (s9.trans (s10.trans s11))
  refine ⟨q, zs, _, rfl, rfl, s7c _ _ e7, by rw [sizeLine_eq]; omega, ?_⟩
  obtain ⟨g1, g2, g3, g4, g5⟩ := app_ok s7c W7 nqp e7 A7' o7' ec8 (E9.mono (s10.trans s11)) w9 l9 hnm
  have b7 := b7.trans g2
  have l7' : (ds ++ [PyData.tuple (.str nm :: es)]).length ≤ 26 + 3 * i + 2 := by rw [List.length_append]; show ds.length + 1 ≤ _; omega
  generalize upd H10 q (.lst (zs ++ [V.ref c8])) = H7 at g1 g3 g4 b7 ⊢
  generalize zs ++ [V.ref c8] = zs at g3 g4
  generalize ds ++ [PyData.tuple (.str nm :: es)] = ds at g4 g5 l7'
  have W7 := g1
  have e7 := g3
  have A7' := g4
  have o7' := g5
  have lA2 := A7'.length
  refine ⟨_, rfl, .inl ⟨rfl, _, SqL.of e7⟩, ?_⟩
  refine ⟨_, rfl, by show 1 ≤ sizeLine; rw [sizeLine_eq]; decide, fun t2 ht2 => ?_⟩
  have s8 := same_new ht2 (.tup [.str nm])
  have et2 : upd H7 t2 (.tup [.str nm]) t2 = some (.tup [.str nm]) := upd_same
  generalize upd H7 t2 (.tup [.str nm]) = H8 at s8 et2 ⊢
  refine ⟨_, rfl, _, rfl, noPart ?_⟩
  refine slA_any (s8 _ _ (bT b7 hna)) fun nc H8' s8' enc => ?_
  rw [cut_tail] at enc
  have s8 := s8.trans s8'
  have et2 := s8' _ _ et2
  refine ⟨nc, rfl, ⟨_, SqT.of enc⟩, fun D hD => ?_⟩
  refine lc_it walk_tup (fun i H9 => Same H8' H9 ∧ ∃ us es, H9 D = some (.lst us) ∧ DdA H9 us es ∧ es.length = i ∧ ∀ d ∈ es, Lw d) ⟨same_new hD _, [], [], upd_same, .nil, rfl, fun d hd => (by cases hd)⟩ (fun i H9 _ pp => SqT.of (pp.1 _ _ enc)) (fun i2 y2 H9p H9 hi2 pp hy2 => ?_) (fun H9 pp => ?_)
  · obtain ⟨rfl, ey2⟩ := hy2
    obtain ⟨s9, us, es, e9, E9, l9, w9⟩ := pp
    have lE := E9.length
    have ey2 := (show ((ns.map strD).map V.str)[1 + i2]? = some y2 from by rw [← List.getElem?_drop]; exact ey2)
    rw [List.getElem?_map] at ey2
    obtain ⟨arg, ea, rfl⟩ := Option.map_eq_some_iff.mp ey2
    have harg := hns arg (List.mem_of_getElem? ea)
    refine ⟨rfl, ?_⟩
    refine ⟨_, rfl, _, rfl, .ref sa, kd, md, arg, rfl, hdS (b7.trans (Same.two (s8.trans s9))), k1, k2, harg, few, sm arg harg, fun r d H10 s10 hr t10 p10 d10 sh10 => ?_⟩
    obtain ⟨g1, g2, g3⟩ := lw_push s10 e9 E9 w9 hr ⟨t10, p10, d10, sh10⟩
    exact ⟨us, s10 _ _ e9, by rw [sizeLine_eq]; simp only [List.length_map, List.length_drop] at hi2; omega, same_put (s9.trans s10) hD, _, _, g1, g2, by rw [List.length_append, l9]; rfl, g3⟩
  obtain ⟨s9, us, es, e9, E9, l9, w9⟩ := pp
  have lE := E9.length
  have l9 : es.length ≤ 3 := by rw [l9]; simp only [List.length_map, List.length_drop]; omega
  refine ⟨D, us, rfl, .inl ⟨SqL.of e9, fun tt htt => ?_⟩⟩
  have s10 := same_new htt (.tup us)
  refine catA_all (xs := [V.str nm]) (ys := us) (s10 _ _ (s9 _ _ et2)) upd_same (by rw [sizeLine_eq]; show 1 + us.length ≤ _; omega) fun c8 H10 s11 ec8 => ?_
  have s7c := s8.trans (s9.trans (s10.trans s11))
  refine ⟨q, zs, _, rfl, rfl, s7c _ _ e7, by rw [sizeLine_eq]; omega, ?_⟩
  obtain ⟨g1, g2, g3, g4, g5⟩ := app_ok s7c W7 nqp e7 A7' o7' ec8 (E9.mono (s10.trans s11)) w9 l9 hnm
  exact ⟨⟨_, _, _, rfl⟩, g1, b7.trans g2, _, _, g3, g4, g5, by rw [List.length_append]; show ds.length + 1 ≤ _; omega⟩

end

/-! ### how many terms there are -/
def cN (T : List (List Nat)) (s k : Nat) : Nat := (T.getD s []).getD k 0
def wN (T : List (List Nat)) : List Nat → Nat → Nat
  | [], t => if t = 0 then 1 else 0
  | k :: ks, t => ((List.range t).map fun i => cN T (i + 1) k * wN T ks (t - (i + 1))).sum
def rowN (n : Nat) (mk : List (List Nat × Nat)) (T : List (List Nat)) (s : Nat) : List Nat := (List.range n).map fun k => (mk.map fun m => if m.2 = k then wN T m.1 (s - 1) else 0).sum
def tabN (n : Nat) (mk : List (List Nat × Nat)) : Nat → List (List Nat)
  | 0 => [List.replicate n 0]
  | s + 1 => tabN n mk s ++ [rowN n mk (tabN n mk s) (s + 1)]
def nOk (n : Nat) (mk : List (List Nat × Nat)) : Bool := (fun T => (List.range n).all fun k => decide (3 ≤ (mk.filter fun m => decide (m.2 = k)).length) || decide (cN T 8 k ≤ 20000)) (tabN n mk 8)
def uOk (ar : List Nat) : Bool := (fun T => (List.range 9).all fun s => decide (cN T s 0 ≤ 4000000) && [0, 1, 2, 3].all (fun j => decide (wN T (List.replicate j 0) s ≤ 4000000)) && (decide (5 < s) || decide (cN T s 0 ≤ 20000))) (tabN 1 (ar.map fun j => (List.replicate j 0, 0)) 8)
def skM (ns : List Str) (m : PyData) : List Nat × Nat := ((needsOf m).map fun x => ns.idxOf x, ns.idxOf (kindOf m))
def kdOf (d : PyData) : List PyData := match d with | .tuple [.tuple kd, .tuple _] => kd | _ => []
def mdOf (d : PyData) : List PyData := match d with | .tuple [.tuple _, .tuple md] => md | _ => []
def nsOf (d : PyData) : List Str := (kdOf d).map nameOf
theorem u_ok : sigL.all (fun d => uOk ((mdOf d).map fun m => (needsOf m).length) && uOk ((mdOf d).map (fun m => (needsOf m).length) ++ [3])) = true := by decide +kernel

theorem n_ok : sigL.all (fun d => (fun n mk => nOk n mk) (nsOf d).length ((mdOf d).map (skM (nsOf d)))) = true := by decide +kernel
def triOk (i : Nat) : Bool := (fun n mk => (List.range n).all fun a => (List.range n).all fun b => (List.range n).all fun c => (List.range n).all fun o => nOk n (mk ++ [([a, b, c], o)])) (nsOf (sigL.getD i .none)).length ((mdOf (sigL.getD i .none)).map (skM (nsOf (sigL.getD i .none))))
theorem tri5 : triOk 5 = true := by decide +kernel
theorem tri1 : triOk 1 = true := by decide +kernel

theorem tri0 : triOk 0 = true := by decide +kernel
theorem tri2 : triOk 2 = true := by decide +kernel
theorem tri3 : triOk 3 = true := by decide +kernel
theorem tri4 : triOk 4 = true := by decide +kernel

theorem tab_len {n : Nat} {mk : List (List Nat × Nat)} : ∀ S : Nat, (tabN n mk S).length = S + 1
  | 0 => rfl
  | S + 1 => by
    show (tabN n mk S ++ [rowN n mk (tabN n mk S) (S + 1)]).length = _
    rw [List.length_append, tab_len S]; rfl
theorem tab_pre {n : Nat} {mk : List (List Nat × Nat)} {s k : Nat} : ∀ S : Nat, s ≤ S → cN (tabN n mk S) s k = cN (tabN n mk s) s k
  | 0, h => by
    have : s = 0 := by omega
    rw [this]
  | S + 1, h => by
    by_cases c : s = S + 1
    · rw [c]
    · have ih := tab_pre (n := n) (mk := mk) (s := s) (k := k) S (by omega)
      rw [← ih]
      have l := tab_len (n := n) (mk := mk) S
      show (List.getD (tabN n mk S ++ [rowN n mk (tabN n mk S) (S + 1)]) s []).getD k 0 = (List.getD (tabN n mk S) s []).getD k 0
      simp only [List.getD_eq_getElem?_getD]
      rw [List.getElem?_append_left (by omega)]
theorem tab_top {n : Nat} {mk : List (List Nat × Nat)} {s k : Nat} (h : k < n) : cN (tabN n mk (s + 1)) (s + 1) k = (mk.map fun m => if m.2 = k then wN (tabN n mk s) m.1 s else 0).sum := by
  have l := tab_len (n := n) (mk := mk) s
  show (List.getD (tabN n mk s ++ [rowN n mk (tabN n mk s) (s + 1)]) (s + 1) []).getD k 0 = _
  have e : List.getD (tabN n mk s ++ [rowN n mk (tabN n mk s) (s + 1)]) (s + 1) [] = rowN n mk (tabN n mk s) (s + 1) := by
    rw [List.getD_eq_getElem?_getD, List.getElem?_append_right (by omega), l, Nat.sub_self]
    rfl
  rw [e]
  unfold rowN
  rw [List.getD_eq_getElem?_getD, List.getElem?_map, List.getElem?_range h]
  rfl
theorem tab_perm {n : Nat} {mk mk' : List (List Nat × Nat)} (p : mk.Perm mk') : ∀ S : Nat, tabN n mk S = tabN n mk' S
  | 0 => rfl
  | S + 1 => by
    show tabN n mk S ++ [rowN n mk (tabN n mk S) (S + 1)] = tabN n mk' S ++ [rowN n mk' (tabN n mk' S) (S + 1)]
    rw [tab_perm p S]
    have : rowN n mk (tabN n mk' S) (S + 1) = rowN n mk' (tabN n mk' S) (S + 1) := List.map_congr_left fun k _ => (p.map _).sum_nat
    rw [this]
theorem sum_le {α : Type} {f g : α → Nat} : ∀ {l : List α}, (∀ a ∈ l, f a ≤ g a) → (l.map f).sum ≤ (l.map g).sum
  | [], _ => Nat.le_refl _
  | a :: l, h => by
    rw [List.map_cons, List.map_cons, List.sum_cons, List.sum_cons]
    exact Nat.add_le_add (h a (List.mem_cons_self ..)) (sum_le fun b hb => h b (List.mem_cons_of_mem _ hb))
theorem ways_len {md : List PyData} {k : Str} {ks : List Str} {t : Nat} : (waysC md (k :: ks) t).length = ((List.range t).map fun i => (clC md k (i + 1)).length * (waysC md ks (t - (i + 1))).length).sum := by
  rw [waysC_cons, List.length_flatMap]
  congr 1
  refine List.map_congr_left fun i _ => ?_
  exact flat_const fun d _ => by rw [List.length_map]
theorem ways_le {md : List PyData} {idx : Str → Nat} {T : List (List Nat)} : ∀ (ks : List Str) (t : Nat), (∀ i, i ≤ t → ∀ k ∈ ks, (clC md k i).length ≤ cN T i (idx k)) → (waysC md ks t).length ≤ wN T (ks.map idx) t
  | [], t, _ => by
    show (if t = 0 then [[]] else [] : List (List PyData)).length ≤ (if t = 0 then 1 else 0)
    by_cases c : t = 0
    · rw [if_pos c, if_pos c]; exact Nat.le_refl _
    · rw [if_neg c, if_neg c]; exact Nat.le_refl _
  | k :: ks, t, h => by
    rw [ways_len, List.map_cons]
    show _ ≤ ((List.range t).map fun i => cN T (i + 1) (idx k) * wN T (ks.map idx) (t - (i + 1))).sum
    refine sum_le fun i hi => ?_
    have hi := List.mem_range.mp hi
    exact Nat.mul_le_mul (h (i + 1) (by omega) k (List.mem_cons_self ..)) (ways_le ks _ fun j hj x hx => h j (by omega) x (List.mem_cons_of_mem _ hx))
theorem filter_sum {α : Type} {f : α → Nat} {p : α → Bool} {q : α → Prop} [DecidablePred q] : ∀ {l : List α}, (∀ a ∈ l, p a = true → q a) → ((l.filter p).map f).sum ≤ (l.map fun a => if q a then f a else 0).sum
  | [], _ => Nat.le_refl _
  | a :: l, h => by
    have ih := filter_sum (f := f) (l := l) fun b hb => h b (List.mem_cons_of_mem _ hb)
    rw [List.map_cons, List.sum_cons]
    cases c : p a with
    | true =>
      rw [List.filter_cons_of_pos c, List.map_cons, List.sum_cons, if_pos (h a (List.mem_cons_self ..) c)]
      omega
    | false =>
      rw [List.filter_cons_of_neg (by rw [c]; decide)]
      omega
def skI (idx : Str → Nat) (m : PyData) : List Nat × Nat := ((needsOf m).map idx, idx (kindOf m))
theorem cnt_le {idx : Str → Nat} {n : Nat} {md : List PyData} (hx : ∀ m ∈ md, ∀ x ∈ needsOf m, idx x < n) : ∀ (s : Nat) (k : Str), idx k < n → (clC md k s).length ≤ cN (tabN n (md.map (skI idx)) s) s (idx k) := by
  intro s
  induction s using Nat.strongRecOn with
  | ind s ih =>
    intro k hk
    cases s with
    | zero =>
      rw [clC_eq]
      have : ((ofKind md k).flatMap fun m => if (needsOf m).length < 0 then (waysC md (needsOf m) (0 - 1)).map fun r => PyData.tuple (.str (nameOf m) :: r) else []) = [] := List.flatMap_eq_nil_iff.mpr fun m _ => if_neg (Nat.not_lt_zero _)
      rw [this]
      exact Nat.zero_le _
    | succ s =>
      rw [tab_top hk, clC_eq, List.length_flatMap, List.map_map]
      refine Nat.le_trans (sum_le (g := fun m => wN (tabN n (md.map (skI idx)) s) ((needsOf m).map idx) s) fun m hm => ?_) ?_
      · have hmd := (List.mem_filter.mp hm).1
        by_cases c : (needsOf m).length < s + 1
        · rw [if_pos c, List.length_map]
          refine ways_le _ _ fun i hi x hxm => ?_
          rw [tab_pre s hi]
          exact ih i (by omega) x (hx m hmd x hxm)
        · rw [if_neg c]; exact Nat.zero_le _
      · exact filter_sum (q := fun m => idx (kindOf m) = idx k) fun m hm c => by rw [of_decide_eq_true c]
/-- few terms, by the numbers of arguments alone -/
theorem few_of {md : List PyData} (h : uOk (md.map fun m => (needsOf m).length) = true) : Few md 8 ∧ ∀ k s, s ≤ 5 → (clC md k s).length ≤ 20000 := by
  have em : (md.map fun m => (needsOf m).length).map (fun j => (List.replicate j 0, 0)) = md.map (skI fun _ => 0) := by
    rw [List.map_map]
    refine List.map_congr_left fun m _ => ?_
    show (List.replicate _ 0, 0) = ((needsOf m).map (fun _ => 0), 0)
    rw [List.map_const']
  unfold uOk at h
  rw [em] at h
  dsimp only at h
  rw [List.all_eq_true] at h
  have cnt : ∀ (k : Str) (s : Nat), s ≤ 8 → (clC md k s).length ≤ cN (tabN 1 (md.map (skI fun _ => 0)) 8) s 0 := fun k s hs => by
    rw [tab_pre 8 hs]
    exact cnt_le (idx := fun _ => 0) (n := 1) (fun _ _ _ _ => Nat.zero_lt_one) s k Nat.zero_lt_one
  refine ⟨fun s hs => ?_, fun k s hs => ?_⟩
  · have h := h s (List.mem_range.mpr (by omega))
    simp only [Bool.and_eq_true, decide_eq_true_eq] at h
    refine ⟨fun k => Nat.le_trans (cnt k s hs) h.1.1, fun ks l3 => ?_⟩
    have w := ways_le (md := md) (idx := fun _ => 0) (T := tabN 1 (md.map (skI fun _ => 0)) 8) ks s fun i hi k _ => cnt k i (by omega)
    rw [List.map_const'] at w
    have h2 := List.all_eq_true.mp h.1.2 ks.length (by
      have : ks.length = 0 ∨ ks.length = 1 ∨ ks.length = 2 ∨ ks.length = 3 := by omega
      rcases this with e | e | e | e <;> rw [e] <;> decide)
    exact Nat.le_trans w (of_decide_eq_true h2)
  · have h := h s (List.mem_range.mpr (by omega))
    simp only [Bool.and_eq_true, Bool.or_eq_true, decide_eq_true_eq] at h
    rcases h.2 with z | z
    · omega
    · exact Nat.le_trans (cnt k s (by omega)) z

/-! ### the drawn signatures -/
def parM (md : List PyData) : Nat → (Str → Bool) → Str → Bool
  | 0, S => S
  | n + 1, S => fun x => parM md n S x || md.any fun m => decide (kindOf m = x) && (needsOf m).all (parM md n S)
theorem step_keep {S : Str → Bool} {m : PyData} {x : Str} (h : S x = true) : stepM S m x = true := by
  unfold stepM
  by_cases c : (needsOf m).all S = true
  · rw [if_pos c]
    show (if x = kindOf m then true else S x) = true
    split
    · rfl
    · exact h
  · rw [if_neg c]; exact h
theorem fold_keep {x : Str} : ∀ {l : List PyData} {S : Str → Bool}, S x = true → (l.foldl stepM S) x = true
  | [], _, h => h
  | m :: l, S, h => fold_keep (l := l) (S := stepM S m) (step_keep h)
theorem fold_add {m : PyData} : ∀ {l : List PyData} {S : Str → Bool}, m ∈ l → (needsOf m).all S = true → (l.foldl stepM S) (kindOf m) = true
  | a :: l, S, hm, h => by
    show (l.foldl stepM (stepM S a)) (kindOf m) = true
    rcases List.mem_cons.mp hm with e | e
    · subst e
      refine fold_keep ?_
      unfold stepM
      rw [if_pos h]
      show (if kindOf m = kindOf m then true else S (kindOf m)) = true
      rw [if_pos rfl]
    · refine fold_add e (List.all_eq_true.mpr fun x hx => step_keep (List.all_eq_true.mp h x hx))
theorem rounds_par {md md' : List PyData} {S S' : Str → Bool} (hm : ∀ m ∈ md, m ∈ md') (hS : ∀ x, S x = true → S' x = true) : ∀ (n : Nat) (x : Str), parM md n S x = true → roundsM md' n S' x = true
  | 0, x, h => hS x h
  | n + 1, x, h => by
    show (md'.foldl stepM (roundsM md' n S')) x = true
    have h : (parM md n S x || md.any fun m => decide (kindOf m = x) && (needsOf m).all (parM md n S)) = true := h
    rw [Bool.or_eq_true] at h
    rcases h with h | h
    · exact fold_keep (rounds_par hm hS n x h)
    · obtain ⟨m, m1, m2⟩ := List.any_eq_true.mp h
      rw [Bool.and_eq_true, decide_eq_true_eq] at m2
      rw [← m2.1]
      exact fold_add (hm m m1) (List.all_eq_true.mpr fun y hy => rounds_par hm hS n y (List.all_eq_true.mp m2.2 y hy))
theorem waysG_mono {c c' : Str → Nat → List PyData} (h : ∀ k i, ∀ d ∈ c k i, d ∈ c' k i) : ∀ (ks : List Str) (s : Nat), ∀ r ∈ waysG c ks s, r ∈ waysG c' ks s
  | [], _, r, hr => hr
  | k :: ks, s, r, hr => by
    obtain ⟨i, hi, hr⟩ := List.mem_flatMap.mp (show r ∈ (List.range s).flatMap _ from hr)
    obtain ⟨t, ht, hr⟩ := List.mem_flatMap.mp hr
    obtain ⟨r2, hr2, rfl⟩ := List.mem_map.mp hr
    exact List.mem_flatMap.mpr ⟨i, hi, List.mem_flatMap.mpr ⟨t, h _ _ t ht, List.mem_map.mpr ⟨r2, waysG_mono h ks _ r2 hr2, rfl⟩⟩⟩
theorem closedP_mono {md md' : List PyData} (hm : ∀ m ∈ md, m ∈ md') : ∀ (f : Nat) (k : Str) (s : Nat), ∀ d ∈ closedP md f k s, d ∈ closedP md' f k s
  | 0, _, _, _, h => h
  | f + 1, k, s, d, h => by
    obtain ⟨m, hmm, h⟩ := List.mem_flatMap.mp (show d ∈ (ofKind md k).flatMap _ from h)
    obtain ⟨h1, h2⟩ := List.mem_filter.mp hmm
    refine List.mem_flatMap.mpr ⟨m, List.mem_filter.mpr ⟨hm m h1, h2⟩, ?_⟩
    by_cases c : (needsOf m).length < s
    · rw [if_pos c] at h ⊢
      obtain ⟨r, hr, rfl⟩ := List.mem_map.mp h
      exact List.mem_map.mpr ⟨r, waysG_mono (fun k i d hd => closedP_mono hm f k i d hd) _ _ r hr, rfl⟩
    · rw [if_neg c] at h; cases h
theorem ofKind_perm {md md' : List PyData} (q : md.Perm md') (k : Str) : (ofKind md k).Perm (ofKind md' k) := q.filter _
theorem waysG_perm {c c' : Str → Nat → List PyData} (h : ∀ k i, (c k i).Perm (c' k i)) : ∀ (ks : List Str) (s : Nat), (waysG c ks s).Perm (waysG c' ks s)
  | [], _ => List.Perm.refl _
  | k :: ks, s => by
    show ((List.range s).flatMap _).Perm ((List.range s).flatMap _)
    refine flat_perm fun i _ => ?_
    exact (List.Perm.flatMap_right _ (h k (i + 1))).trans (flat_perm fun d _ => (waysG_perm h ks _).map _)
theorem closedP_perm {md md' : List PyData} (q : md.Perm md') : ∀ (f : Nat) (k : Str) (s : Nat), (closedP md f k s).Perm (closedP md' f k s)
  | 0, _, _ => List.Perm.refl _
  | f + 1, k, s => by
    show ((ofKind md k).flatMap _).Perm ((ofKind md' k).flatMap _)
    refine (List.Perm.flatMap_right _ (ofKind_perm q k)).trans (flat_perm fun m _ => ?_)
    by_cases c : (needsOf m).length < s
    · rw [if_pos c, if_pos c]; exact (waysG_perm (fun k i => closedP_perm q f k i) _ _).map _
    · rw [if_neg c, if_neg c]
theorem clC_perm {md md' : List PyData} (q : md.Perm md') (k : Str) (s : Nat) : (clC md k s).Perm (clC md' k s) := closedP_perm q s k s
theorem waysC_perm {md md' : List PyData} (q : md.Perm md') (ks : List Str) (s : Nat) : (waysC md ks s).Perm (waysC md' ks s) := waysG_perm (fun k i => clC_perm q k i) ks s
def bOk (kd md : List PyData) : Bool := kindsB (.tuple kd) && makersB (kd.map nameOf) (.tuple md) && (kd.map nameOf).all (fun x => parM md kd.length (S0 kd) x && nameS (("x_" : Str) ++ x) && (S0 kd x || (List.range 8).any fun i => !(clC md x (i + 1)).isEmpty)) && (md.all fun m => decide (nameOf m ≠ "tri")) && decide (md.length ≤ 8) && decide (kd.length ≤ 4)
theorem b_ok : sigL.all (fun d => bOk (kdOf d) (mdOf d)) = true := by decide +kernel
/-- what is told of a drawn signature -/
structure Sg (kd md : List PyData) : Prop where
  k1 : kindsB (.tuple kd) = true
  k2 : makersB (kd.map nameOf) (.tuple md) = true
  sg : sigB (.tuple [.tuple kd, .tuple md]) = true
  few : Few md 8
  sm : ∀ y ∈ kd.map nameOf, Small kd md y
  nx : ∀ x ∈ kd.map nameOf, nameS (("x_" : Str) ++ x) = true
  n5 : ∀ k s, s ≤ 5 → (clC md k s).length ≤ 20000
  n8 : ∀ k ∈ kd.map nameOf, (ofKind md k).length < 3 → (clC md k 8).length ≤ 20000
/-- one maker more, or none -/
def moreL (ts : List PyData) (ns : List Str) : Prop := ts = [] ∨ ∃ a b c o, a ∈ ns ∧ b ∈ ns ∧ c ∈ ns ∧ o ∈ ns ∧ ts = [.tuple [.str "tri", .tuple [.str a, .str b, .str c], .str o]]
theorem tri_all : ∀ i, i < 6 → triOk i = true
  | 0, _ => tri0
  | 1, _ => tri1
  | 2, _ => tri2
  | 3, _ => tri3
  | 4, _ => tri4
  | 5, _ => tri5
  | n + 6, h => absurd h (by omega)
theorem idx_lt {ns : List Str} {x : Str} (h : x ∈ ns) : ns.idxOf x < ns.length := List.idxOf_lt_length_of_mem h
theorem idx_inj {ns : List Str} {x y : Str} (hx : x ∈ ns) (hy : y ∈ ns) (e : ns.idxOf x = ns.idxOf y) : x = y := by
  have h1 := List.getElem_idxOf (idx_lt hx)
  have h2 := List.getElem_idxOf (idx_lt hy)
  rw [← h1, ← h2]
  congr 1
theorem tri_name : isNameB (.str "tri") = true := by decide +kernel
theorem amongS {x : Str} {ks : List Str} (h : x ∈ ks) : isAmongB (.str x) ks = true := decide_eq_true h
theorem sg_of {kd0 md0 kd md ts : List PyData} (h0 : PyData.tuple [.tuple kd0, .tuple md0] ∈ sigL) (p : kd.Perm kd0) (ht : moreL ts (kd.map nameOf)) (q : md.Perm (md0 ++ ts)) : Sg kd md := by
  have pn : (kd.map nameOf).Perm (kd0.map nameOf) := p.map _
  have b := List.all_eq_true.mp b_ok _ h0
  have b : bOk kd0 md0 = true := b
  unfold bOk at b
  simp only [Bool.and_eq_true, decide_eq_true_eq] at b
  obtain ⟨⟨⟨⟨⟨bk, bm⟩, ball⟩, btri⟩, bl8⟩, bk4⟩ := b
  have ball := List.all_eq_true.mp ball
  have btri := List.all_eq_true.mp btri
  obtain ⟨l1, l8, kb, knd⟩ := kindsB_parts bk
  obtain ⟨l24, mb, mnd⟩ := makersB_parts bm
  have inm : ∀ m ∈ md0, m ∈ md := fun m hm => q.symm.mem_iff.mp (List.mem_append_left _ hm)
  have ll := q.length_eq
  rw [List.length_append] at ll
  have lts : ts.length ≤ 1 := by rcases ht with rfl | ⟨a, b, c, o, _, _, _, _, rfl⟩ <;> simp
  have allk : ∀ ks, (∀ x, x ∈ kd0.map nameOf → x ∈ ks) → ∀ m ∈ md0, makerB ks m = true := fun ks hks m hm => by
    obtain ⟨x, ns, k, rfl, hx, l3, hns, hk⟩ := makerB_of (mb m hm)
    show (isNameB (.str x) && decide (ns.length ≤ 3) && ns.all (fun n => isAmongB n ks) && isAmongB (.str k) ks) = true
    simp only [Bool.and_eq_true, decide_eq_true_eq]
    refine ⟨⟨⟨hx, l3⟩, List.all_eq_true.mpr fun n hn => ?_⟩, amongS (hks k hk)⟩
    obtain ⟨y, rfl, hy⟩ := among_str (List.all_eq_true.mp hns n hn)
    exact amongS (hks y hy)
  have tsk : ∀ m ∈ ts, makerB (kd.map nameOf) m = true ∧ nameOf m = "tri" := fun m hm => by
    rcases ht with rfl | ⟨a, b, c, o, ha, hb, hc, ho, rfl⟩
    · cases hm
    · rw [List.mem_singleton.mp hm]
      refine ⟨?_, rfl⟩
      show (isNameB (.str "tri") && decide (3 ≤ 3) && [PyData.str a, .str b, .str c].all (fun n => isAmongB n (kd.map nameOf)) && isAmongB (.str o) (kd.map nameOf)) = true
      simp only [Bool.and_eq_true, List.all_cons, List.all_nil]
      exact ⟨⟨⟨tri_name, rfl⟩, amongS ha, amongS hb, amongS hc, trivial⟩, amongS ho⟩
  have mball : ∀ m ∈ md, makerB (kd.map nameOf) m = true := fun m hm => by
    rcases List.mem_append.mp (q.mem_iff.mp hm) with w | w
    · exact allk _ (fun x hx => pn.symm.mem_iff.mp hx) m w
    · exact (tsk m w).1
  have ndn : (md.map nameOf).Nodup := by
    refine List.Nodup.perm ?_ (q.map nameOf).symm
    rw [List.map_append]
    refine List.nodup_append.mpr ⟨mnd, ?_, fun a ha b hb z => ?_⟩
    · rcases ht with rfl | ⟨a, b, c, o, _, _, _, _, rfl⟩
      · exact List.nodup_nil
      · exact List.nodup_cons.mpr ⟨(fun z => by cases z), List.nodup_nil⟩
    · obtain ⟨m1, h1, rfl⟩ := List.mem_map.mp ha
      obtain ⟨m2, h2, rfl⟩ := List.mem_map.mp hb
      exact of_decide_eq_true (btri m1 h1) (z.trans (tsk m2 h2).2)
  have k1 : kindsB (.tuple kd) = true := by
    show (decide (1 ≤ kd.length) && decide (kd.length ≤ 8) && kd.all kindB && decide (kd.map nameOf).Nodup) = true
    have lk := p.length_eq
    simp only [Bool.and_eq_true, decide_eq_true_eq]
    exact ⟨⟨⟨by omega, by omega⟩, List.all_eq_true.mpr fun d hd => kb d (p.mem_iff.mp hd)⟩, List.Nodup.perm knd pn.symm⟩
  have k2 : makersB (kd.map nameOf) (.tuple md) = true := by
    show (decide (md.length ≤ 24) && md.all (makerB (kd.map nameOf)) && decide (md.map nameOf).Nodup) = true
    simp only [Bool.and_eq_true, decide_eq_true_eq]
    exact ⟨⟨by omega, List.all_eq_true.mpr mball⟩, ndn⟩
  have s0 : ∀ x, S0 kd x = S0 kd0 x := fun x => p.any_eq
  obtain ⟨i, hi⟩ := List.mem_iff_getElem?.mp h0
  have i6 : i < 6 := by
    have := (List.getElem?_eq_some_iff.mp hi).1
    have e : sigL.length = 6 := by decide +kernel
    omega
  have ed : sigL.getD i .none = .tuple [.tuple kd0, .tuple md0] := by rw [List.getD_eq_getElem?_getD, hi]; rfl
  have u := List.all_eq_true.mp u_ok _ h0
  rw [Bool.and_eq_true] at u
  have uu : uOk ((md0 ++ ts).map fun m => (needsOf m).length) = true := by
    rcases ht with rfl | ⟨a, b, c, o, _, _, _, _, rfl⟩
    · rw [List.append_nil]; exact u.1
    · rw [List.map_append]; exact u.2
  have fw := few_of uu
  have plen : ∀ (k : Str) (s : Nat), (clC md k s).length ≤ (clC (md0 ++ ts) k s).length := fun k s => Nat.le_of_eq (clC_perm q k s).length_eq
  have wlen : ∀ (ks : List Str) (s : Nat), (waysC md ks s).length ≤ (waysC (md0 ++ ts) ks s).length := fun ks s => Nat.le_of_eq (waysC_perm q ks s).length_eq
  refine ⟨k1, k2, ?_, fun s hs => ⟨fun k => Nat.le_trans (plen k s) ((fw.1 s hs).1 k), fun ks l3 => Nat.le_trans (wlen ks s) ((fw.1 s hs).2 ks l3)⟩, fun y hy => ?_, fun x hx => ?_, fun k s hs => Nat.le_trans (plen k s) (fw.2 k s hs), fun k hk hl => ?_⟩
  · show (kindsB (.tuple kd) && (makersB (kd.map nameOf) (.tuple md) && haveB kd md)) = true
    rw [k1, k2, Bool.true_and, Bool.true_and]
    refine List.all_eq_true.mpr fun x hx => ?_
    have h := ball x (pn.mem_iff.mp hx)
    simp only [Bool.and_eq_true] at h
    rw [p.length_eq]
    exact rounds_par inm (fun y hy => by rw [s0]; exact hy) _ x h.1.1
  · have h := ball y (pn.mem_iff.mp hy)
    simp only [Bool.and_eq_true, Bool.or_eq_true] at h
    rcases h.2 with z | z
    · exact .inl (by rw [s0]; exact z)
    · obtain ⟨j, hj, hz⟩ := List.any_eq_true.mp z
      have hj := List.mem_range.mp hj
      refine .inr ⟨j + 1, by omega, by omega, fun w => ?_⟩
      cases e : clC md0 y (j + 1) with
      | nil => rw [e] at hz; cases hz
      | cons d l =>
        have : d ∈ clC md y (j + 1) := closedP_mono inm _ _ _ d (by show d ∈ clC md0 y (j + 1); rw [e]; exact List.mem_cons_self ..)
        rw [w] at this
        cases this
  · have h := ball x (pn.mem_iff.mp hx)
    simp only [Bool.and_eq_true] at h
    exact h.1.2
  · have kin : ∀ x, x ∈ kd.map nameOf → x ∈ kd0.map nameOf := fun x hx => pn.mem_iff.mp hx
    have needs_in : ∀ m ∈ md0 ++ ts, (∀ x ∈ needsOf m, x ∈ kd0.map nameOf) ∧ kindOf m ∈ kd0.map nameOf := fun m hm => by
      have hm2 := mball m (q.symm.mem_iff.mp hm)
      refine ⟨fun x hx => kin x (needs_ok2 hm2 x hx), ?_⟩
      obtain ⟨x, ns, k, rfl, _, _, _, hk⟩ := makerB_of hm2
      exact kin k hk
    have hcount := cnt_le (idx := fun x => (kd0.map nameOf).idxOf x) (n := (kd0.map nameOf).length) (md := md0 ++ ts) (fun m hm x hx => idx_lt ((needs_in m hm).1 x hx)) 8 k (idx_lt (kin k hk))
    have nk : nOk (kd0.map nameOf).length ((md0 ++ ts).map (skM (kd0.map nameOf))) = true := by
      rcases ht with rfl | ⟨a, b, c, o, ha, hb, hc, ho, rfl⟩
      · rw [List.append_nil]
        exact List.all_eq_true.mp n_ok _ h0
      · have t := tri_all i i6
        unfold triOk at t
        rw [ed] at t
        dsimp only at t
        have t := List.all_eq_true.mp t _ (List.mem_range.mpr (idx_lt (kin a ha)))
        have t := List.all_eq_true.mp t _ (List.mem_range.mpr (idx_lt (kin b hb)))
        have t := List.all_eq_true.mp t _ (List.mem_range.mpr (idx_lt (kin c hc)))
        have t := List.all_eq_true.mp t _ (List.mem_range.mpr (idx_lt (kin o ho)))
        rw [List.map_append]
        exact t
    unfold nOk at nk
    dsimp only at nk
    have nk := List.all_eq_true.mp nk _ (List.mem_range.mpr (idx_lt (kin k hk)))
    rw [Bool.or_eq_true, decide_eq_true_eq, decide_eq_true_eq] at nk
    rcases nk with z | z
    · exfalso
      have e1 : (((md0 ++ ts).map (skM (kd0.map nameOf))).filter fun m => decide (m.2 = (kd0.map nameOf).idxOf k)).length = (ofKind (md0 ++ ts) k).length := by
        unfold ofKind
        rw [List.filter_map, List.length_map]
        congr 1
        refine List.filter_congr fun m hm => ?_
        show decide ((kd0.map nameOf).idxOf (kindOf m) = (kd0.map nameOf).idxOf k) = decide (kindOf m = k)
        exact decide_eq_decide.mpr ⟨fun z => idx_inj (needs_in m hm).2 (kin k hk) z, fun z => by rw [z]⟩
      have e2 : (ofKind md k).length = (ofKind (md0 ++ ts) k).length := (q.filter _).length_eq
      omega
    · exact Nat.le_trans (plen k 8) (Nat.le_trans hcount z)

/-! ### how long the text of a plain thing is -/
inductive Pl : PyData → Prop
  | str {x : Str} : (PyData.str x).shown.length ≤ 20 → Pl (.str x)
  | tup {ds : List PyData} : (∀ d, d ∈ ds → Pl d) → Pl (.tuple ds)
theorem tupleText_le (ts : List Str) : (tupleText ts).length ≤ 4 + piled ts := by
  have lj : (Str.join ", " ts).length ≤ piled ts := by
    by_cases c : ts = []
    · subst c; decide +kernel
    · have := join_length_add ts c; omega
  unfold tupleText
  rw [strLen_append, strLen_append]
  have h1 : (("(" : Str)).length = 1 := by decide +kernel
  have h2 : ((if ts.length == 1 then ",)" else ")" : String) : Str).length ≤ 2 := by split <;> decide +kernel
  omega
theorem pl_shown {d : PyData} (h : Pl d) : d.showable = true ∧ d.shown.length + 2 ≤ 22 * psz d := by
  induction h with
  | @str x h => exact ⟨by simp [PyData.showable], by have e : psz (.str x) = 1 := (by simp [psz]); omega⟩
  | @tup ds h ih =>
    have k : ∀ l : List PyData, (∀ d ∈ l, d.showable = true ∧ d.shown.length + 2 ≤ 22 * psz d) → PyData.showableAll l = true ∧ piled (PyData.shownAll l) ≤ 22 * pszs l := by
      intro l
      induction l with
      | nil => intro _; exact ⟨by simp [PyData.showableAll], by simp [PyData.shownAll, piled]⟩
      | cons d l ihl =>
        intro q
        have h1 := q d (List.mem_cons_self ..)
        have h2 := ihl fun x hx => q x (List.mem_cons_of_mem _ hx)
        refine ⟨by rw [PyData.showableAll, h1.1, h2.1]; rfl, ?_⟩
        rw [PyData.shownAll, pszs]
        show ((d.shown.length + 2) :: (PyData.shownAll l).map fun t => t.length + 2).sum ≤ _
        rw [List.sum_cons]
        have : ((PyData.shownAll l).map fun t => t.length + 2).sum ≤ 22 * pszs l := h2.2
        omega
    have q := k ds ih
    have tl := tupleText_le (PyData.shownAll ds)
    refine ⟨by rw [PyData.showable]; exact q.1, ?_⟩
    rw [PyData.shown, psz]
    omega
theorem waysG_pz {c : Str → Nat → List PyData} : ∀ (ks : List Str) (s : Nat), (∀ k i, ∀ d ∈ c k i, Pl d) → ∀ r ∈ waysG c ks s, ∀ d ∈ r, Pl d
  | [], s, _, r, hr, d, hd => by
    have hr : r ∈ (if s = 0 then [[]] else [] : List (List PyData)) := hr
    by_cases c : s = 0
    · rw [if_pos c] at hr
      rw [List.mem_singleton.mp hr] at hd
      cases hd
    · rw [if_neg c] at hr; cases hr
  | k :: ks, s, h, r, hr, d, hd => by
    obtain ⟨i, hi, hr⟩ := List.mem_flatMap.mp (show r ∈ (List.range s).flatMap _ from hr)
    obtain ⟨t, ht, hr⟩ := List.mem_flatMap.mp hr
    obtain ⟨r2, hr2, rfl⟩ := List.mem_map.mp hr
    rcases List.mem_cons.mp hd with rfl | hd
    · exact h k (i + 1) _ ht
    · exact waysG_pz ks (s - (i + 1)) h r2 hr2 d hd
theorem closedP_pl2 {md : List PyData} (mb : ∀ m ∈ md, (PyData.str (nameOf m)).shown.length ≤ 20) : ∀ (f : Nat) (k : Str) (s : Nat), ∀ d ∈ closedP md f k s, Pl d
  | 0, k, s, d, h => by cases h
  | f + 1, k, s, d, h => by
    obtain ⟨m, hm, h⟩ := List.mem_flatMap.mp (show d ∈ (ofKind md k).flatMap _ from h)
    have hmd := (List.mem_filter.mp hm).1
    by_cases c : (needsOf m).length < s
    · rw [if_pos c] at h
      obtain ⟨r, hr, rfl⟩ := List.mem_map.mp h
      refine .tup fun x hx => ?_
      rcases List.mem_cons.mp hx with w | w
      · rw [w]; exact .str (mb m hmd)
      · exact waysG_pz _ _ (fun k i => closedP_pl2 mb f k i) r hr x w
    · rw [if_neg c] at h; cases h
/-- few terms of a size up to eight have a text that is not too long -/
theorem ts_shown {md : List PyData} {k : Str} {s : Nat} (mb : ∀ m ∈ md, (PyData.str (nameOf m)).shown.length ≤ 20) (hs : s ≤ 8) (hl : (clC md k s).length ≤ 20000) :
    (PyData.list [.tuple (tsC md k s), .tuple (tsC md k s)]).showable = true ∧ (PyData.list [.tuple (tsC md k s), .tuple (tsC md k s)]).depth ≤ 60 ∧ (PyData.list [.tuple (tsC md k s), .tuple (tsC md k s)]).shown.length ≤ sizeLine := by
  have lt : (tsC md k s).length ≤ 20000 := by rw [tsC_perm.length_eq]; exact hl
  have pl : Pl (.tuple (tsC md k s)) := .tup fun d hd => closedP_pl2 mb s k s d (tsC_mem.mp hd)
  obtain ⟨p1, p2⟩ := pl_shown pl
  have pz : psz (.tuple (tsC md k s)) ≤ 1 + 20000 * 16 := by
    rw [psz]
    have a := pszs_le (n := 16) (tsC md k s) fun d hd => Nat.le_trans (clC_psz (tsC_mem.mp hd)).1 (by omega)
    have b : (tsC md k s).length * 16 ≤ 20000 * 16 := Nat.mul_le_mul_right _ lt
    omega
  refine ⟨by simp [PyData.showable, PyData.showableAll] at p1 ⊢; exact p1, ?_, ?_⟩
  · have h1 : PyData.depthAll (tsC md k s) ≤ 8 := depthAll_of fun d hd => Nat.le_trans (clC_psz (tsC_mem.mp hd)).2 hs
    simp only [PyData.depth, PyData.depthAll]
    omega
  · rw [sizeLine_eq]
    have e : (PyData.list [.tuple (tsC md k s), .tuple (tsC md k s)]).shown = ("[" ++ ("" : Str) ++ (PyData.tuple (tsC md k s)).shown ++ (", " : Str) ++ (PyData.tuple (tsC md k s)).shown) ++ "]" := by
      rw [PyData.shown, PyData.shownAll, PyData.shownAll, PyData.shownAll]
      rfl
    rw [e]
    simp only [strLen_append]
    have h1 : (("[" : Str)).length = 1 := by decide +kernel
    have h2 : (("]" : Str)).length = 1 := by decide +kernel
    have h3 : ((", " : Str)).length = 2 := by decide +kernel
    have h4 : (("" : Str)).length = 0 := by decide +kernel
    omega
theorem nm_all : sigL.all (fun d => (mdOf d).all fun m => decide ((PyData.str (nameOf m)).shown.length ≤ 20)) = true := by decide +kernel
theorem nm_of {kd0 md0 md ts : List PyData} {ns : List Str} (h0 : PyData.tuple [.tuple kd0, .tuple md0] ∈ sigL) (ht : moreL ts ns) (q : md.Perm (md0 ++ ts)) : ∀ m ∈ md, (PyData.str (nameOf m)).shown.length ≤ 20 := fun m hm => by
  rcases List.mem_append.mp (q.mem_iff.mp hm) with w | w
  · have b : (md0.all fun m => decide ((PyData.str (nameOf m)).shown.length ≤ 20)) = true := List.all_eq_true.mp nm_all _ h0
    exact of_decide_eq_true (List.all_eq_true.mp b m w)
  · rcases ht with rfl | ⟨a, b, c, o, _, _, _, _, rfl⟩
    · cases w
    · rw [List.mem_singleton.mp w]
      show (PyData.str "tri").shown.length ≤ 20
      decide +kernel

/-! ### t * k, with one k, too -/
theorem tuple_mul1 (l : Addr) (items : Array Value) (n : Nat) (dd : Option Addr) (sl : Array (Option Value)) (u : Tok) :
    Meets (Builtin.«tuple.__mul__» ⟨[.ref l, .int 1 u], []⟩) (fun _ R s => s.heap.get? l = some { cls := .type "tuple", dict := dd, data := .seq items n, slots := sl } ∧ R (.ok (.ret (Value.ref l))) s) :=
  .of_wp fun prog w A R s h => by
    obtain ⟨hp, g, d, tk, os⟩ := s
    obtain ⟨hl, h⟩ := h
    have f1 := AutoSeq1.idx_int
    wp_walk using wpAny_loadPart' hl
    exact ⟨_, rfl, h⟩
def rRepT1 (K : PySem.W.Frag) : R2 := fun x y H Q => ∃ l k xs, x = .ref l ∧ y = .int k ∧ SqT K H l xs ∧ xs ≠ [] ∧ 1 ≤ k ∧ k ≤ 1000 ∧ xs.length ≤ 1000 ∧ (k = 1 → Q (.ref l) H) ∧ (2 ≤ k → ∀ p, H p = none → Q (.ref p) (upd H p (.tup (List.replicate k.toNat xs).flatten)))
theorem op_repT1 {X : Cx} : OpR X (binaryOp .Mult) (rRepT1 X.K) := by
  intro pins s σ H x y v u Q I rx ry h
  obtain ⟨l, k, xs, rfl, rfl, hT, hne, h1, h2, hz, q1, q2⟩ := h
  by_cases c : 2 ≤ k
  · exact op_repT pins s σ H _ _ v u Q I rx ry ⟨l, k, xs, rfl, rfl, hT, hne, c, h2, hz, q2 c⟩
  obtain rfl : k = 1 := by omega
  cases rx
  obtain ⟨t, rfl⟩ := ry
  obtain ⟨its, r, ⟨⟨cls, dd, data, sl⟩, ho, hc, n, hd⟩, hs⟩ := I.tuple hT
  simp only at hc hd
  subst hc hd
  refine wpAny_binaryOp_repeat_ref (T := "tuple") (U := "int") (by decide) ⟨_, ho, rfl⟩ (fun s' => typeIs_int s' 1 t) noFill_tuple_mul F.fills_int_mul F.slot_int_rmul repeat_tuple F.slot_int_index.lookup
    (call_meets F.slot_int_rmul (typeIs_int s 1 t) F.entry_int_rmul (F.args_int_rmul_2 _ _) (int_rmul_tuple 1 t l its.toArray n dd sl)
      ⟨ho, rfl, ⟨_, ho, rfl⟩, call_meets F.slot_tuple_mul ⟨_, ho, rfl⟩ F.entry_tuple_mul (F.args_tuple_mul_2 _ _) (tuple_mul1 l its.toArray n dd sl t) ⟨ho, ?_⟩⟩)
  exact ⟨.ref l, H, I, rfl, q1 rfl⟩

/-! ### variables of a term are no more than its parts -/
theorem pk_few {md : List PyData} : ∀ (n : Nat) (d : PyData) (x : Str) (l : List (Str × Str)), psz d ≤ n → trB d = true → pkB md d x = some l → l.length ≤ szD d ∧ (nmD d).length ≤ szD d
  | 0, d, _, _, h, _, _ => absurd (psz_pos d) (by omega)
  | n + 1, d, x, l, h, ht, e => by
    rcases trB_of ht with ⟨m, rfl⟩ | ⟨k, i, rfl⟩ | ⟨y, ps, rfl, c1, c2, hp⟩
    · rw [pkB] at e
      rw [nmD, nmH, if_pos rfl, szD, szH, if_pos (.inl rfl)]
      split at e
      · cases e; exact ⟨Nat.le_refl _, Nat.le_refl _⟩
      · exfalso
        rw [pkH] at e
        split at e
        · split at e
          · rename_i m2 _ _
            cases q : needsOf m2 with
            | nil => rw [q] at e; rw [pkL] at e; cases e; all_goals (intros; simp_all)
            | cons a b => rw [q, pkL, pkB] at e; cases e; all_goals (intros; simp_all)
          · cases e
        · cases e
    · exfalso
      rw [pkB, variable_2 (.inl (fun z => by injection z with z; exact absurd z (by decide)))] at e
      have e : pkH md [.str "#", .str k, .int i] x = some l := e
      rw [pkH] at e
      split at e
      · split at e
        · rename_i m2 _ _
          cases q : needsOf m2 with
          | nil => rw [q] at e; rw [pkL] at e; cases e; all_goals (intros; simp_all)
          | cons a b => rw [q, pkL, pkB] at e; cases e; all_goals (intros; simp_all)
        · cases e
      · cases e
    · rw [pkB_make c1] at e
      rw [nmD, nmH, if_neg c1, if_neg c2, szD, szH, if_neg (fun z => z.elim c1 c2)]
      have pz : psz (.tuple (.str y :: ps)) = 2 + pszs ps := by
        rw [psz, pszs, psz]
        · omega
        · intros; simp_all
      have all : ∀ (qs : List PyData) (ns : List Str) (l2 : List (Str × Str)), (∀ p ∈ qs, trB p = true) → pszs qs ≤ n → pkL md qs ns = some l2 → l2.length ≤ szL qs ∧ (nmL qs).length ≤ szL qs := fun qs => by
        induction qs with
        | nil =>
          intro ns l2 _ _ w
          cases ns with
          | nil => rw [pkL] at w; cases w; rw [nmL, szL]; exact ⟨Nat.le_refl _, Nat.le_refl _⟩
          | cons a b => rw [pkL] at w; cases w; all_goals (intros; simp_all)
        | cons p qs ih =>
          intro ns l2 hq lz w
          rw [pszs] at lz
          cases ns with
          | nil => rw [pkL] at w; cases w; all_goals (intros; simp_all)
          | cons a b =>
            rw [pkL] at w
            split at w
            · rename_i l3 l4 e3 e4
              cases w
              have h1 := pk_few n p a l3 (by omega) (hq p (List.mem_cons_self ..)) e3
              have h2 := ih b l4 (fun q hq' => hq q (List.mem_cons_of_mem _ hq')) (by omega) e4
              rw [nmL, szL, List.length_append, List.length_append]
              omega
            · cases w
      split at e
      · split at e
        · have := all ps _ _ hp (by omega) e
          omega
        · cases e
      · cases e
theorem pkL_few {md : List PyData} : ∀ (ps : List PyData) (ns : List Str) (l : List (Str × Str)), (∀ p ∈ ps, trB p = true) → pkL md ps ns = some l → l.length ≤ szL ps ∧ (ps.flatMap nmD).length ≤ szL ps
  | [], [], l, _, w => by rw [pkL] at w; cases w; exact ⟨Nat.zero_le _, Nat.zero_le _⟩
  | [], a :: b, l, _, w => by rw [pkL] at w; cases w; all_goals (intros; simp_all)
  | p :: ps, [], l, _, w => by rw [pkL] at w; cases w; all_goals (intros; simp_all)
  | p :: ps, a :: b, l, h, w => by
    rw [pkL] at w
    split at w
    · rename_i l3 l4 e3 e4
      cases w
      have h1 := pk_few (psz p) p a l3 (Nat.le_refl _) (h p (List.mem_cons_self ..)) e3
      have h2 := pkL_few ps b l4 (fun q hq => h q (List.mem_cons_of_mem _ hq)) e4
      rw [szL, List.flatMap_cons, List.length_append, List.length_append]
      omega
    · cases w
/-- names of variables are texts that are not long -/
theorem nm_sh : ∀ (n : Nat) (d : PyData), trB d = true → shB n d = true → ∀ m ∈ nmD d, shB 20 (.str m) = true
  | n, d, ht, hs, m, hm => by
    rcases trB_of ht with ⟨y, rfl⟩ | ⟨k, i, rfl⟩ | ⟨y, ps, rfl, c1, c2, hp⟩
    · rw [nmD, nmH, if_pos rfl] at hm
      rw [List.mem_singleton.mp hm]
      cases n with
      | zero => cases hs
      | succ n =>
        have q : shB n (.str y) = true := (shB_tup hs).2 (.str y) (by simp)
        have q : (decide (y.length ≤ 100) && PyData.strOk y) = true := by cases n <;> exact q
        exact q
    · rw [nmD, nmH, if_neg (by decide), if_pos rfl] at hm; cases hm
    · rw [nmD, nmH, if_neg c1, if_neg c2, nmL_map] at hm
      obtain ⟨p, hp2, hm⟩ := List.mem_flatMap.mp hm
      cases n with
      | zero => cases hs
      | succ n => exact nm_sh n p (hp p hp2) ((shB_tup hs).2 p (List.mem_cons_of_mem _ hp2)) m hm
structure PatsF (md : List PyData) (ks : List Str) (ps : List PyData) : Prop where
  ok : okT (.tuple ps) = true
  dp : (PyData.tuple ps).depth ≤ 4
  sz : psz (.tuple ps) ≤ 141
  sh : shB 20 (.tuple ps) = true
  tn : isTn 1000 (.tuple ps)
  at' : ∀ d ∈ ps, TrOk d
  ls : ∃ ls, pkL md ps ks = some ls ∧ ls.length < 64
  nm : (ps.flatMap nmD).length < 30
  ns : ∀ m ∈ ps.flatMap nmD, shB 20 (.str m) = true
theorem PatsOk.f {md : List PyData} {ks : List Str} {ps : List PyData} (h : PatsOk md ks ps) (l1 : 1 ≤ ks.length) (l4 : ks.length ≤ 4) : PatsF md ks ps := by
  obtain ⟨ls, hls⟩ := h.pk
  have fw := pkL_few ps ks ls h.tr hls
  have ft := h.few
  have ll := h.len
  have sh : shB 4 (.tuple ps) = true := shB_of (by omega) h.sh
  have sh20 : shB 20 (.tuple ps) = true := shB_mono (by decide) sh
  have zz : psz (.tuple ps) ≤ 141 := by
    rw [psz]
    have a := pszs_le ps h.sz
    have b : ps.length * 35 ≤ 4 * 35 := Nat.mul_le_mul_right _ (by omega)
    omega
  exact ⟨shB_ok sh, shB_depth sh, zz, sh20, ⟨shB_isTz sh20 (by omega), fun z => by injection z with z; rw [z] at ll; simp at ll; omega⟩,
    fun d hd => ⟨h.tr d hd, Nat.le_trans (h.sz d hd) (by decide), shB_mono (by decide) (h.sh d hd)⟩, ⟨ls, hls, by omega⟩, by omega, fun m hm => by
      obtain ⟨d, hd, hm⟩ := List.mem_flatMap.mp hm
      exact nm_sh 3 d (h.tr d hd) (h.sh d hd) m hm⟩

/-- a def of the module, called by its parameters' names alone: g puts the values in the parameters' order -/
structure GdK (P : Program) (w : World) (K : PySem.W.Frag) (mg : Str → Option Value) (base : Heap)
    (CX : CXT) (k : Nat) (x : Str) (ps ks : List Str) (g : List Value → List Value) (gV : List V → List V) (sp : Sp) : Prop where
  ex : ∃ (f : Addr) (fd : FuncData), mg x = some (.ref f) ∧ PySem.W.keepIn K (.ref f) = true ∧ (∀ (s : Shared) (us : List Value), (g us).length = ps.length → BindsTo s fd ⟨[], ks.zip us⟩ (ps.zip (g us))) ∧
    (∀ {vs : List V} {us : List Value}, Vals vs us → Vals (gV vs) (g us)) ∧ Fn P w K mg base CX k f fd ps sp
def tCallKw (sp : Sp) (gV : List V → List V) (E : XK) (tk : TA) : TE := fun σ H Q => tk σ H fun zs H1 => sp (gV zs) H1 Q E
section
variable {X : Cx} {CX : CXT} {k : Nat} {ps ks : List Str} {sp : Sp} {E : XK} {x : Str} {p pos : Pos} {kws : List Keyword} {tk : TA} {g : List Value → List Value} {gV : List V → List V}
/-- f(k = v, ..) -/
theorem pe_gKX (G : GdK X.prog X.w X.K X.mg X.base CX k x ps ks g gV sp) (hr : Room k X.A) (hq : Qt X.A) (hx : Passes CX X E) (hkw : PK X kws tk) (hg : Gl X x := by rfl) (hdb : (x == ("__debug__" : Str)) = false := by decide)
    (hall : (backToKw pos (keywordEach kws X.env)).all (·.1.isSome) = true := by rfl) (hks : (backToKw pos (keywordEach kws X.env)).filterMap (·.1) = ks := by rfl)
    (hpl : ((backTo pos (starEach [] X.env)).any (·.1) || (backToKw pos (keywordEach kws X.env)).any (·.1.isNone)) = false := by rfl) :
    PE X (.Call (.Name x p) [] kws pos) (tCallKw sp gV E tk) := by
  obtain ⟨f, fd, hm, hk, hb, hv, F⟩ := G.ex
  constructor
  intro pins s σ H Q I h
  refine wpAny_Call_Name_kw (ld_glob I hg hm ?_ hdb)
  refine PySem.W.callWith_KW0 (h₀ := X.base) I.ok.mod.kin hk hall ?_ hpl
  refine thn (hkw.run pos pins s σ H _ I h) fun ws s2 ⟨zs, H2, I2, rz, q⟩ => ⟨I2.kIn, ?_⟩
  rw [hks]
  have rv := hv rz
  have hl : (g ws).length = ps.length := by
    rw [← rv.length]
    exact F.len _ _ _ _ q
  refine wpAny_call (codeAny_mono (F.run X.A X.stack s2 H2 ⟨[], ks.zip ws⟩ (g ws) (gV zs) Q E hr hq I2.env0 (hb s2 ws hl) rv q) fun r s' hs => ?_)
  match r, hs with
  | .error e, hs => exact hx pins σ H2 s2 e s' I2 hs
  | .ok (.ret u), hs => exact I2.after hs
theorem pe_gK (G : GdK X.prog X.w X.K X.mg X.base CX0 k x ps ks g gV sp) (hr : Room k X.A) (hq : Qt X.A) (hkw : PK X kws tk) (hg : Gl X x := by rfl) (hdb : (x == ("__debug__" : Str)) = false := by decide)
    (hall : (backToKw pos (keywordEach kws X.env)).all (·.1.isSome) = true := by rfl) (hks : (backToKw pos (keywordEach kws X.env)).filterMap (·.1) = ks := by rfl)
    (hpl : ((backTo pos (starEach [] X.env)).any (·.1) || (backToKw pos (keywordEach kws X.env)).any (·.1.isNone)) = false := by rfl) :
    PE X (.Call (.Name x p) [] kws pos) (tCallKw sp gV E0 tk) := pe_gKX G hr hq pass0 hkw hg hdb hall hks hpl
end
/-- the two values exchanged -/
def swp {α : Type} : List α → List α
  | [a, b] => [b, a]
  | _ => []
theorem swp_vals {vs : List V} {us : List Value} (h : Vals vs us) : Vals (swp vs) (swp us) := by
  cases h with
  | nil => exact .nil
  | cons a t =>
    cases t with
    | nil => exact .nil
    | cons b t =>
      cases t with
      | nil => exact .cons b (.cons a .nil)
      | cons _ _ => exact .nil
theorem boot_all2 : bootBuiltins "all" = some (.builtin "all") := by decide +kernel
theorem tYes_of {σ : L2.St} {H : Hp} {A B : Hp → Prop} (h : A H) : tYes σ H (fun b H3 => if b = true then A H3 else B H3) := by
  show (if true = true then A H else B H)
  exact iteT h
/-- _law_right(well): True -/
def spLRight : Sp := fun vs H Q _ => ∃ p : Addr, vs = [.ref p] ∧ Well H p ∧ ∀ H', But p H H' → Q (.bl true) H'
theorem gdk_of {P : Program} {w : World} {K : PySem.W.Frag} {mg : Str → Option Value} {base : Heap} {CX : CXT} {k : Nat} {x : Str} {st : Stmt} {ps ks : List Str} {g : List Value → List Value} {gV : List V → List V} {sp : Sp}
    (D : Df K mg x st)
    (hb : ∀ (kV doc pm : Value) (an : Option Addr) (cdv ct : Value) (us : List Value), (g us).length = ps.length →
      bindArgs (PySem.W.fnOf x x (defArgs st) (defBody st) (defScope st) .none kV doc pm an cdv ct) ⟨[], ks.zip us⟩ = pure (ps.zip (g us)))
    (hv : ∀ {vs : List V} {us : List Value}, Vals vs us → Vals (gV vs) (g us))
    (h : ∀ f fd, Fun K x x st f fd → Fn P w K mg base CX k f fd ps sp) : GdK P w K mg base CX k x ps ks g gV sp := by
  obtain ⟨f, fd, m, F⟩ := D
  refine ⟨f, fd, m, F.kp, fun s us hl => ?_, hv, h f fd F⟩
  obtain ⟨oc, od, kV, doc, pm, an, cdv, ct, osl, rfl, lk, hcd⟩ := F.ex
  exact .of_eq (hb _ _ _ _ _ _ us hl)

/-- what the things of a turn are made of -/
def rP (p : Addr) : L2.St → Hp → Prop := fun σ H => ∃ (kd md : List PyData) (ks : List Str) (ps : List PyData) (v z u : V), Sg kd md ∧ PatsOk md ks ps ∧ 1 ≤ ks.length ∧ ks.length ≤ 4 ∧ (∀ x ∈ ks, x ∈ kd.map nameOf) ∧ σ[0]? = some (some (.ref p)) ∧ σ[1]? = some (some v) ∧ σ[9]? = some (some z) ∧ σ[10]? = some (some u) ∧
  Dd (L2.del H p) v (.tuple [.tuple kd, .tuple md]) ∧ Dd (L2.del H p) z (.tuple (ks.map PyData.str)) ∧ Dd (L2.del H p) u (.tuple ps)
theorem stb_R {p : Addr} : Stb p (rP p) := fun σ H H' b ⟨kd, md, ks, ps, v, z, u, sg, po, l1, l4, hk, e0, e1, e9, e10, hv, hz, hu⟩ => ⟨kd, md, ks, ps, v, z, u, sg, po, l1, l4, hk, e0, e1, e9, e10, hv.but b, hz.but b, hu.but b⟩
local macro_rules | `(tactic| walk_at "stb") => `(tactic| repeat (first | exact stb_T | exact stb_V | exact stb_R | refine stb_and ?_ ?_))
def rv3 {α : Type} : List α → List α
  | [a, b, c] => [c, b, a]
  | _ => []
theorem rv3_vals {vs : List V} {us : List Value} (h : Vals vs us) : Vals (rv3 vs) (rv3 us) := by
  cases h with
  | nil => exact .nil
  | cons a t =>
    cases t with
    | nil => exact .nil
    | cons b t =>
      cases t with
      | nil => exact .nil
      | cons c t =>
        cases t with
        | nil => exact .cons c (.cons b (.cons a .nil))
        | cons _ _ => exact .nil
theorem rep_dd {H : Hp} {a : V} {d : PyData} (h : Dd H a d) : ∀ n : Nat, DdA H (List.replicate n [a]).flatten (List.replicate n d)
  | 0 => .nil
  | n + 1 => by
    rw [List.replicate_succ, List.replicate_succ, List.flatten_cons]
    exact .cons h (rep_dd h n)
theorem rep_oz {n : Nat} (h : n ≤ 4) : isOz 1000000 60 (.tuple (List.replicate n (.tuple [.str "?", .str "x"]))) := by
  have : n = 0 ∨ n = 1 ∨ n = 2 ∨ n = 3 ∨ n = 4 := by omega
  have z : ∀ m, m ≤ 4 → (okT (.tuple (List.replicate m (.tuple [.str "?", .str "x"]))) = true ∧ psz (.tuple (List.replicate m (.tuple [.str "?", .str "x"]))) ≤ 1000000) ∧ (PyData.tuple (List.replicate m (.tuple [.str "?", .str "x"]))).depth ≤ 60 := by decide +kernel
  exact ⟨(z n h).1.1, (z n h).1.2, (z n h).2⟩
theorem tup_oz {ds : List PyData} {n s D : Nat} (l : ds.length ≤ n) (o : ∀ d ∈ ds, isOz s D d) (hs : 1 + n * s ≤ 1000000) (hd : D + 1 ≤ 60) : isOz 1000000 60 (.tuple ds) := by
  refine ⟨okTs_of fun d hd => (o d hd).1, ?_, ?_⟩
  · rw [psz]
    have a := pszs_le ds fun d hd => (o d hd).2.1
    have b : ds.length * s ≤ n * s := Nat.mul_le_mul_right _ l
    omega
  · rw [PyData.depth]
    have := depthAll_of fun d hd => (o d hd).2.2
    omega
local macro_rules | `(tactic| walk_at "rd_odd") => `(tactic| (rintro σ H Q w ⟨kd, md, ks, ps, v, z, u, sg, po, l1, l4, hk, e0, e1, e9, e10, hv, hz, hu⟩ k; exact ⟨_, e0, _, rfl, w, fun v2 d2 H2 m2 W2 b2 h2 => k _ _ _ W2 b2 (h2.apart w.some) (odd_oz (by omega) (by omega) _ m2)⟩))
local macro_rules | `(tactic| walk_at "rd_bent") => `(tactic| (rintro σ H Q w ⟨kd, md, ks, ps, v, z, u, sg, po, l1, l4, hk, e0, e1, e9, e10, hv, hz, hu⟩ k; exact ⟨_, e0, _, e10, _, _, _, rfl, w, hu, (po.f l1 l4).sh, Nat.le_trans (po.f l1 l4).sz (by decide), fun v2 d2 H2 W2 b2 h2 o2 => k _ _ _ W2 b2 h2 (oz_up (by decide) (by decide) o2)⟩))
local macro_rules | `(tactic| walk_at "rd_shuf") => `(tactic| (rintro σ H Q w ⟨kd, md, ks, ps, v, z, u, sg, po, l1, l4, hk, e0, e1, e9, e10, hv, hz, hu⟩ k; exact ⟨_, e0, _, e10, _, _, ps, rfl, w, hu, po.tr, Nat.le_trans (po.f l1 l4).dp (by decide), Nat.le_trans (po.f l1 l4).sz (by decide), (po.f l1 l4).ok, (po.f l1 l4).nm, (po.f l1 l4).ns, fun r ds H2 W2 b2 h2 l2 t2 s2 p2 o2 => k _ _ _ W2 b2 h2 (tup_oz (n := 4) (s := 3000) (D := 45) (by rw [l2, po.len]; exact l4) (fun d hd => ⟨o2 d hd, s2 d hd, p2 d hd⟩) (by decide) (by decide))⟩))
local macro_rules | `(tactic| walk_at "rd_inst") => `(tactic| (rintro σ H Q w ⟨kd, md, ks, ps, v, z, u, sg, po, l1, l4, hk, e0, e1, e9, e10, hv, hz, hu⟩ k; obtain ⟨ls, els, lls⟩ := (po.f l1 l4).ls; exact ⟨_, e0, _, e1, _, e9, _, e10, _, _, _, _, kd, md, ks, ps, ls, 2, rfl, w, hv, sg.k1, sg.k2, hz, l4, hk, hu, els, po.tr, (po.f l1 l4).ok, Nat.le_trans (po.f l1 l4).dp (by decide), Nat.le_trans (po.f l1 l4).sz (by decide), by decide, lls, sg.few, sg.sm, fun r ds H2 W2 b2 h2 l2 t2 s2 p2 o2 => k _ _ _ W2 b2 h2 (tup_oz (n := 4) (s := 141 * tbN 3) (D := 55) (by rw [l2, po.len]; exact l4) (fun d hd => ⟨o2 d hd, Nat.le_trans (s2 d hd) (Nat.mul_le_mul_right _ (po.f l1 l4).sz), p2 d hd⟩) (by decide) (by decide))⟩))
local macro_rules | `(tactic| walk_at "rd_rep") => `(tactic| (
  rintro σ H Q w ⟨kd, md, ks, ps, v, z, u, sg, po, l1, l4, hk, e0, e1, e9, e10, hv, hz, hu⟩ k
  obtain ⟨za, zx, ez, hza, ZA⟩ := hz.tupD
  subst ez
  have lz := ZA.length
  rw [List.length_map] at lz
  refine ⟨by show 2 ≤ sizeLine; rw [sizeLine_eq]; decide, fun a ha => ⟨by show 1 ≤ sizeLine; rw [sizeLine_eq]; decide, fun b hb => ?_⟩⟩
  have s1 := same_new ha (.tup [.str "?", .str "x"])
  have s2 := same_new hb (.tup [.ref a])
  have ea : upd (upd H a (.tup [.str "?", .str "x"])) b (.tup [.ref a]) a = some (.tup [.str "?", .str "x"]) := s2 _ _ upd_same
  have eb : upd (upd H a (.tup [.str "?", .str "x"])) b (.tup [.ref a]) b = some (.tup [.ref a]) := upd_same
  have s3 := s1.trans s2
  generalize upd (upd H a (.tup [.str "?", .str "x"])) b (.tup [.ref a]) = H2 at s2 s3 ea eb ⊢
  have w2 := w.same s3
  have npw : ∀ {H3 : Hp} {c : Addr} {ys : List V}, Same H2 H3 → H3 c = some (.tup ys) → L2.del H3 _ c = some (.tup ys) := fun {H3 c ys} sx e => by
    obtain ⟨xs0, ep0⟩ := well_lst (w2.same sx)
    rw [del_ne (fun z => by rw [z, ep0] at e; cases e)]; exact e
  refine ⟨_, e9, za, zx, rfl, .inr (SqT.of (s3 _ _ (del_old _ _ hza))), ?_⟩
  refine ⟨b, (zx.length : Int), [.ref a], rfl, rfl, SqT.of eb, by simp, by omega, by omega, by show 1 ≤ 1000; decide, fun h1 => ?_, fun h2 q hq => ?_⟩
  · refine k _ (.tuple (List.replicate ks.length (.tuple [.str "?", .str "x"]))) _ w2 (Same.but s3) ?_ (rep_oz l4)
    rw [show ks.length = 1 from by omega]
    exact .tup (npw (Same.refl _) eb) (.cons (.tup (npw (Same.refl _) ea) (.cons (.str _) (.cons (.str _) .nil))) .nil)
  · have s4 := same_new hq (.tup (List.replicate ((zx.length : Int)).toNat [V.ref a]).flatten)
    refine k _ (.tuple (List.replicate ks.length (.tuple [.str "?", .str "x"]))) _ (w2.same s4) (Same.but (s3.trans s4)) ?_ (rep_oz l4)
    refine .tup (npw s4 upd_same) ?_
    rw [show ((zx.length : Int)).toNat = ks.length from by omega]
    exact rep_dd (.tup (npw (by rw [show ((zx.length : Int)).toNat = ks.length from by omega] at s4; exact s4) (by rw [show ((zx.length : Int)).toNat = ks.length from by omega] at s4; exact s4 _ _ ea)) (.cons (.str _) (.cons (.str _) .nil))) _))
theorem sig_ok {kd md : List PyData} (k1 : kindsB (.tuple kd) = true) (k2 : makersB (kd.map nameOf) (.tuple md) = true) : okT (.tuple [.tuple kd, .tuple md]) = true := by
  have oS : ∀ {x : Str}, nameS x = true → okT (.str x) = true := fun h => shB_ok (name_ok h)
  have kk : ∀ x ∈ kd.map nameOf, okT (.str x) = true := fun x hx => oS (name_of_kind (kindsB_parts k1).2.2.1 hx)
  refine okTs_of fun d hd => ?_
  rcases List.mem_cons.mp hd with rfl | hd
  · refine okTs_of fun d hd => ?_
    obtain ⟨x, b, rfl, hx, hb⟩ := kindB_pair ((kindsB_parts k1).2.2.1 d hd)
    obtain ⟨y, rfl, hy⟩ := among_str hb
    refine okTs_of fun e he => ?_
    rcases List.mem_cons.mp he with rfl | he
    · exact oS hx
    · rw [List.mem_singleton.mp he]
      rcases List.mem_cons.mp hy with rfl | hy
      · decide +kernel
      · rw [List.mem_singleton.mp hy]; decide +kernel
  · rw [List.mem_singleton.mp hd]
    refine okTs_of fun d hd => ?_
    have h := (makersB_parts k2).2.1 d hd
    obtain ⟨x, ns, k, rfl, hx, l3, hns, hk⟩ := makerB_of h
    refine okTs_of fun e he => ?_
    rcases List.mem_cons.mp he with rfl | he
    · exact oS hx
    rcases List.mem_cons.mp he with rfl | he
    · refine okTs_of fun n hn => ?_
      obtain ⟨y, rfl, hy⟩ := among_str (List.all_eq_true.mp hns n hn)
      exact kk y hy
    · rw [List.mem_singleton.mp he]; exact kk k hk
theorem okb {b : Bool} : (PyData.bool b).showable = true ∧ (PyData.bool b).depth ≤ 60 ∧ (PyData.bool b).shown.length ≤ sizeLine := by
  rw [sizeLine_eq]
  cases b <;> decide +kernel
mutual
theorem Dd.monoD {H H' : Hp} (s : ∀ b o, H b = some o → (∀ od u, o ≠ .frz od u) → H' b = some o) : ∀ {v : V} {d : PyData}, Dd H v d → Dd H' v d
  | _, _, .non => .non
  | _, _, .bl b => .bl b
  | _, _, .int i => .int i
  | _, _, .str x => .str x
  | _, _, .lst h n a => .lst (s _ _ h (fun _ _ z => nomatch z)) n (DdA.monoD s a)
  | _, _, .tup h a => .tup (s _ _ h (fun _ _ z => nomatch z)) (DdA.monoD s a)
  | _, _, .dic h => .dic (s _ _ h (fun _ _ z => nomatch z))
theorem DdA.monoD {H H' : Hp} (s : ∀ b o, H b = some o → (∀ od u, o ≠ .frz od u) → H' b = some o) : ∀ {vs : List V} {ds : List PyData}, DdA H vs ds → DdA H' vs ds
  | _, _, .nil => .nil
  | _, _, .cons h t => .cons (Dd.monoD s h) (DdA.monoD s t)
end
theorem pk_tr {md : List PyData} {us : List Str} (mb : ∀ m ∈ md, makerB us m = true) : ∀ (n : Nat) (d : PyData) (x : Str) (l : List (Str × Str)), psz d ≤ n → pkB md d x = some l → trB d = true
  | 0, d, _, _, h, _ => absurd (psz_pos d) (by omega)
  | n + 1, d, x, l, h, e => by
    cases v : variableB d with
    | true =>
      obtain ⟨y, rfl, _⟩ := variableB_some v
      rw [trB, trH, if_pos rfl]; rfl
    | false =>
      cases d with
      | tuple ds =>
        rw [pkB, v] at e
        have e : pkH md ds x = some l := e
        cases ds with
        | nil => rw [pkH] at e; cases e; all_goals (intros; simp_all)
        | cons a ps =>
          cases a with
          | str y =>
            rw [pkH] at e
            have hn : nameS y = true := by
              cases q : nameS y with
              | true => rfl
              | false => rw [mark_no mb q] at e; cases e
            have c1 : y ≠ "?" := fun z => by rw [z] at hn; exact absurd hn (by decide +kernel)
            have c2 : y ≠ "#" := fun z => by rw [z] at hn; exact absurd hn (by decide +kernel)
            rw [trB, trH, if_neg c1, if_neg c2]
            have pz : psz (.tuple (.str y :: ps)) = 2 + pszs ps := by
              rw [psz, pszs, psz]
              · omega
              · intros; simp_all
            have all : ∀ (qs : List PyData) (ns : List Str) (l2 : List (Str × Str)), pszs qs ≤ n → pkL md qs ns = some l2 → trL qs = true := fun qs => by
              induction qs with
              | nil => intro ns l2 _ _; rw [trL]
              | cons p qs ih =>
                intro ns l2 lz w
                rw [pszs] at lz
                cases ns with
                | nil => rw [pkL] at w; cases w; all_goals (intros; simp_all)
                | cons a b =>
                  rw [pkL] at w
                  split at w
                  · rename_i l3 l4 e3 e4
                    rw [trL, pk_tr mb n p a l3 (by omega) e3, ih b l4 (by omega) e4]; rfl
                  · cases w
            split at e
            · split at e
              · exact all _ _ _ (by omega) e
              · cases e
            · cases e
          | _ => rw [pkH] at e; cases e; all_goals (intros; simp_all)
      | _ => rw [pkB] at e; cases e; all_goals (intros; simp_all)
theorem pats_tr {md : List PyData} {us ks : List Str} (mb : ∀ m ∈ md, makerB us m = true) {d : PyData} (h : patsB md ks d = true) : ∃ qs, d = .tuple qs ∧ qs.length = ks.length ∧ ∀ q ∈ qs, trB q = true := by
  cases d with
  | tuple qs =>
    have h : (match pkL md qs ks with | some ls => funB ls | none => false) = true := h
    cases e : pkL md qs ks with
    | none => rw [e] at h; cases h
    | some ls =>
      clear h
      revert e
      have all : ∀ (qs : List PyData) (ns : List Str) (l2 : List (Str × Str)), pkL md qs ns = some l2 → ∀ q ∈ qs, trB q = true := fun qs => by
        induction qs with
        | nil => intro ns l2 _ q hq; cases hq
        | cons p qs ih =>
          intro ns l2 w q hq
          cases ns with
          | nil => rw [pkL] at w; cases w; all_goals (intros; simp_all)
          | cons a b =>
            rw [pkL] at w
            split at w
            · rename_i l3 l4 e3 e4
              rcases List.mem_cons.mp hq with rfl | hq
              · exact pk_tr mb (psz q) q a l3 (Nat.le_refl _) e3
              · exact ih b l4 e4 q hq
            · cases w
      exact fun e => ⟨qs, rfl, pkL_len e, all qs ks ls e⟩
  | _ => cases h
theorem te_nx {t : TE} {σ : L2.St} {H : Hp} {Q : VK} (I : V → Hp → Prop) (hI : ∀ v H', I v H' → Q v H') (h : ∀ N : VK, (∀ v H', I v H' → N v H') → t σ H N) : t σ H Q := h _ hI
/-- their names are short -/
def NmS (md : List PyData) : Prop := ∀ m ∈ md, (PyData.str (nameOf m)).shown.length ≤ 20

section
variable {P : Program} {w : World} {K : PySem.W.Frag} {mg : Str → Option Value} {base : Heap}
theorem sc_right : FnScope ["well", "sig", "three", "turn", "kind", "at", "thing", "due", "told", "kinds", "patterns", "things", "part", "size"] ["well"] (defScope s_right) := ⟨rfl, rfl, rfl, by decide +kernel, rfl, by decide +kernel, by decide +kernel⟩
theorem ok_right (D : Df K mg "_law_right" s_right) (B : Bi mg) (Bs : mg "sum" = none) (G1 : Gd P w K mg base CX0 4 "_law_sig" ["well"] spLSigM) (G2 : Gd P w K mg base CX0 1 "_law_draw" ["well", "few"] spDraw) (G3 : Gd P w K mg base CX0 2 "_law_one" ["well", "some"] (spOne K)) (G4 : Gd P w K mg base CX0 52 "_law_things" ["well", "sig", "term"] spThings) (G5 : Gd P w K mg base CX0 55 "_law_term" ["well", "sig", "kind", "deep"] (spTermD 3)) (G6 : Gd P w K mg base CX0 34 "_law_is_term" ["sig", "kind", "thing"] (spLTerm 31)) (G7 : Gd P w K mg base CX0 6 "is_term" ["signature", "kind", "value"] spIsTerm) (G8 : Gd P w K mg base CX0 3 "_law_kinds" ["well", "sig", "most"] spKindsD) (G9 : Gd P w K mg base CX0 49 "_law_patterns" ["well", "sig", "kinds", "deep"] spPats) (G10 : Gd P w K mg base CX0 3 "_law_odd_thing" ["well"] spOdd) (G11 : Gd P w K mg base CX0 60 "_law_instance" ["well", "sig", "kinds", "patterns", "deep"] spInst) (G12 : Gd P w K mg base CX0 50 "_law_shuffled" ["well", "patterns"] spShuf) (G13 : Gd P w K mg base CX0 4 "_law_bent" ["well", "thing"] (spBent 1000)) (G14 : Gd P w K mg base CX0 63 "_law_are_patterns" ["sig", "kinds", "thing"] (spLPats 60)) (G15 : Gd P w K mg base CX0 6 "are_patterns" ["signature", "kinds", "value"] spArePats) (G16 : Gd P w K mg base CX0 61 "_law_size" ["term"] (spSize 60)) (G17 : Gd P w K mg base CX0 1 "_law_makers" ["sig", "kind"] spLMakers) (G18 : Gd P w K mg base CX0 49 "_law_closed" ["sig", "kind", "size"] (spCl 47)) (G19 : Gd P w K mg base CX0 16 "terms" ["signature", "kind", "size"] spTerms) (GK1 : GdK P w K mg base CX0 6 "is_term" ["signature", "kind", "value"] ["value", "kind", "signature"] rv3 rv3 spIsTerm) (GK2 : GdK P w K mg base CX0 6 "are_patterns" ["signature", "kinds", "value"] ["value", "kinds", "signature"] rv3 rv3 spArePats) (GK3 : GdK P w K mg base CX0 16 "terms" ["signature", "kind", "size"] ["size", "kind", "signature"] rv3 rv3 spTerms) : Gd P w K mg base CX0 64 "_law_right" ["well"] spLRight := by
  refine gd_of D (fun _ _ _ _ _ _ us hl => match us, hl with | [_], _ => rfl) fun f fd F => ?_
  refine fun_q F sc_right (fun vs H Q E h => by obtain ⟨p, rfl, _⟩ := h; rfl) (fun cdv A outer s H vs Q E hr hq h => ?_)
  obtain ⟨p, rfl, W, k⟩ := h
  refine ⟨_, (pss_cons (ps_set (i := 1) sc_right.nd rfl (Or.inr rfl) (pe_g (G1.mono (by omega)) hr hq (pa_cons (pv 0) pa_nil)))
      (pss_cons (ps_if (pt_cmpR op_eq (pe_g (G2.mono (by omega)) hr hq (pa_cons (pv 0) (pa_cons pe_int pa_nil))) pe_int (nomark _)) (pss_cons (ps_set (i := 2) sc_right.nd rfl (Or.inl rfl) (pe_callTy call_tuple_of (by rfl) B.tuple (by decide +kernel) (pa_cons (pe_lc (own := [("turn", 3)]) (g := (gName 3)) (tt := tYes) rfl sc_right.nd (pi_range1 rfl B.range (pa_cons pe_int pa_nil)) (blkOk_by (own := [("turn", 3)]) (N := ["well", "sig", "three", "turn", "kind", "at", "thing", "due", "told", "kinds", "patterns", "things", "part", "size"]) (sc := defScope s_right) (by decide +kernel)) (fun _ _ _ _ _ => (pg_name (i := 3) sc_right.nd rfl (Or.inl rfl))) (fun _ _ _ _ _ => pts_nil) (fun _ _ _ _ _ => (pe_ix (ix_tupK (K := K) rfl) (pe_g (G3.mono (by omega)) hr hq (pa_cons (pv 0) (pa_cons (pe_ix (ix_tupK (K := K) rfl) (pv 1) pe_int (fun _ _ => rfl)) pa_nil))) pe_int (fun _ _ => rfl)))) pa_nil)))
      (pss_one (ps_set (i := 1) sc_right.nd rfl (Or.inr rfl) (pe_tup (pa_cons (pe_ix ix_tup (pv 1) pe_int (fun _ _ => rfl)) (pa_cons (pe_op op_catA (pe_ix ix_tup (pv 1) pe_int (fun _ _ => rfl)) (pe_tup (pa_cons (pe_tup (pa_cons pe_str (pa_cons (pv 2) (pa_cons (pe_ix ix_tup (pe_g (G3.mono (by omega)) hr hq (pa_cons (pv 0) (pa_cons (pe_ix ix_tup (pv 1) pe_int (fun _ _ => rfl)) pa_nil))) pe_int (fun _ _ => rfl)) pa_nil)))) pa_nil))) pa_nil)))))) pss_nil)
      (pss_cons (ps_for PassesOwn.never rfl (pi_range1 rfl B.range (pa_cons pe_int pa_nil)) (pg_name (i := 3) sc_right.nd rfl (Or.inl rfl)) (pss_cons (ps_set (i := 4) sc_right.nd rfl (Or.inl rfl) (pe_ix ix_tup (pe_g (G3.mono (by omega)) hr hq (pa_cons (pv 0) (pa_cons (pe_ix ix_tup (pv 1) pe_int (fun _ _ => rfl)) pa_nil))) pe_int (fun _ _ => rfl)))
      (pss_cons (ps_for PassesOwn.never rfl (pi_enum (by rfl) B.enumerate (pa_cons (pe_g (G4.mono (by omega)) hr hq (pa_cons (pv 0) (pa_cons (pv 1) (pa_cons (pe_g (G5.mono (by omega)) hr hq (pa_cons (pv 0) (pa_cons (pv 1) (pa_cons (pv 4) (pa_cons pe_int pa_nil))))) pa_nil)))) pa_nil)) (pg_tup rfl (pgs_cons (pg_name (i := 5) sc_right.nd rfl (Or.inl rfl)) (pgs_cons (pg_name (i := 6) sc_right.nd rfl (Or.inl rfl)) pgs_nil))) (pss_cons (ps_set (i := 7) sc_right.nd rfl (Or.inl rfl) (pe_g (G6.mono (by omega)) hr hq (pa_cons (pv 1) (pa_cons (pv 4) (pa_cons (pv 6) pa_nil)))))
      (pss_cons (ps_set (i := 8) sc_right.nd rfl (Or.inl rfl) (pe_ifExp (pt_cmpR op_eq (pe_op op_mod (pe_callTy call_int1 (by rfl) B.int (by decide +kernel) (pa_cons (pv 5) pa_nil)) pe_int) pe_int (nomark _)) (pe_g (G7.mono (by omega)) hr hq (pa_cons (pv 1) (pa_cons (pv 4) (pa_cons (pv 6) pa_nil)))) (pe_gK GK1 (hr.mono (by omega)) hq (pk_cons (pv 6) (pk_cons (pv 4) (pk_cons (pv 1) pk_nil))))))
      (pss_one (ps_if (pt_cmpR op_ne (pe_callB (call_repr hq hr.units) (by rfl) B.repr (by decide +kernel) (pa_cons (pv 8) pa_nil)) (pe_callB (call_repr hq hr.units) (by rfl) B.repr (by decide +kernel) (pa_cons (pv 7) pa_nil)) (nomark _)) (pss_one (ps_ret pe_bl)) pss_nil)))))
      (pss_cons (ps_set (i := 9) sc_right.nd rfl (Or.inl rfl) (pe_g (G8.mono (by omega)) hr hq (pa_cons (pv 0) (pa_cons (pv 1) (pa_cons pe_int pa_nil)))))
      (pss_cons (ps_set (i := 10) sc_right.nd rfl (Or.inl rfl) (pe_g (G9.mono (by omega)) hr hq (pa_cons (pv 0) (pa_cons (pv 1) (pa_cons (pv 9) (pa_cons pe_int pa_nil))))))
      (pss_cons (ps_set (i := 11) sc_right.nd rfl (Or.inl rfl) (dr_lst (p := p) (dr_cons (by walk_at "stb") (dz_ok1 (S := 1000000) (D := 60) (dw_imp (dw_var (P := isTn 1000) (pv 10)) fun _ q => q.1)) (dr_cons (by walk_at "stb") (dz_okL (S := 1000000) (D := 60) (dz_list B.list (dw_imp (dw_var (P := isTn 1000) (pv 10)) fun _ q => q.1))) (dr_cons (by walk_at "stb") (dz_ok1 (S := 1000000) (D := 60) (dz_cut (p2 := pT) (dw_imp (dw_var (P := isTn 1000) (pv 10)) fun _ q => q.1) po_none (po_some (pe_un un_neg pe_int)) (fun _ _ _ _ q => q none) (fun _ _ _ _ q => ⟨1, rfl, -1, rfl, q _⟩) stb_T)) (dr_cons (by walk_at "stb") (dz_ok1 (S := 1000000) (D := 60) (dz_cat (by walk_at "stb") (dw_imp (dw_var (P := isTn 1000) (pv 10)) fun _ q => q.1) (dz_cut (p2 := pT) (dw_imp (dw_var (P := isTn 1000) (pv 10)) fun _ q => q.1) po_none (po_some pe_int) (fun _ _ _ _ q => q none) (fun _ _ _ _ q => ⟨1, rfl, q _⟩) stb_T))) (dr_cons (by walk_at "stb") (dw_of (p1 := rP p) (P := isOz 1000000 60) (pe_op op_repT1 (pe_tup (pa_cons (pe_tup (pa_cons pe_str (pa_cons pe_str pa_nil))) pa_nil)) (pe_callB call_len_seq (by rfl) B.len (by decide +kernel) (pa_cons (pv 9) pa_nil))) (by walk_at "rd_rep")) (dr_cons (by walk_at "stb") (dw_of (p1 := rP p) (P := isOz 1000000 60) (pe_g (G10.mono (by omega)) hr hq (pa_cons (pv 0) pa_nil)) (by walk_at "rd_odd")) dr_nil))))))))
      (pss_cons (ps_set (i := 11) sc_right.nd rfl (Or.inl rfl) (pe_op op_catN (pv 11) (dr_lst (p := p) (dr_cons (by walk_at "stb") (dw_of (p1 := rP p) (P := isOz 1000000 60) (pe_g (G11.mono (by omega)) hr hq (pa_cons (pv 0) (pa_cons (pv 1) (pa_cons (pv 9) (pa_cons (pv 10) (pa_cons pe_int pa_nil)))))) (by walk_at "rd_inst")) (dr_cons (by walk_at "stb") (dz_ok1 (S := 1000000) (D := 60) (dz_cat (by walk_at "stb") (dr_tup (dr_cons (by walk_at "stb") (dz_ok1 (S := 10) (D := 20) (dr_tup (dr_cons (by walk_at "stb") (dz_str (S := 1) (D := 1)) (dr_cons (by walk_at "stb") (dz_str (S := 1) (D := 1)) dr_nil)))) dr_nil)) (dz_cut (p2 := pT) (dw_imp (dw_var (P := isTn 1000) (pv 10)) fun _ q => q.1) (po_some pe_int) po_none (fun _ _ _ _ q => ⟨1, rfl, q _⟩) (fun _ _ _ _ q => q none) stb_T))) (dr_cons (by walk_at "stb") (dw_of (p1 := rP p) (P := isOz 1000000 60) (pe_g (G12.mono (by omega)) hr hq (pa_cons (pv 0) (pa_cons (pv 10) pa_nil))) (by walk_at "rd_shuf")) dr_nil))))))
      (pss_cons (ps_set (i := 5) sc_right.nd rfl (Or.inl rfl) (pe_g (G2.mono (by omega)) hr hq (pa_cons (pv 0) (pa_cons (pe_callB call_len_seq (by rfl) B.len (by decide +kernel) (pa_cons (pv 9) pa_nil)) pa_nil))))
      (pss_cons (ps_for PassesOwn.never rfl (pi_list (pe_lock (pe_g (G4.mono (by omega)) hr hq (pa_cons (pv 0) (pa_cons (pv 1) (pa_cons (pe_ix ix_tup (pv 10) (pv 5) (fun _ _ => rfl)) pa_nil)))))) (pg_name (i := 12) sc_right.nd rfl (Or.inl rfl)) (pss_one (ps_expr (pe_bm PySem.F.plainAttrs_list PySem.F.slot_list_append PySem.F.type_list_append mt_append (pv 11) (pa_cons (pe_op op_catA (pe_op op_catA (pe_slice sl_tupA (pv 10) po_none (po_some (pv 5))) (pe_tup (pa_cons (pv 12) pa_nil))) (pe_slice sl_tupA (pv 10) (po_some (pe_op op_add (pv 5) pe_int)) po_none)) pa_nil)))))
      (pss_one (ps_for PassesOwn.never rfl (pi_enum (by rfl) B.enumerate (pa_cons (pe_op op_catN (pv 11) (dr_lst (p := p) (dr_cons (by walk_at "stb") (dw_of (p1 := rP p) (P := isOz 1000000 60) (pe_g (G13.mono (by omega)) hr hq (pa_cons (pv 0) (pa_cons (pv 10) pa_nil))) (by walk_at "rd_bent")) (dr_cons (by walk_at "stb") (dw_of (p1 := rP p) (P := isOz 1000000 60) (pe_g (G13.mono (by omega)) hr hq (pa_cons (pv 0) (pa_cons (pv 10) pa_nil))) (by walk_at "rd_bent")) dr_nil)))) pa_nil)) (pg_tup rfl (pgs_cons (pg_name (i := 5) sc_right.nd rfl (Or.inl rfl)) (pgs_cons (pg_name (i := 6) sc_right.nd rfl (Or.inl rfl)) pgs_nil))) (pss_cons (ps_set (i := 7) sc_right.nd rfl (Or.inl rfl) (pe_g (G14.mono (by omega)) hr hq (pa_cons (pv 1) (pa_cons (pv 9) (pa_cons (pv 6) pa_nil)))))
      (pss_one (ps_if (PW.pt (pw_or (pt_not (pt_val (pv 7))) (pw_or1 (pt_cmpR op_lt (pe_callB (cr_sum rfl) (by rfl) Bs (by decide +kernel) (pa_cons (pe_lc (own := [("part", 12)]) (g := (gName 12)) (tt := tYes) rfl sc_right.nd (pi_tup (pv 6)) (blkOk_by (own := [("part", 12)]) (N := ["well", "sig", "three", "turn", "kind", "at", "thing", "due", "told", "kinds", "patterns", "things", "part", "size"]) (sc := defScope s_right) (by decide +kernel)) (fun _ _ _ _ _ => (pg_name (i := 12) sc_right.nd rfl (Or.inl rfl))) (fun _ _ _ _ _ => pts_nil) (fun _ _ _ _ _ => (pe_g (G16.mono (by omega)) hr hq (pa_cons (pv 12) pa_nil)))) pa_nil)) pe_int (nomark _))))) (pss_cons (ps_set (i := 8) sc_right.nd rfl (Or.inl rfl) (pe_g (G15.mono (by omega)) hr hq (pa_cons (pv 1) (pa_cons (pv 9) (pa_cons (pv 6) pa_nil)))))
      (pss_cons (ps_if (pt_cmpR op_eq (pe_op op_mod (pe_callTy call_int1 (by rfl) B.int (by decide +kernel) (pa_cons (pv 5) pa_nil)) pe_int) pe_int (nomark _)) (pss_one (ps_set (i := 8) sc_right.nd rfl (Or.inl rfl) (pe_gK GK2 (hr.mono (by omega)) hq (pk_cons (pv 6) (pk_cons (pv 9) (pk_cons (pv 1) pk_nil)))))) pss_nil)
      (pss_one (ps_if (pt_cmpR op_ne (pe_callB (call_repr hq hr.units) (by rfl) B.repr (by decide +kernel) (pa_cons (pv 8) pa_nil)) (pe_callB (call_repr hq hr.units) (by rfl) B.repr (by decide +kernel) (pa_cons (pv 7) pa_nil)) (nomark _)) (pss_one (ps_ret pe_bl)) pss_nil)))) pss_nil))))))))))))))
      (pss_cons (ps_par (i := 4) (j := 13) (by rfl) sc_right.nd rfl rfl (by decide) rfl rfl (pa_cons (pe_ix ix_tup (pe_g (G3.mono (by omega)) hr hq (pa_cons (pv 0) (pa_cons (pe_ix ix_tup (pv 1) pe_int (fun _ _ => rfl)) pa_nil))) pe_int (fun _ _ => rfl)) (pa_cons (pe_op op_add pe_int (pe_g (G2.mono (by omega)) hr hq (pa_cons (pv 0) (pa_cons pe_int pa_nil)))) pa_nil)) (by rfl))
      (pss_cons (ps_for PassesOwn.never rfl (pi_tup (pe_tup (pa_cons (pv 13) (pa_cons pe_int (pa_cons (pe_ifExp (PW.pt (pw_and (pt_cmpR op_lt (pe_callB call_len_seq (by rfl) B.len (by decide +kernel) (pa_cons (pe_g (G17.mono (by omega)) hr hq (pa_cons (pv 1) (pa_cons (pv 4) pa_nil))) pa_nil)) pe_int (nomark _)) (pw_and1 (pt_cmpR op_eq (pe_g (G2.mono (by omega)) hr hq (pa_cons (pv 0) (pa_cons pe_int pa_nil))) pe_int (nomark _))))) pe_int pe_int) pa_nil))))) (pg_name (i := 13) sc_right.nd rfl (Or.inl rfl)) (pss_cons (ps_set (i := 7) sc_right.nd rfl (Or.inl rfl) (pe_callTy call_tuple_of (by rfl) B.tuple (by decide +kernel) (pa_cons (pe_callB (cr_sortDd hr.units) (by rfl) B.sorted (by decide +kernel) (pa_cons (pe_g (G18.mono (by omega)) hr hq (pa_cons (pv 1) (pa_cons (pv 4) (pa_cons (pv 13) pa_nil)))) pa_nil)) pa_nil)))
      (pss_one (ps_if (pt_cmpR op_ne (pe_callB (call_repr hq hr.units) (by rfl) B.repr (by decide +kernel) (pa_cons (pe_lstN (pa_cons (pe_g (G19.mono (by omega)) hr hq (pa_cons (pv 1) (pa_cons (pv 4) (pa_cons (pv 13) pa_nil)))) (pa_cons (pe_gK GK3 (hr.mono (by omega)) hq (pk_cons (pv 13) (pk_cons (pv 4) (pk_cons (pv 1) pk_nil)))) pa_nil))) pa_nil)) (pe_callB (call_repr hq hr.units) (by rfl) B.repr (by decide +kernel) (pa_cons (pe_lstN (pa_cons (pv 7) (pa_cons (pv 7) pa_nil))) pa_nil)) (nomark _)) (pss_one (ps_ret pe_bl)) pss_nil))))
      (pss_one (ps_ret pe_bl))))))), ?_⟩
  refine ⟨_, rfl, p, rfl, W, fun v kd md H1 W1 b1 hd sf hsg => ?_⟩
  obtain ⟨kd0, md0, hin, pk0, pm0⟩ := hsg
  dsimp only [gName]
  refine seq_nx (a := tIfS _ _ _) (fun σ H2 => ∃ v kd md, (∃ x2 x3 x4 x5 x6 x7 x8 x9 x10 x11 x12 x13, σ = [some (.ref p), some v, x2, x3, x4, x5, x6, x7, x8, x9, x10, x11, x12, x13]) ∧ Well H2 p ∧ But p H H2 ∧ Dd (L2.del H2 p) v (.tuple [.tuple kd, .tuple md]) ∧ Sg kd md ∧ NmS md) (fun σ H2 pp => ?_) (fun N hN => ?_)
  rotate_left
  · have sg : Sg kd md := sg_of hin pk0 (.inl rfl) (by rw [List.append_nil]; exact pm0)
    obtain ⟨l1, l8, kb, knd⟩ := kindsB_parts sg.k1
    obtain ⟨sa, vk, vm, rfl, hsa, hk, hm⟩ := dd2 hd
    obtain ⟨ka, kx, rfl, hka, KA⟩ := hk.tupD
    obtain ⟨ma, mx, rfl, hma, MA⟩ := hm.tupD
    have lk := KA.length
    have lm := MA.length
    have npk : p ≠ ka := fun z => by rw [← z, del_at] at hka; cases hka
    have up : ∀ {H' : Hp}, But p H1 H' → ∀ {a : Addr} {o : HO}, L2.del H1 p a = some o → H' a = some o := fun {H'} b {a o} e => del_old _ _ (b.del _ _ e)
    refine ⟨_, rfl, p, 2, rfl, W1, by decide, by decide, fun d2 H2 d0 dl W2 b2 => ?_⟩
    refine ⟨rfl, _, rfl, ?_⟩
    rw [show decide (V.int d2 = V.int 0) = decide (d2 = 0) from decide_eq_decide.mpr ⟨fun z => by injection z with z, fun z => by rw [z]⟩]
    by_cases cd : d2 = 0
    rotate_left
    · rw [decide_eq_false cd]
      exact iteF (hN _ _ ⟨_, kd, md, ⟨_, _, _, _, _, _, _, _, _, _, _, _, rfl⟩, W2, b1.trans b2, hd.but b2, sg, nm_of hin (ts := []) (ns := kd.map nameOf) (.inl rfl) (by rw [List.append_nil]; exact pm0)⟩)
    rw [decide_eq_true cd]
    refine iteT ?_
    walk_at "rd"
    refine fun D hD => ?_
    have nDp : D ≠ p := fun z => W2.some (z ▸ hD)
    refine lc_it (walk_range (lo := 0)) (fun i H5 => Well H5 p ∧ But p H2 H5 ∧ ∃ ks : List Str, H5 D = some (.lst (ks.map V.str)) ∧ ks.length = i ∧ ∀ x ∈ ks, x ∈ kd.map nameOf) ⟨W2.new hD, new_but hD, [], upd_same, rfl, fun x hx => by cases hx⟩ (fun _ _ _ _ => True.intro) (fun i y H5p H5 hi pp hy => ?_) (fun H5 pp => ?_)
    · obtain ⟨rfl, rfl⟩ := hy
      obtain ⟨W5, b5, ks, e5, lks, hks⟩ := pp
      have b15 := b2.trans b5
      refine ⟨rfl, ?_⟩
      refine ⟨_, rfl, _, rfl, sa, _, 0, _, rfl, rfl, SqT.of (up b15 hsa), rfl, p, ka, kx, rfl, W5, SqT.of (up b15 hka), npk, by omega, by omega, fun j6 w6 H6 ej6 W6 b6 => ?_⟩
      obtain ⟨q6, c6, k6, ed6, rfl, hq6, _⟩ := kind_at KA kb ej6
      have hc6 : c6 ∈ kd.map nameOf := List.mem_map.mpr ⟨_, List.mem_of_getElem? ed6, rfl⟩
      have B6 := (b15).trans b6
      refine ⟨q6, _, 0, _, rfl, rfl, SqT.of (up B6 hq6), rfl, ?_⟩
      have e6 := b6 _ _ nDp e5
      refine ⟨_, e6, by rw [sizeLine_eq, List.length_map]; omega, ?_, fun a o na e => ?_, ks ++ [c6], ?_, by rw [List.length_append, lks]; rfl, fun z hz => ?_⟩
      · obtain ⟨a, m, c, N, ew⟩ := W6
        exact ⟨a, m, c, N, by rw [upd_ne nDp.symm]; exact ew⟩
      · have c : a ≠ D := fun z => by rw [z, hD] at e; cases e
        rw [upd_ne c]
        exact (b5.trans b6) a o na e
      · rw [upd_same, List.map_append]; rfl
      · rcases List.mem_append.mp hz with w | w
        · exact hks z w
        · rw [List.mem_singleton.mp w]; exact hc6
    obtain ⟨W5, b5, ks, e5, lks, hks⟩ := pp
    have lks : ks.length = 3 := lks
    refine ⟨D, _, rfl, .inl ⟨SqL.of e5, fun t ht => ?_⟩⟩
    have b6 := (b2.trans b5).trans (new_but ht (o := .tup (ks.map V.str)))
    have W6 := W5.new (o := .tup (ks.map V.str)) ht
    have et : upd H5 t (.tup (ks.map V.str)) t = some (.tup (ks.map V.str)) := upd_same
    have ntp : t ≠ p := fun z => W5.some (z ▸ ht)
    generalize upd H5 t (.tup (ks.map V.str)) = H6 at b6 W6 et ⊢
    refine ⟨_, rfl, sa, _, 0, _, rfl, rfl, SqT.of (up b6 hsa), rfl, ?_⟩
    refine ⟨_, rfl, sa, _, 1, _, rfl, rfl, SqT.of (up b6 hsa), rfl, ?_⟩
    refine ⟨_, rfl, ?_⟩
    refine ⟨_, rfl, _, rfl, sa, _, 0, _, rfl, rfl, SqT.of (up b6 hsa), rfl, p, ka, kx, rfl, W6, SqT.of (up b6 hka), npk, by omega, by omega, fun j7 w7 H7 ej7 W7 b7 => ?_⟩
    obtain ⟨q7, c7, k7, ed7, rfl, hq7, _⟩ := kind_at KA kb ej7
    have hc7 : c7 ∈ kd.map nameOf := List.mem_map.mpr ⟨_, List.mem_of_getElem? ed7, rfl⟩
    have B7 := (b6).trans b7
    refine ⟨q7, _, 0, _, rfl, rfl, SqT.of (up B7 hq7), rfl, ?_⟩
    refine ⟨by show 3 ≤ sizeLine; rw [sizeLine_eq]; decide, fun t1 ht1 => ⟨by show 1 ≤ sizeLine; rw [sizeLine_eq]; decide, fun t2 ht2 => ?_⟩⟩
    have s8 := same_new ht1 (.tup [.str "tri", .ref t, .str c7])
    have s9 := same_new ht2 (.tup [.ref t1])
    refine catA_all (xs := mx) (ys := [.ref t1]) (s9 _ _ (s8 _ _ (up B7 hma))) upd_same (by rw [sizeLine_eq]; show _ + 1 ≤ _; have := (makersB_parts sg.k2).1; omega) fun t3 H8 s10 e3 => ?_
    refine ⟨by show 2 ≤ sizeLine; rw [sizeLine_eq]; decide, fun t4 ht4 => ?_⟩
    have s11 := same_new ht4 (.tup [.ref ka, .ref t3])
    have s7 := ((s8.trans s9).trans s10).trans s11
    have W8 := W7.same s7
    have B8 := B7.trans (Same.but s7)
    obtain ⟨xs0, ep0⟩ := well_lst W8
    have npw : ∀ {a : Addr} {ys : List V}, upd H8 t4 (.tup [.ref ka, .ref t3]) a = some (.tup ys) → L2.del (upd H8 t4 (.tup [.ref ka, .ref t3])) p a = some (.tup ys) := fun {a ys} e => by
      have n : a ≠ p := fun z => by rw [z, ep0] at e; cases e
      rw [del_ne n]; exact e
    have e4 : upd H8 t4 (.tup [.ref ka, .ref t3]) t4 = some (.tup [.ref ka, .ref t3]) := upd_same
    have e3 := s11 _ _ e3
    have e1 := s11 _ _ (s10 _ _ (s9 _ _ (upd_same : upd H7 t1 (.tup [.str "tri", .ref t, .str c7]) t1 = _)))
    have et := s7 _ _ (b7 _ _ ntp et)
    refine hN _ _ ⟨.ref t4, kd, md ++ [.tuple [.str "tri", .tuple (ks.map PyData.str), .str c7]], ⟨_, _, _, _, _, _, _, _, _, _, _, _, rfl⟩, W8, (b1.trans B8), ?_, ?_, ?_⟩
    · exact .tup (npw e4) (.cons (hk.but B8) (.cons (.tup (npw e3) (DdA.append (MA.mono B8.del) (.cons (.tup (npw e1) (.cons (.str _) (.cons (.tup (npw et) (DdA.ofStrs ks)) (.cons (.str _) .nil)))) .nil))) .nil))
    all_goals (
      have h3 : ∃ a b c, ks = [a, b, c] := by
        match ks, lks with
        | [a, b, c], _ => exact ⟨a, b, c, rfl⟩
      obtain ⟨ka', kb', kc', rfl⟩ := h3)
    · exact sg_of hin pk0 (.inr ⟨ka', kb', kc', c7, hks _ (by simp), hks _ (by simp), hks _ (by simp), hc7, rfl⟩) (pm0.append_right _)
    · exact nm_of hin (ns := kd.map nameOf) (.inr ⟨ka', kb', kc', c7, hks _ (by simp), hks _ (by simp), hks _ (by simp), hc7, rfl⟩) (pm0.append_right _)
  clear hd sf hin pk0 pm0 b1 W1
  obtain ⟨v, kd, md, ⟨x2, x3, x4, x5, x6, x7, x8, x9, x10, x11, x12, x13, rfl⟩, W2, b02, hd, sg, nms⟩ := pp
  obtain ⟨l1, l8, kb, knd⟩ := kindsB_parts sg.k1
  obtain ⟨sa, vk, vm, rfl, hsa, hk, hm⟩ := dd2 hd
  obtain ⟨ka, kx, rfl, hka, KA⟩ := hk.tupD
  obtain ⟨ma, mx, rfl, hma, MA⟩ := hm.tupD
  have lk := KA.length
  have lm := MA.length
  have npk : p ≠ ka := fun z => by rw [← z, del_at] at hka; cases hka
  have up : ∀ {H' : Hp}, But p H2 H' → ∀ {a : Addr} {o : HO}, L2.del H2 p a = some o → H' a = some o := fun {H'} b {a o} e => del_old _ _ (b.del _ _ e)
  have okS := sig_ok sg.k1 sg.k2
  refine seq_nx (a := tFor _ _ _) (fun σ H3 => (∃ x2 x3 x4 x5 x6 x7 x8 x9 x10 x11 x12 x13, σ = [some (.ref p), some (.ref sa), x2, x3, x4, x5, x6, x7, x8, x9, x10, x11, x12, x13]) ∧ Well H3 p ∧ But p H2 H3) (fun σ H3 pp => ?_) (fun N hN => ?_)
  rotate_left
  · refine ⟨2, rfl, by decide, by decide, ?_⟩
    refine for_it walk_range (fun i σ H3 => (∃ x2 x3 x4 x5 x6 x7 x8 x9 x10 x11 x12 x13, σ = [some (.ref p), some (.ref sa), x2, x3, x4, x5, x6, x7, x8, x9, x10, x11, x12, x13]) ∧ Well H3 p ∧ But p H2 H3) ⟨⟨_, _, _, _, _, _, _, _, _, _, _, _, rfl⟩, W2, But.refl⟩ (fun _ _ _ _ _ => True.intro) (fun i y σ H3p H3 hi pv hy => ?_) (fun σ H3 pv => hN _ _ pv)
    obtain ⟨rfl, rfl⟩ := hy
    clear x2 x3 x4 x5 x6 x7 x8 x9 x10 x11 x12 x13
    obtain ⟨⟨x2, x3, x4, x5, x6, x7, x8, x9, x10, x11, x12, x13, rfl⟩, W3, b3⟩ := pv
    refine ⟨_, rfl, _, rfl, sa, _, 0, _, rfl, rfl, SqT.of (up b3 hsa), rfl, p, ka, kx, rfl, W3, SqT.of (up b3 hka), npk, by omega, by omega, fun j4 w4 H4 ej4 W4 b4 => ?_⟩
    obtain ⟨q4, c4, k4, ed4, rfl, hq4, _⟩ := kind_at KA kb ej4
    have hc4 : c4 ∈ kd.map nameOf := List.mem_map.mpr ⟨_, List.mem_of_getElem? ed4, rfl⟩
    have B4 := (b3).trans b4
    refine ⟨q4, _, 0, _, rfl, rfl, SqT.of (up B4 hq4), rfl, ?_⟩
    dsimp only [gName]
    refine seq_nx (a := tFor _ _ _) (fun σ H5 => (∃ x2 x3 x4 x5 x6 x7 x8 x9 x10 x11 x12 x13, σ = [some (.ref p), some (.ref sa), x2, x3, x4, x5, x6, x7, x8, x9, x10, x11, x12, x13]) ∧ Well H5 p ∧ But p H2 H5) (fun σ H5 pp => ?_) (fun N hN => ?_)
    rotate_left
    · refine ⟨_, rfl, _, rfl, _, rfl, _, rfl, _, rfl, p, .ref sa, kd, md, c4, rfl, W4, hd.but B4, sg.k1, sg.k2, hc4, sg.few, sg.sm, fun r d H5 W5 b5 hr tr sz dp sh => ?_⟩
      have B5 := B4.trans b5
      refine ⟨p, .ref sa, r, kd, md, d, rfl, W5, hd.but B5, sg.k1, sg.k2, sg.few, sg.sm, hr, ⟨tr, Nat.le_trans sz (by decide), shB_mono (by decide) sh⟩, fun l zs ds H6 W6 b6 el nlp A6 o6 l6 => ?_⟩
      have B6 := B5.trans b6
      refine ⟨l, zs, rfl, SqL.of el, ?_⟩
      refine for_it walk_enum (fun j σ H7 => Same H6 H7 ∧ ∃ x2 x3 x5 x6 x7 x8 x9 x10 x11 x12 x13, σ = [some (.ref p), some (.ref sa), x2, x3, some (.str c4), x5, x6, x7, x8, x9, x10, x11, x12, x13]) ⟨Same.refl _, ⟨_, _, _, _, _, _, _, _, _, _, _, rfl⟩⟩ (fun j σ H7 _ q => SqL.of (q.1 _ _ el)) (fun j y σ H7p H7 hj pv hy => ?_) (fun σ H7 pv => ?_)
      rotate_left
      · obtain ⟨s7, ⟨x2, x3, x5, x6, x7, x8, x9, x10, x11, x12, x13, rfl⟩⟩ := pv
        exact hN _ _ ⟨⟨_, _, _, _, _, _, _, _, _, _, _, _, rfl⟩, W6.same s7, B6.trans (Same.but s7)⟩
      obtain ⟨s7, ⟨x2, x3, x5, x6, x7, x8, x9, x10, x11, x12, x13, rfl⟩⟩ := pv
      obtain ⟨T, e1, tv, rfl, nT, rfl, e1', etv⟩ := hy
      cases e1'
      obtain ⟨d', ed, hdd⟩ := A6.get etv
      have od := o6 d' (List.mem_of_getElem? ed)
      have s8 : Same H6 (upd H7p T (.tup [.int (j : Nat), tv])) := s7.trans (same_new nT _)
      refine ⟨T, _, rfl, SqT.of upd_same, rfl, _, _, rfl, _, _, rfl, rfl, ?_⟩
      generalize upd H7p T (.tup [.int (j : Nat), tv]) = H8 at s8 ⊢
      have ht : ∀ {H' : Hp}, Same H6 H' → Dd H' tv d' := fun {H'} s => hdd.all.mono s
      have hs : ∀ {H' : Hp}, Same H6 H' → Dd H' (.ref sa) (.tuple [.tuple kd, .tuple md]) := fun {H'} s => (hd.but B6).all.mono s
      refine ⟨_, rfl, _, rfl, _, rfl, .ref sa, tv, kd, md, c4, d', rfl, hs s8, sg.k1, sg.k2, hc4, ht s8, od.1, Nat.lt_of_le_of_lt od.2.2 (by decide), fun H9 s9 => ?_⟩
      have s69 := s8.trans s9
      dsimp only [gName]
      refine seq_nx (a := tAsg _ _) (fun σ H10 => (∃ x2 x3 x9 x10 x11 x12 x13, σ = [some (.ref p), some (.ref sa), x2, x3, some (.str c4), some (.int (j : Nat)), some tv, some (.bl (tmB kd md d' c4)), some (.bl (tmB kd md d' c4)), x9, x10, x11, x12, x13]) ∧ Same H6 H10) ?_ (fun N2 hN2 => ?_)
      rotate_left
      · refine ⟨_, rfl, .inl ⟨_, rfl, _, 2, rfl, rfl, by show (0 : Int) < 2; decide, rfl, _, rfl, ?_⟩⟩
        refine ite2 (fun _ => ?_) (fun _ => ?_)
        · exact ⟨_, rfl, _, rfl, _, rfl, .ref sa, tv, kd, md, c4, d', rfl, hs s69, okS, sg.sg, hc4, ht s69, Nat.le_trans od.2.1 (by decide), fun H10 s10 => hN2 _ _ ⟨⟨_, _, _, _, _, _, _, rfl⟩, s69.trans s10⟩⟩
        · exact ⟨_, rfl, _, rfl, _, rfl, .ref sa, tv, kd, md, c4, d', rfl, hs s69, okS, sg.sg, hc4, ht s69, Nat.le_trans od.2.1 (by decide), fun H10 s10 => hN2 _ _ ⟨⟨_, _, _, _, _, _, _, rfl⟩, s69.trans s10⟩⟩
      rintro σ H10 ⟨⟨x2, x3, x9, x10, x11, x12, x13, rfl⟩, s10⟩
      refine ⟨_, rfl, _, .bool (tmB kd md d' c4), rfl, .bl _, okb.1, okb.2.1, okb.2.2, _, rfl, _, .bool (tmB kd md d' c4), rfl, .bl _, okb.1, okb.2.1, okb.2.2, rfl, _, rfl, ?_⟩
      refine ite2 (fun c => by simp at c) (fun _ => ?_)
      exact ⟨s10, ⟨_, _, _, _, _, _, _, _, _, _, _, rfl⟩⟩
    obtain ⟨⟨x2, x3, x4, x5, x6, x7, x8, x9, x10, x11, x12, x13, rfl⟩, W5, b5⟩ := pp
    refine ⟨_, rfl, _, rfl, p, .ref sa, kd, .tuple md, 4, rfl, W5, hd.but b5, sg.k1, by decide, by decide, fun z ks H6 W6 b6 hz l1k l4k hks => ?_⟩
    have B6 := b5.trans b6
    refine ⟨_, rfl, _, rfl, _, rfl, p, .ref sa, z, kd, md, ks, rfl, W6, hd.but B6, sg.k1, sg.k2, hz, l1k, l4k, hks, sg.nx, fun u ps H7 W7 b7 hu po => ?_⟩
    have B7 := B6.trans b7
    have hz7 := hz.but b7
    have hd7 := hd.but B7
    have pf := po.f l1k l4k
    have hz8 := hz7
    obtain ⟨za, zx, rfl, hza, ZA⟩ := hz8.tupD
    obtain rfl := ZA.strs
    have hu8 := hu
    obtain ⟨ua, ux, rfl, hua, UA⟩ := hu8.tupD
    have lu := UA.length
    have lp := po.len
    have pR : ∀ {H' : Hp} {x3 x4 x5 x6 x7 x8 x11 x12 x13 : Option V}, But p H7 H' → rP p [some (.ref p), some (.ref sa), x2, x3, x4, x5, x6, x7, x8, some (.ref za), some (.ref ua), x11, x12, x13] H' := fun {H' x3 x4 x5 x6 x7 x8 x11 x12 x13} b => ⟨kd, md, ks, ps, .ref sa, .ref za, .ref ua, sg, po, l1k, l4k, hks, rfl, rfl, rfl, rfl, hd7.but b, hz7.but b, hu.but b⟩
    have pV : ∀ {H' : Hp} {x3 x4 x5 x6 x7 x8 x11 x12 x13 : Option V}, But p H7 H' → wV p 10 (isTn 1000) [some (.ref p), some (.ref sa), x2, x3, x4, x5, x6, x7, x8, some (.ref za), some (.ref ua), x11, x12, x13] H' := fun {H' x3 x4 x5 x6 x7 x8 x11 x12 x13} b => ⟨.ref ua, .tuple ps, rfl, hu.but b, pf.tn⟩
    have up7 : ∀ {H' : Hp}, But p H7 H' → ∀ {a : Addr} {o : HO}, L2.del H7 p a = some o → H' a = some o := fun {H'} b {a o} e => del_old _ _ (b.del _ _ e)
    refine ⟨W7, ?_, fun v8 d8 H8 W8 b8 hd8 pd8 => ?_⟩
    · repeat (first | exact pR But.refl | exact pV But.refl | exact True.intro | refine And.intro ?_ ?_)
    obtain ⟨ds8, rfl, l8', o8⟩ := pd8
    obtain ⟨qa, xa, rfl, hqa, A8⟩ := hd8.lstD
    refine ⟨_, rfl, W8, ?_, fun v9 d9 H9 W9 b9 hd9 pd9 => ?_⟩
    · repeat (first | exact pR b8 | exact pV b8 | exact True.intro | refine And.intro ?_ ?_)
    obtain ⟨ds9, rfl, l9', o9⟩ := pd9
    obtain ⟨qb, xb, rfl, hqb, A9⟩ := hd9.lstD
    have la8 := A8.length
    have la9 := A9.length
    have l8' : ds8.length ≤ 6 := l8'
    have l9' : ds9.length ≤ 3 := l9'
    refine ⟨qa, qb, xa, xb, rfl, rfl, del_old _ _ (b9.del _ _ hqa), del_old _ _ hqb, by rw [sizeLine_eq]; omega, fun q hq hs => ?_⟩
    have nqp : q ≠ p := fun z => W9.some (z ▸ hq)
    have s10 := same_new hq (.lst (xa ++ xb))
    have b79 := b8.trans b9
    have B10 := b79.trans (Same.but s10)
    have W10 := W9.same s10
    have eq10 : upd H9 q (.lst (xa ++ xb)) q = some (.lst (xa ++ xb)) := upd_same
    have A10 : DdA (del2 p q (upd H9 q (.lst (xa ++ xb)))) (xa ++ xb) (ds8 ++ ds9) := (DdA.append (A8.but b9) A9).mono fun b o e => by
      have nb : b ≠ p := fun z => by rw [z, del_same] at e; cases e
      rw [del_ne nb] at e
      exact del2_some.mpr ⟨nb, (fun z => by rw [z, hq] at e; cases e), s10 _ _ e⟩
    have o10 : ∀ d ∈ ds8 ++ ds9, isOz 1000000 60 d := fun d hd => (List.mem_append.mp hd).elim (o8 d) (o9 d)
    have l10 : (ds8 ++ ds9).length ≤ 9 := by rw [List.length_append]; omega
    generalize upd H9 q (.lst (xa ++ xb)) = H10 at s10 B10 W10 eq10 A10 ⊢
    generalize xa ++ xb = z10 at eq10 A10 ⊢
    generalize ds8 ++ ds9 = d10 at A10 o10 l10
    have nq : ∀ {a : Addr} {o : HO}, L2.del H7 p a = some o → a ≠ q := fun {a o} e z => by rw [z] at e; have := b79.del _ _ e; rw [del_ne nqp, hq] at this; cases this
    have np : ∀ {a : Addr} {o : HO}, L2.del H7 p a = some o → a ≠ p := fun {a o} e z => by rw [z, del_at] at e; cases e
    refine ⟨_, rfl, _, rfl, za, _, rfl, .inr (SqT.of (up7 B10 hza)), p, _, rfl, W10, by rw [List.length_map]; omega, by rw [List.length_map]; omega, fun at1 H11 a0 a1 W11 b11 => ?_⟩
    rw [List.length_map] at a1
    have B11 := B10.trans b11
    have e11 := b11 _ _ nqp eq10
    have A11 := A10.mono b11.two.del
    dsimp only [gName]
    refine seq_nx (a := tFor _ _ _) (fun σ H12 => (∃ x2 x3 x4 x6 x7 x8 x12 x13, σ = [some (.ref p), some (.ref sa), x2, x3, x4, some (.int at1), x6, x7, x8, some (.ref za), some (.ref ua), some (.ref q), x12, x13]) ∧ Well H12 p ∧ But p H7 H12 ∧ ∃ zs ds, H12 q = some (.lst zs) ∧ DdA (del2 p q H12) zs ds ∧ (∀ d ∈ ds, isOz 1000000 60 d) ∧ ds.length ≤ 300) (fun σ H12 pp => ?_) (fun N2 hN2 => ?_)
    rotate_left
    · refine ⟨q, .lst z10, e11, True.intro, fun od => ?_⟩
      have Wz : Well (upd H11 q (.frz od (.lst z10))) p := by
        obtain ⟨a, m, c, N, ew⟩ := W11
        exact ⟨a, m, c, N, by rw [upd_ne nqp.symm]; exact ew⟩
      have F : Same (L2.del H7 p) (L2.del (upd H11 q (.frz od (.lst z10))) p) := fun a o e => by rw [del_ne (np e), upd_ne (nq e)]; exact up7 B11 e
      have ha : at1.toNat < ux.length := by omega
      obtain ⟨dd, ed, hdd⟩ := UA.get (List.getElem?_eq_getElem ha)
      have ea : atI ux at1 = some ux[at1.toNat] := by
        have e := atI_nat (List.getElem?_eq_getElem ha)
        rw [show ((at1.toNat : Nat) : Int) = at1 from by omega] at e
        exact e
      refine ⟨_, rfl, _, rfl, _, rfl, _, rfl, ua, ux, at1, _, rfl, rfl, SqT.of (del_old _ _ (F _ _ hua)), ea, p, .ref sa, _, kd, md, dd, rfl, Wz, hd7.mono F, sg.k1, sg.k2, sg.few, sg.sm, hdd.mono F, pf.at' dd (List.mem_of_getElem? ed), fun l2 zs2 ds2 H12 W12 b12 el2 nl2 A12 o12 l12 => ?_⟩
      have eq12 : H12 q = some (.frz od (.lst z10)) := b12 _ _ nqp upd_same
      refine ⟨eq12, ?_⟩
      have nl2q : l2 ≠ q := fun z => by rw [z, eq12] at el2; cases el2
      have e13 : upd H12 q (.lst z10) q = some (.lst z10) := upd_same
      have B13 : But p H11 (upd H12 q (.lst z10)) := fun a o na e => by
        by_cases c : a = q
        · subst c; rw [e11] at e; cases e; exact upd_same
        · rw [upd_ne c]; exact b12 a o na (by rw [upd_ne c]; exact e)
      have A13 : DdA (del2 p q (upd H12 q (.lst z10))) zs2 ds2 := A12.monoD fun b o e hf => by
        have nb : b ≠ p := fun z => by rw [z, del_same] at e; cases e
        rw [del_ne nb] at e
        have nb2 : b ≠ q := fun z => by rw [z, eq12] at e; cases e; exact hf _ _ rfl
        exact del2_some.mpr ⟨nb, nb2, by rw [upd_ne nb2]; exact e⟩
      have W13 : Well (upd H12 q (.lst z10)) p := by
        obtain ⟨a, m, c, N, ew⟩ := W12
        exact ⟨a, m, c, N, by rw [upd_ne nqp.symm]; exact ew⟩
      have el13 : upd H12 q (.lst z10) l2 = some (.lst zs2) := by rw [upd_ne nl2q]; exact el2
      have C13 := B11.trans B13
      have A13' := A11.mono B13.two.del
      generalize upd H12 q (.lst z10) = H13 at e13 B13 A13 W13 el13 C13 A13' ⊢
      refine ⟨l2, rfl, ⟨zs2, SqL.of el13⟩, ?_⟩
      refine for_it walk_list (fun i σ H14 => (∃ x2 x3 x4 x6 x7 x8 x12 x13, σ = [some (.ref p), some (.ref sa), x2, x3, x4, some (.int at1), x6, x7, x8, some (.ref za), some (.ref ua), some (.ref q), x12, x13]) ∧ Well H14 p ∧ But2 p q H13 H14 ∧ ∃ zs ds, H14 q = some (.lst zs) ∧ DdA (del2 p q H14) zs ds ∧ (∀ d ∈ ds, isOz 1000000 60 d) ∧ ds.length ≤ 9 + i) ⟨⟨_, _, _, _, _, _, _, _, rfl⟩, W13, But2.refl, z10, d10, e13, A13', o10, l10⟩ (fun i σ H14 _ pp => SqL.of (pp.2.2.1 _ _ nl2 nl2q el13)) (fun i y σ H14p H14 hi pp hy => ?_) (fun σ H14 pp => ?_)
      rotate_left
      · obtain ⟨⟨x2, x3, x4, x6, x7, x8, x12, x13, rfl⟩, W14, b14, zs, ds, e14, A14, o14, l14⟩ := pp
        have l2z := A13.length
        refine hN2 _ _ ⟨⟨_, _, _, _, _, _, _, _, rfl⟩, W14, fun a o na e => ?_, zs, ds, e14, A14, o14, by omega⟩
        have e' : L2.del H7 p a = some o := by rw [del_ne na]; exact e
        exact b14 _ _ na (nq e') (C13 _ _ na e)
      obtain ⟨rfl, ey⟩ := hy
      obtain ⟨⟨x2, x3, x4, x6, x7, x8, x12, x13, rfl⟩, W14, b14, zs, ds, e14, A14, o14, l14⟩ := pp
      obtain ⟨dp, edp, hdp⟩ := A13.get ey
      have odp := o12 dp (List.mem_of_getElem? edp)
      have l2z := A13.length
      have lz14 := A14.length
      have eu14 : H14 ua = some (.tup ux) := b14 _ _ (np hua) (nq hua) (up7 C13 hua)
      obtain ⟨es1, E1, le1, _, me1⟩ := cut_z UA none (some at1)
      obtain ⟨es2, E2, le2, _, me2⟩ := cut_z UA (some (at1 + 1)) none
      have lE1 := E1.length
      have lE2 := E2.length
      refine ⟨_, rfl, .inl ⟨rfl, _, SqL.of e14⟩, ?_⟩
      refine ⟨_, rfl, noPart ?_⟩
      refine ⟨_, rfl, at1, rfl, ?_⟩
      refine slA_any eu14 fun c1 H15 s15 e15 => ?_
      refine ⟨_, rfl, by show 1 ≤ sizeLine; rw [sizeLine_eq]; decide, fun c2 hc2 => ?_⟩
      have s16 := same_new hc2 (.tup [y])
      refine catA_all (xs := cutV ux none (some at1)) (ys := [y]) (s16 _ _ e15) upd_same (by rw [sizeLine_eq]; show _ + 1 ≤ _; omega) fun c3 H17 s17 e17 => ?_
      have s14 := (s15.trans s16).trans s17
      refine ⟨_, rfl, ?_⟩
      refine ⟨_, rfl, at1, 1, rfl, rfl, _, rfl, noPart ?_⟩
      refine slA_any (s14 _ _ eu14) fun c4 H18 s18 e18 => ?_
      refine catA_all (xs := cutV ux none (some at1) ++ [y]) (ys := cutV ux (some (at1 + 1)) none) (s18 _ _ e17) e18 (by rw [sizeLine_eq, List.length_append]; show _ + 1 + _ ≤ _; omega) fun c5 H19 s19 e19 => ?_
      have sX := (s14.trans s18).trans s19
      have eX := sX _ _ e14
      have M : ∀ {L : HO}, Same (del2 p q H19) (del2 p q (upd H19 q L)) := fun {L} a o e => by
        obtain ⟨n1, n2, e3⟩ := del2_some.mp e
        exact del2_some.mpr ⟨n1, n2, by rw [upd_ne n2]; exact e3⟩
      have G : Same (L2.del H7 p) (del2 p q H19) := fun a o e => del2_some.mpr ⟨np e, nq e, sX _ _ (b14 _ _ (np e) (nq e) (up7 C13 e))⟩
      have X14 : Same (del2 p q H14) (del2 p q H19) := fun a o e => by
        obtain ⟨n1, n2, e3⟩ := del2_some.mp e
        exact del2_some.mpr ⟨n1, n2, sX _ _ e3⟩
      obtain ⟨a0', m0', c0', N0', ew⟩ := W14
      have nc5 : c5 ≠ p := fun z => by rw [z, sX _ _ ew] at e19; cases e19
      have nc5q : c5 ≠ q := fun z => by rw [z, eX] at e19; cases e19
      refine ⟨q, zs, _, rfl, rfl, eX, by rw [sizeLine_eq]; omega, ?_⟩
      refine ⟨⟨_, _, _, _, _, _, _, _, rfl⟩, ⟨a0', m0', c0', N0', by rw [upd_ne nqp.symm]; exact sX _ _ ew⟩, fun a o n1 n2 e => by rw [upd_ne n2]; exact sX _ _ (b14 a o n1 n2 e), zs ++ [.ref c5], ds ++ [.tuple (es1 ++ [dp] ++ es2)], upd_same, ?_, fun x hx => ?_, by rw [List.length_append]; show _ + 1 ≤ _; omega⟩
      · refine DdA.append ((A14.mono X14).mono M) (.cons (.tup (M _ _ (del2_some.mpr ⟨nc5, nc5q, e19⟩)) ?_) .nil)
        exact (DdA.append (DdA.append (E1.mono G) (.cons ((hdp.mono b14.del).mono X14) .nil)) (E2.mono G)).mono M
      · rcases List.mem_append.mp hx with w | w
        · exact o14 x w
        · rw [List.mem_singleton.mp w]
          refine tup_oz (n := 9) (s := 20000) (D := 30) (by rw [List.length_append, List.length_append]; show _ + 1 + _ ≤ _; omega) (fun d hd => ?_) (by decide) (by decide)
          have small : ∀ d ∈ ps, isOz 20000 30 d := fun d hd => ⟨shB_ok (po.sh d hd), Nat.le_trans (po.sz d hd) (by decide), Nat.le_trans (po.dp d hd) (by decide)⟩
          rcases List.mem_append.mp hd with w2 | w2
          · rcases List.mem_append.mp w2 with w3 | w3
            · exact small d (me1 d w3)
            · rw [List.mem_singleton.mp w3]; exact odp
          · exact small d (me2 d w2)
    obtain ⟨⟨x2, x3, x4, x6, x7, x8, x12, x13, rfl⟩, W12, b12, zs, ds, e12, A12, o12, l12⟩ := pp
    have lz12 := A12.length
    refine ⟨_, rfl, W12, ?_, fun vb db H13 W13 b13 hdb pdb => ?_⟩
    · repeat (first | exact pR b12 | exact True.intro | refine And.intro ?_ ?_)
    obtain ⟨dsb, rfl, lb', ob⟩ := pdb
    obtain ⟨qb2, xb2, rfl, hqb2, Ab⟩ := hdb.lstD
    have lab := Ab.length
    have lb' : dsb.length ≤ 2 := lb'
    refine ⟨q, qb2, zs, xb2, rfl, rfl, b13 _ _ nqp e12, del_old _ _ hqb2, by rw [sizeLine_eq]; omega, fun L hL hLs => ?_⟩
    have s14 := same_new hL (.lst (zs ++ xb2))
    have W14 := W13.same s14
    have B14 := (b12.trans b13).trans (Same.but s14)
    have eL : upd H13 L (.lst (zs ++ xb2)) L = some (.lst (zs ++ xb2)) := upd_same
    have A14 : DdA (upd H13 L (.lst (zs ++ xb2))) (zs ++ xb2) (ds ++ dsb) := DdA.append (A12.mono fun a o e => by
      obtain ⟨n1, n2, e3⟩ := del2_some.mp e
      exact s14 _ _ (b13 _ _ n1 e3)) (Ab.mono fun a o e => s14 _ _ (del_old _ _ e))
    have o14 : ∀ d ∈ ds ++ dsb, isOz 1000000 60 d := fun d hd => (List.mem_append.mp hd).elim (o12 d) (ob d)
    generalize upd H13 L (.lst (zs ++ xb2)) = H14 at s14 W14 B14 eL A14 ⊢
    generalize zs ++ xb2 = z14 at eL A14 ⊢
    generalize ds ++ dsb = d14 at A14 o14
    have mb : ∀ m ∈ md, makerB (kd.map nameOf) m = true := (makersB_parts sg.k2).2.1
    refine ⟨L, _, rfl, SqL.of eL, ?_⟩
    refine for_it walk_enum (fun j σ H15 => Same H14 H15 ∧ ∃ x2 x3 x4 x5 x6 x7 x8 x11 x12 x13, σ = [some (.ref p), some (.ref sa), x2, x3, x4, x5, x6, x7, x8, some (.ref za), some (.ref ua), x11, x12, x13]) ⟨Same.refl _, ⟨_, _, _, _, _, _, _, _, _, _, rfl⟩⟩ (fun j σ H15 _ q => SqL.of (q.1 _ _ eL)) (fun j y σ H15p H15 hj pv hy => ?_) (fun σ H15 pv => ?_)
    rotate_left
    · obtain ⟨s15, ⟨x2, x3, x4, x5, x6, x7, x8, x11, x12, x13, rfl⟩⟩ := pv
      exact ⟨⟨_, _, _, _, _, _, _, _, _, _, _, _, rfl⟩, W14.same s15, (B7.trans B14).trans (Same.but s15)⟩
    obtain ⟨s15, ⟨x2, x3, x4, x5, x6, x7, x8, x11, x12, x13, rfl⟩⟩ := pv
    obtain ⟨T, e1, tv, rfl, nT, rfl, e1', etv⟩ := hy
    cases e1'
    obtain ⟨d', ed, hdd⟩ := A14.get etv
    have od := o14 d' (List.mem_of_getElem? ed)
    have s16 : Same H14 (upd H15p T (.tup [.int (j : Nat), tv])) := s15.trans (same_new nT _)
    refine ⟨T, _, rfl, SqT.of upd_same, rfl, _, _, rfl, _, _, rfl, rfl, ?_⟩
    generalize upd H15p T (.tup [.int (j : Nat), tv]) = H16 at s16 ⊢
    have ht : ∀ {H' : Hp}, Same H14 H' → Dd H' tv d' := fun {H'} s => hdd.mono s
    have hs : ∀ {H' : Hp}, Same H14 H' → Dd H' (.ref sa) (.tuple [.tuple kd, .tuple md]) := fun {H'} s => (hd7.but B14).all.mono s
    have hk : ∀ {H' : Hp}, Same H14 H' → Dd H' (.ref za) (.tuple (ks.map PyData.str)) := fun {H'} s => (hz7.but B14).all.mono s
    refine ⟨_, rfl, _, rfl, _, rfl, .ref sa, .ref za, tv, kd, md, ks, d', rfl, hs s16, sg.k1, sg.k2, hk s16, l4k, hks, ht s16, od.1, od.2.2, od.2.1, fun H17 s17 => ?_⟩
    have s17 := s16.trans s17
    refine ⟨_, rfl, _, rfl, ?_⟩
    refine ite2 (fun _ => ?_) (fun c7 => ?_)
    · refine iteT ?_
      refine ⟨_, rfl, _, rfl, _, rfl, .ref sa, .ref za, _, kd, md, ks, _, rfl, hs s17, okS, sg.sg, hk s17, l1k, l4k, hks, ht s17, od.1, od.2.1, fun H18 s18 => ?_⟩
      have s18 := (s17).trans s18
      dsimp only [gName]
      refine seq_nx (a := tIfS _ _ _) (fun σ H19 => (∃ x2 x3 x4 x11 x12 x13, σ = [some (.ref p), some (.ref sa), x2, x3, x4, some (.int (j : Nat)), some tv, some (.bl (patsB md ks d')), some (.bl (patsB md ks d')), some (.ref za), some (.ref ua), x11, x12, x13]) ∧ Same H14 H19) (fun σ H19 pp => ?_) (fun N3 hN3 => ?_)
      rotate_left
      · refine ⟨_, rfl, .inl ⟨_, rfl, _, 2, rfl, rfl, by show (0 : Int) < 2; decide, rfl, _, rfl, ?_⟩⟩
        refine ite2 (fun _ => ?_) (fun _ => ?_)
        · exact ⟨_, rfl, _, rfl, _, rfl, .ref sa, .ref za, _, kd, md, ks, _, rfl, hs s18, okS, sg.sg, hk s18, l1k, l4k, hks, ht s18, od.1, od.2.1, fun H19 s19 => hN3 _ _ ⟨⟨_, _, _, _, _, _, rfl⟩, s18.trans s19⟩⟩
        · exact hN3 _ _ ⟨⟨_, _, _, _, _, _, rfl⟩, s18⟩
      obtain ⟨⟨x2, x3, x4, x11, x12, x13, rfl⟩, s19⟩ := pp
      refine ⟨_, rfl, _, .bool _, rfl, .bl _, okb.1, okb.2.1, okb.2.2, _, rfl, _, .bool _, rfl, .bl _, okb.1, okb.2.1, okb.2.2, rfl, _, rfl, ?_⟩
      refine ite2 (fun c => by simp at c) (fun _ => ?_)
      exact ⟨s19, ⟨_, _, _, _, _, _, _, _, _, _, rfl⟩⟩
    have c7 : patsB md ks d' = true := by simpa using c7
    obtain ⟨qs, rfl, lqs, qtr⟩ := pats_tr mb c7
    have ht17 := ht s17
    obtain ⟨ta, tx, rfl, hta, TA⟩ := ht17.tupD
    have ltx := TA.length
    have pzq : psz (.tuple qs) = 1 + pszs qs := by rw [psz]
    have dpq : (PyData.tuple qs).depth = PyData.depthAll qs + 1 := by rw [PyData.depth]
    have odz := od.2.1
    have odd := od.2.2
    refine ⟨_, rfl, ta, rfl, ⟨_, SqT.of hta⟩, fun D2 hD2 => ?_⟩
    refine lc_vals walk_tup (fun i => qs[i]?.map fun d => V.int ((szD d : Nat) : Int)) hD2 (by rw [sizeLine_eq]; omega) (fun H s => SqT.of (s _ _ hta)) (fun i y H4 H5 K1 K0 hi s4 hy k1 k0 => ?_) (fun H4 s4 e4 => ?_)
    · obtain ⟨rfl, ey⟩ := hy
      obtain ⟨d, ed2, hd2⟩ := TA.get ey
      have hm := List.mem_of_getElem? ed2
      have h1 := psz_mem ed2
      have h2 := psz_take qs (i + 1)
      have h3 := depth_mem hm
      refine ⟨rfl, ?_⟩
      exact ⟨_, rfl, y, d, rfl, hd2.mono s4, qtr d hm, by omega, by omega, fun H6 s6 => k1 _ _ (by rw [ed2]; rfl) s6⟩
    rw [ltx, range_map' (fun d => V.int ((szD d : Nat) : Int)) qs] at e4
    have e5 : (qs.map fun d => V.int ((szD d : Nat) : Int)) = (qs.map fun d => ((szD d : Nat) : Int)).map V.int := by rw [List.map_map]; rfl
    rw [e5] at e4
    refine ⟨D2, _, rfl, SqL.of e4, ?_⟩
    walk_at "rd"
    have s4 := s17.trans s4
    refine ite2 (fun _ => ?_) (fun _ => ?_)
    rotate_left
    · exact ⟨s4, ⟨_, _, _, _, _, _, _, _, _, _, rfl⟩⟩
    refine ⟨_, rfl, _, rfl, _, rfl, .ref sa, .ref za, _, kd, md, ks, _, rfl, hs s4, okS, sg.sg, hk s4, l1k, l4k, hks, ht s4, od.1, od.2.1, fun H18 s18 => ?_⟩
    have s18 := (s4).trans s18
    dsimp only [gName]
    refine seq_nx (a := tIfS _ _ _) (fun σ H19 => (∃ x2 x3 x4 x11 x12 x13, σ = [some (.ref p), some (.ref sa), x2, x3, x4, some (.int (j : Nat)), some (.ref ta), some (.bl (patsB md ks (.tuple qs))), some (.bl (patsB md ks (.tuple qs))), some (.ref za), some (.ref ua), x11, x12, x13]) ∧ Same H14 H19) (fun σ H19 pp => ?_) (fun N3 hN3 => ?_)
    rotate_left
    · refine ⟨_, rfl, .inl ⟨_, rfl, _, 2, rfl, rfl, by show (0 : Int) < 2; decide, rfl, _, rfl, ?_⟩⟩
      refine ite2 (fun _ => ?_) (fun _ => ?_)
      · exact ⟨_, rfl, _, rfl, _, rfl, .ref sa, .ref za, _, kd, md, ks, _, rfl, hs s18, okS, sg.sg, hk s18, l1k, l4k, hks, ht s18, od.1, od.2.1, fun H19 s19 => hN3 _ _ ⟨⟨_, _, _, _, _, _, rfl⟩, s18.trans s19⟩⟩
      · exact hN3 _ _ ⟨⟨_, _, _, _, _, _, rfl⟩, s18⟩
    obtain ⟨⟨x2, x3, x4, x11, x12, x13, rfl⟩, s19⟩ := pp
    refine ⟨_, rfl, _, .bool _, rfl, .bl _, okb.1, okb.2.1, okb.2.2, _, rfl, _, .bool _, rfl, .bl _, okb.1, okb.2.1, okb.2.2, rfl, _, rfl, ?_⟩
    refine ite2 (fun c => by simp at c) (fun _ => ?_)
    exact ⟨s19, ⟨_, _, _, _, _, _, _, _, _, _, rfl⟩⟩
  obtain ⟨⟨x2, x3, x4, x5, x6, x7, x8, x9, x10, x11, x12, x13, rfl⟩, W3, b3⟩ := pp
  refine ⟨_, rfl, _, rfl, sa, _, 0, _, rfl, rfl, SqT.of (up b3 hsa), rfl, p, ka, kx, rfl, W3, SqT.of (up b3 hka), npk, by omega, by omega, fun j4 w4 H4 ej4 W4 b4 => ?_⟩
  obtain ⟨q4, c4, k4, ed4, rfl, hq4, _⟩ := kind_at KA kb ej4
  have hc4 : c4 ∈ kd.map nameOf := List.mem_map.mpr ⟨_, List.mem_of_getElem? ed4, rfl⟩
  have B4 := (b3).trans b4
  refine ⟨q4, _, 0, _, rfl, rfl, SqT.of (up B4 hq4), rfl, ?_⟩
  refine ⟨_, rfl, p, 5, rfl, W4, by decide, by decide, fun dd H5 d0 d5 W5 b5 => ?_⟩
  have B5 := B4.trans b5
  refine ⟨1, dd, rfl, rfl, ?_⟩
  refine ⟨_, _, rfl, ?_⟩
  dsimp only
  refine seq_nx (a := tFor _ _ _) (fun σ H6 => But p H2 H6) (fun σ H6 pp => ?_) (fun N hN => ?_)
  · exact k _ (b02.trans pp)
  refine ⟨_, rfl, ?_⟩
  refine te_nx (t := tIf _ _ _) (fun x H7 => Well H7 p ∧ But p H2 H7 ∧ ∃ s : Nat, x = .int (s : Nat) ∧ 1 ≤ s ∧ s ≤ 8 ∧ (clC md c4 s).length ≤ 20000) (fun x H7 pp => ?_) (fun N2 hN2 => ?_)
  rotate_left
  · refine ⟨_, rfl, _, rfl, .ref sa, kd, md, c4, rfl, (hd.but B5).all, sg.k2, fun l ys H6 s6 hl el mk => ?_⟩
    have W6 := W5.same s6
    have B6 := B5.trans (Same.but s6)
    refine ⟨l, ys, rfl, .inl (SqL.of el), ?_⟩
    refine ⟨_, _, rfl, rfl, _, rfl, ?_⟩
    refine ite2 (fun c3 => ?_) (fun _ => ?_)
    · have c3 : (ofKind md c4).length < 3 := by
        have c3 := of_decide_eq_true c3
        rw [mk.len] at c3
        omega
      refine ⟨_, rfl, p, 2, rfl, W6, by decide, by decide, fun d H7 _ _ W7 b7 => ?_⟩
      refine ⟨rfl, _, rfl, ?_⟩
      refine ite2 (fun _ => ?_) (fun _ => ?_)
      · exact hN2 _ _ ⟨W7, B6.trans b7, 8, rfl, by decide, by decide, sg.n8 c4 hc4 c3⟩
      · exact hN2 _ _ ⟨W7, B6.trans b7, 2, rfl, by decide, by decide, sg.n5 c4 2 (by decide)⟩
    · exact iteF (hN2 _ _ ⟨W6, B6, 2, rfl, by decide, by decide, sg.n5 c4 2 (by decide)⟩)
  obtain ⟨W7, B7, s3, rfl, h31, h38, h3n⟩ := pp
  refine ⟨by show 3 ≤ sizeLine; rw [sizeLine_eq]; decide, fun t ht => ?_⟩
  have s8 := same_new ht (.tup [.int (1 + dd), .int 1, .int (s3 : Nat)])
  have B8 := B7.trans (Same.but s8)
  have et : upd H7 t (.tup [.int (1 + dd), .int 1, .int (s3 : Nat)]) t = some (.tup [.int (1 + dd), .int 1, .int (s3 : Nat)]) := upd_same
  have W8 := W7.same s8
  generalize upd H7 t (.tup [.int (1 + dd), .int 1, .int (s3 : Nat)]) = H8 at B8 et W8 ⊢
  refine ⟨t, rfl, ⟨_, SqT.of et⟩, ?_⟩
  refine for_it walk_tup (fun i σ H9 => Same H8 H9 ∧ ∃ x2 x3 x5 x6 x7 x8 x9 x10 x11 x12 x13, σ = [some (.ref p), some (.ref sa), x2, x3, some (.str c4), x5, x6, x7, x8, x9, x10, x11, x12, x13]) ⟨Same.refl _, ⟨_, _, _, _, _, _, _, _, _, _, _, rfl⟩⟩ (fun i σ H9 _ q => SqT.of (q.1 _ _ et)) (fun i y σ H9p H9 hi pv hy => ?_) (fun σ H9 pv => hN _ _ (B8.trans (Same.but pv.1)))
  obtain ⟨rfl, ey⟩ := hy
  obtain ⟨s9, ⟨x2, x3, x5, x6, x7, x8, x9, x10, x11, x12, x13, rfl⟩⟩ := pv
  obtain ⟨s, rfl, h1, h8, hn⟩ : ∃ s : Nat, y = .int (s : Nat) ∧ 1 ≤ s ∧ s ≤ 8 ∧ (clC md c4 s).length ≤ 20000 := by
    match i, ey with
    | 0, ey =>
      have ey : some (V.int (1 + dd)) = some y := ey
      injection ey with ey
      exact ⟨(1 + dd).toNat, by rw [← ey]; congr 1; omega, by omega, by omega, sg.n5 c4 _ (by omega)⟩
    | 1, ey =>
      have ey : some (V.int 1) = some y := ey
      injection ey with ey
      exact ⟨1, by rw [← ey]; rfl, by omega, by omega, sg.n5 c4 _ (by omega)⟩
    | 2, ey =>
      have ey : some (V.int (s3 : Nat)) = some y := ey
      injection ey with ey
      exact ⟨s3, by rw [← ey], h31, h38, h3n⟩
    | n + 3, ey => exact absurd hi (by show ¬ n + 3 < 3; omega)
  have hs : ∀ {H' : Hp}, Same H8 H' → Dd H' (.ref sa) (.tuple [.tuple kd, .tuple md]) := fun {H'} q => (hd.but B8).all.mono q
  refine ⟨_, rfl, _, rfl, _, rfl, .ref sa, kd, md, c4, s, 8, rfl, hs s9, sg.k2, sg.few, h8, by decide, by omega, fun l us H10 hl s10 el E10 => ?_⟩
  have mb : ∀ m ∈ md, makerB (kd.map nameOf) m = true := (makersB_parts sg.k2).2.1
  refine ⟨l, us, _, rfl, SqL.of el, E10, fun d hd2 => ⟨clC_pl d hd2, Nat.le_trans (clC_psz hd2).2 (by omega)⟩, fun ys q hys hq => ?_⟩
  have s11 := same_new hq (.lst ys)
  have eq11 : upd H10 q (.lst ys) q = some (.lst ys) := upd_same
  refine ⟨q, ys, rfl, .inl ⟨SqL.of eq11, fun t2 ht2 => ?_⟩⟩
  have s12 := same_new ht2 (.tup ys)
  have sT := ((s9.trans s10).trans s11).trans s12
  have hT : Dd (upd (upd H10 q (.lst ys)) t2 (.tup ys)) (.ref t2) (.tuple (tsC md c4 s)) := .tup upd_same ((hys.mono s11).mono s12)
  generalize upd (upd H10 q (.lst ys)) t2 (.tup ys) = H12 at s12 sT hT ⊢
  refine ⟨_, rfl, _, rfl, _, rfl, .ref sa, kd, md, c4, s, rfl, hs sT, okS, sg.sg, hc4, h1, h8, sg.few, fun r1 H13 s13 hr1 => ?_⟩
  refine ⟨_, rfl, _, rfl, _, rfl, .ref sa, kd, md, c4, s, rfl, hs (sT.trans s13), okS, sg.sg, hc4, h1, h8, sg.few, fun r2 H14 s14 hr2 => ?_⟩
  refine ⟨by show 2 ≤ sizeLine; rw [sizeLine_eq]; decide, fun q3 hq3 hs3 => ?_⟩
  have sh := ts_shown nms h8 hn
  have s15 := same_new hq3 (.lst [r1, r2])
  have d15 : Dd (upd H14 q3 (.lst [r1, r2])) (.ref q3) (.list [.tuple (tsC md c4 s), .tuple (tsC md c4 s)]) := .lst upd_same hs3 (.cons ((hr1.mono s14).mono s15) (.cons (hr2.mono s15) .nil))
  refine ⟨_, _, rfl, d15, sh.1, sh.2.1, sh.2.2, ?_⟩
  have s1215 := (s13.trans s14).trans s15
  generalize upd H14 q3 (.lst [r1, r2]) = H15 at s15 d15 s1215 ⊢
  refine ⟨_, rfl, _, rfl, by show 2 ≤ sizeLine; rw [sizeLine_eq]; decide, fun q4 hq4 hs4 => ?_⟩
  have s16 := same_new hq4 (.lst [.ref t2, .ref t2])
  have d16 : Dd (upd H15 q4 (.lst [.ref t2, .ref t2])) (.ref q4) (.list [.tuple (tsC md c4 s), .tuple (tsC md c4 s)]) := .lst upd_same hs4 (.cons ((hT.mono s1215).mono s16) (.cons ((hT.mono s1215).mono s16) .nil))
  refine ⟨_, _, rfl, d16, sh.1, sh.2.1, sh.2.2, rfl, _, rfl, ?_⟩
  refine ite2 (fun c => by simp at c) (fun _ => ?_)
  exact ⟨(sT.trans s1215).trans s16, ⟨_, _, _, _, _, _, _, _, _, _, _, rfl⟩⟩

end

section
variable {P : Program} {w : World} {K : PySem.W.Frag} {mg : Str → Option Value} {base : Heap}
theorem sc_law : FnScope ["script", "lap"] ["script"] (defScope s_law) := ⟨rfl, rfl, rfl, by decide +kernel, rfl, by decide +kernel, by decide +kernel⟩
theorem ok_law {f : Addr} {fd : FuncData} (F : Fun K "law" "law" s_law f fd) (B : Bi mg) (GW : Gd P w K mg base CX0 1 "_law_well" ["script", "lap"] (spWell K)) (GR : Gd P w K mg base CX0 64 "_law_right" ["well"] spLRight) :
    Fn P w K mg base CX0 65 f fd ["script"] (spLaw K) := by
  refine fun_q F sc_law (fun vs H Q E h => ?_) (fun cdv A outer s H vs Q E hr6 hq h => ?_)
  · obtain ⟨a, ns, rfl, _⟩ := h
    rfl
  obtain ⟨a, ns, rfl, hS, h63, k⟩ := h
  have hr1 : Room 1 _ := hr6.mono (by decide)
  refine ⟨_, (pss_one (ps_ret (pe_callB (cr_all rfl) (by rfl) B.all boot_all2 (pa_cons (pe_lc (own := [("lap", 1)]) (g := gName 1) (tt := tYes) rfl sc_law.nd (pi_range1 (by rfl) B.range (pa_cons (pe_callB (call_max2 rfl) (by rfl) B.max PyProof.Rows.boot_max (pa_cons pe_int (pa_cons (pe_callB (call_min2 rfl) (by rfl) B.min PyProof.Rows.boot_min (pa_cons (pe_callB call_len_seq (by rfl) B.len PySem.boot_len (pa_cons (pv 0) pa_nil)) (pa_cons pe_int pa_nil))) pa_nil))) pa_nil)) (blkOk_by (own := [("lap", 1)]) (N := ["script", "lap"]) (sc := defScope s_law) (by decide +kernel)) (fun _ _ _ _ _ => pg_name (i := 1) sc_law.nd rfl (Or.inl rfl)) (fun _ _ _ _ _ => pts_nil) (fun _ _ _ _ _ => (pe_g GR hr6 hq (pa_cons (pe_g GW hr1 hq (pa_cons (pv 0) (pa_cons (pv 1) pa_nil))) pa_nil)))) pa_nil)))), ?_⟩
  refine ⟨_, rfl, a, _, rfl, .inl hS, _, _, rfl, _, _, rfl, ?_⟩
  rw [List.length_map]
  refine ⟨_, rfl, ?_, ?_, fun D hD => ?_⟩
  · split <;> (try split) <;> omega
  · split <;> (try split) <;> omega
  obtain ⟨top, et, t3⟩ : ∃ top : Int, (if (if (3 : Int) < (ns.length : Int) then (3 : Int) else (ns.length : Int)) > 2 then (if (3 : Int) < (ns.length : Int) then (3 : Int) else (ns.length : Int)) else 2) = top ∧ top ≤ 3 := ⟨_, rfl, by split <;> (try split) <;> omega⟩
  rw [et]
  clear et
  refine lc_it walk_range (fun n H' => Same H H' ∧ H' D = some (.lst (List.replicate n (.bl true)))) ⟨same_new hD _, upd_same⟩ (fun _ _ _ _ => trivial) ?_ ?_
  · rintro n x H1 H1' hn ⟨s1, hD1⟩ ⟨e1, e2⟩
    subst e1 e2
    refine ⟨rfl, tYes_of ?_⟩
    refine ⟨_, rfl, _, rfl, a, ns, _, rfl, s1.seq hS, by omega, fun p H2 np s2 W2 => ?_⟩
    refine ⟨p, rfl, W2, fun H3 bt3 => ?_⟩
    have pD : D ≠ p := ne_of_none hD1 np
    have ph : ∀ b o, H b = some o → b ≠ p := fun b o e => ne_of_none (s1 _ _ e) np
    refine ⟨_, bt3 _ _ pD (s2 _ _ hD1), ?_, fun b o q => ?_, ?_⟩
    · rw [List.length_replicate, sizeLine_eq]
      omega
    · rw [upd_ne (ne_of_none q hD)]
      exact bt3 _ _ (ph b o q) (s2 _ _ (s1 b o q))
    · rw [upd_same]
      exact congrArg (fun z => some (HO.lst z)) (List.replicate_succ' ..).symm
  rintro H1 ⟨s1, hD1⟩
  refine ⟨D, List.replicate top.toNat true, rfl, SqL.of ?_, ?_⟩
  · rw [hD1, List.map_replicate]
  · have e : (List.replicate top.toNat true).all id = true := by simp
    rw [e]
    exact k _
end

section
variable {P : Program} {w : World} {K : PySem.W.Frag} {mg : Str → Option Value} {base : Heap}
/-! ### _law_term, told of any place of the def -/
theorem okF_term_step {n : Nat} {f : Addr} {fd : FuncData} (F : Fun K "_law_term" "_law_term" s_term f fd) (B : Bi mg) (G0 : Gd P w K mg base CX0 (n + 51) "_law_term" ["well", "sig", "kind", "deep"] (spPrev n)) (G1 : Gd P w K mg base CX0 1 "_law_is_open" ["sig", "kind"] spIsOpen) (G2 : Gd P w K mg base CX0 1 "_law_draw" ["well", "few"] spDraw) (G3 : Gd P w K mg base CX0 1 "_law_makers" ["sig", "kind"] spLMakers) (G4 : Gd P w K mg base CX0 50 "_law_least" ["sig", "kind"] spLeast) (G5 : Gd P w K mg base CX0 2 "_law_one" ["well", "some"] (spOneL K)) : Fn P w K mg base CX0 (n + 52) f fd ["well", "sig", "kind", "deep"] (spTermD n) := by
  refine fun_q F sc_term (fun vs H Q E h => by obtain ⟨p, v, kd, md, x, rfl, _⟩ := h; rfl) (fun cdv A outer s H vs Q E hr hq h => ?_)
  obtain ⟨p, v, kd, md, x, rfl, W, hd, k1, k2, hx, few, sm, k⟩ := h
  refine ⟨_, (pss_cons (ps_set (i := 4) sc_term.nd rfl (Or.inl rfl) (pe_g (G3.mono (by omega)) hr hq (pa_cons (pv 1) (pa_cons (pv 2) pa_nil))))
      (pss_cons (ps_if (PW.pt (pw_and (pt_val (pe_g (G1.mono (by omega)) hr hq (pa_cons (pv 1) (pa_cons (pv 2) pa_nil)))) (pw_and1 (pt_cmpR op_eq (pe_g (G2.mono (by omega)) hr hq (pa_cons (pv 0) (pa_cons pe_int pa_nil))) pe_int (nomark _))))) (pss_one (ps_ret (pe_tup (pa_cons pe_str (pa_cons (pv 2) (pa_cons (pe_op op_add pe_int (pe_g (G2.mono (by omega)) hr hq (pa_cons (pv 0) (pa_cons pe_int pa_nil)))) pa_nil)))))) pss_nil)
      (pss_cons (ps_if (PW.pt (pw_or (pt_cmpR op_eq (pv 3) pe_int (nomark _)) (pw_or1 (pt_cmpR (op_eqL (un0 hr)) (pv 4) (pe_lst pa_nil) (nomark _))))) (pss_one (ps_ret (pe_g (G4.mono (by omega)) hr hq (pa_cons (pv 1) (pa_cons (pv 2) pa_nil))))) pss_nil)
      (pss_cons (ps_asg (pe_g (G5.mono (by omega)) hr hq (pa_cons (pv 0) (pa_cons (pv 4) pa_nil))) (pg_tup rfl (pgs_cons (pg_name (i := 5) sc_term.nd rfl (Or.inl rfl)) (pgs_cons (pg_name (i := 6) sc_term.nd rfl (Or.inl rfl)) pgs_nil))))
      (pss_one (ps_ret (pe_op op_catA (pe_tup (pa_cons (pv 5) pa_nil)) (pe_callTy call_tuple_of (by rfl) B.tuple (by decide +kernel) (pa_cons (pe_lc (own := [("arg", 7)]) (g := (gName 7)) (tt := tYes) rfl sc_term.nd (pi_tup (pv 6)) (blkOk_by (own := [("arg", 7)]) (N := ["well", "sig", "kind", "deep", "makers", "name", "args", "arg"]) (sc := defScope s_term) (by decide +kernel)) (fun _ _ _ _ _ => (pg_name (i := 7) sc_term.nd rfl (Or.inl rfl))) (fun _ _ _ _ _ => pts_nil) (fun _ _ _ _ _ => (pe_g (G0.mono (by omega)) hr hq (pa_cons (pv 0) (pa_cons (pv 1) (pa_cons (pv 7) (pa_cons (pe_op op_sub (pv 3) pe_int) pa_nil))))))) pa_nil))))))))), ?_⟩
  obtain ⟨l24, mb, mnd⟩ := makersB_parts k2
  obtain ⟨l1, l8, kb, knd⟩ := kindsB_parts k1
  have t20 := tbN_ge n
  refine ⟨_, rfl, _, rfl, v, kd, md, x, rfl, hd.all, k2, fun l ys H1 s1 hl el M => ?_⟩
  dsimp only
  have W1 := W.same s1
  have b1 : But p H H1 := Same.but s1
  have nlp : l ≠ p := fun z => W.some (z ▸ hl)
  show tSeq _ _ _ _ _
  refine seq_nx (a := tIfS _ _ _) (fun σ H3 => σ = [some (.ref p), some v, some (.str x), some (.int ((n : Nat) : Int)), some (.ref l), none, none, none] ∧ Well H3 p ∧ But p H1 H3) (fun σ H3 pp => ?_) (fun N hN => ?_)
  rotate_left
  · refine ⟨_, rfl, _, rfl, v, kd, _, x, rfl, hd.all.mono s1, k1, name_of_kind kb hx, fun H2 s2 => ⟨_, rfl, ?_⟩⟩
    have W2 := W1.same s2
    cases eo : S0 kd x with
    | false => exact iteF (iteF (hN _ _ ⟨rfl, W2, Same.but s2⟩))
    | true =>
    refine iteT ⟨_, rfl, p, 3, rfl, W2, by decide, by decide, fun j H3 j0 j3 W3 b3 => ?_⟩
    refine ⟨rfl, _, rfl, ?_⟩
    rw [dec_int]
    by_cases cj : j = 0
    · subst cj
      refine iteT ?_
      refine ⟨_, rfl, _, rfl, p, 3, rfl, W3, by decide, by decide, fun i H4 i0 i3 W4 b4 => ?_⟩
      walk_at "rd"
      refine fun q hq => ?_
      have nqp : q ≠ p := fun z => W4.some (z ▸ hq)
      refine k _ (.tuple [.str "#", .str x, .int (1 + i)]) _ (W4.new hq) (b1.trans (((Same.but s2).trans (b3.trans b4)).trans (new_but hq))) (.tup (del_new nqp) (.cons (.str _) (.cons (.str _) (.cons (.int _) .nil)))) ?_ ?_ ?_ (shB_mono (by omega) (stranger_sh (name_of_kind kb hx)))
      · rw [trB, trH, if_neg (by decide), if_pos rfl]; rfl
      · have : psz (.tuple [.str "#", .str x, .int (1 + i)]) = 4 := by simp [psz, pszs]
        omega
      · have : (PyData.tuple [.str "#", .str x, .int (1 + i)]).depth = 1 := by simp [PyData.depth, PyData.depthAll]
        omega
    · rw [show (j == 0) = false from by simpa using cj]
      exact iteF (hN _ _ ⟨rfl, W3, (Same.but s2).trans b3⟩)
  obtain ⟨rfl, W3, b13⟩ := pp
  have b03 := b1.trans b13
  have el3 := b13 _ _ nlp el
  have lst : ∀ {H' : Hp}, Well H' p → But p H H' → ∀ r d H5, Same H' H5 → Dd H5 r d → trB d = true → psz d ≤ 20 → d.depth ≤ 8 → shB 8 d = true → Q r H5 := fun {H'} W' b' r d H5 s5 hr5 t5 p5 d5 sh5 => k r d H5 (W'.same s5) (b'.trans (Same.but s5)) (dd_apart (W'.same s5) t5 hr5) t5 (by omega) (by omega) (shB_mono (by omega) sh5)
  refine ⟨_, rfl, rfl, _, rfl, ?_⟩
  rw [show decide (V.int ((n : Nat) : Int) = V.int 0) = decide (n = 0) from decide_eq_decide.mpr ⟨fun z => by injection z with z; omega, fun z => by rw [z]; rfl⟩]
  by_cases c0 : n = 0
  · rw [decide_eq_true c0]
    exact iteT (iteT ⟨_, rfl, _, rfl, v, kd, md, x, rfl, (hd.but b03).all, k1, k2, hx, few, sm x hx, lst W3 b03⟩)
  rw [decide_eq_false c0]
  refine iteF ⟨_, rfl, by show 0 ≤ sizeLine; exact Nat.zero_le _, fun t1 ht1 => ?_⟩
  have s4 : Same H3 (upd H3 t1 (.lst [])) := same_new ht1 _
  refine ⟨l, t1, ys, rfl, rfl, SqL.of (s4 _ _ el3), SqL.of upd_same, _, rfl, ?_⟩
  have W4 := W3.same s4
  have b14 := b13.trans (Same.but s4)
  have b04 := b1.trans b14
  generalize upd H3 t1 (.lst []) = H4 at s4 W4 b14 b04 ⊢
  by_cases cy : ys = []
  · rw [decide_eq_true cy]
    exact iteT (⟨_, rfl, _, rfl, v, kd, md, x, rfl, (hd.but b04).all, k1, k2, hx, few, sm x hx, lst W4 b04⟩)
  rw [decide_eq_false cy]
  have lM := M.len
  have lof : (ofKind md x).length ≤ md.length := List.length_filter_le _ _
  have ypos : 0 < ys.length := List.length_pos_iff.mpr cy
  refine iteF ?_
  refine ⟨_, rfl, _, rfl, p, l, ys, rfl, W4, s4 _ _ el3, nlp.symm, ypos, by omega, fun i w H5 ei W5 b5 => ?_⟩
  obtain ⟨m, em, tt, nv, na, rfl, ht, hna⟩ := M.get ei
  obtain ⟨a0, m0, c0', N0, ew0⟩ := id W1
  have keep : ∀ {H' : Hp}, But p H1 H' → ∀ {b : Addr} {zs : List V}, H1 b = some (.tup zs) → H' b = some (.tup zs) := fun {H'} bt {b zs} q => bt _ _ (fun z => by rw [z, ew0] at q; cases q) q
  have b15 := b14.trans b5
  have hmm := List.mem_of_getElem? em
  have hmd := (List.mem_filter.mp hmm).1
  have lns := needs_few (mb m hmd)
  have nok := needs_ok2 (mb m hmd)
  obtain ⟨nm1, nm2⟩ := name_marks (mb m hmd)
  refine ⟨tt, _, rfl, SqT.of (keep b15 ht), rfl, _, _, rfl, _, _, rfl, rfl, ?_⟩
  refine ⟨_, rfl, by show 1 ≤ sizeLine; rw [sizeLine_eq]; decide, fun t2 ht2 => ?_⟩
  have s6 : Same H5 (upd H5 t2 (.tup [.str (nameOf m)])) := same_new ht2 _
  have et2 : upd H5 t2 (.tup [.str (nameOf m)]) t2 = some (.tup [.str (nameOf m)]) := upd_same
  have W6 := W5.same s6
  have b16 := b15.trans (Same.but s6)
  generalize upd H5 t2 (.tup [.str (nameOf m)]) = H6 at s6 et2 W6 b16 ⊢
  refine ⟨_, rfl, na, rfl, ⟨_, SqT.of (keep b16 hna)⟩, fun D hD => ?_⟩
  cases n with
  | zero => exact absurd rfl c0
  | succ n =>
  have nDp : D ≠ p := fun z => W6.some (z ▸ hD)
  refine lc_it walk_tup (fun j H7 => Well H7 p ∧ But p H6 H7 ∧ ∃ us ds, H7 D = some (.lst us) ∧ DdA (L2.del H7 p) us ds ∧ ds.length = j ∧ (∀ d ∈ ds, trB d = true) ∧ (∀ d ∈ ds, psz d ≤ tbN n) ∧ ∀ d ∈ ds, d.depth ≤ 8 + n ∧ shB (8 + n) d = true)
    ⟨W6.new hD, new_but hD, [], [], upd_same, .nil, rfl, (fun d hd => by cases hd), (fun d hd => by cases hd), fun d hd => by cases hd⟩ (fun j H7 _ pp => SqT.of (keep (b16.trans pp.2.1) hna)) (fun j y H7p H7 hj pp hy => ?_) (fun H7 pp => ?_)
  · obtain ⟨rfl, ey⟩ := hy
    obtain ⟨W7, b7, us, ds, e7, A7, l7, t7, p7, d7⟩ := pp
    rw [List.getElem?_map] at ey
    obtain ⟨arg, ea, rfl⟩ := Option.map_eq_some_iff.mp ey
    have b17 := b16.trans b7
    have b07 := b1.trans b17
    refine ⟨rfl, ?_⟩
    refine ⟨_, rfl, _, rfl, _, rfl, _, rfl, ?_⟩
    walk_at "rd"
    refine ⟨p, v, kd, md, arg, (by show [V.ref p, v, V.str arg, V.int (((n + 1 : Nat) : Int) - 1)] = [V.ref p, v, V.str arg, V.int ((n : Nat) : Int)]; rw [show ((n + 1 : Nat) : Int) - 1 = ((n : Nat) : Int) from by omega]), W7, hd.but b07, k1, k2, nok arg (List.mem_of_getElem? ea), few, sm, fun r d H8 W8 b8 hr8 t8 p8 d8 sh8 => ?_⟩
    have e8 := b8 _ _ nDp e7
    have l7' := A7.length
    have ja := (List.getElem?_eq_some_iff.mp ea).1
    have keepD : ∀ b xs, L2.del H8 p b = some (.tup xs) → L2.del (upd H8 D (.lst (us ++ [r]))) p b = some (.tup xs) := fun b xs q => by
      have nb : b ≠ p := fun z => by rw [z, del_same] at q; cases q
      rw [del_ne nb] at q ⊢
      exact tup_put e8 q
    refine ⟨us, e8, by rw [sizeLine_eq]; omega, ?_, fun a o na' e => ?_, us ++ [r], ds ++ [d], upd_same, ?_, by rw [List.length_append, l7]; rfl, fun z hz => ?_, fun z hz => ?_, fun z hz => ?_⟩
    · obtain ⟨a, m, c, N, ew⟩ := W8
      exact ⟨a, m, c, N, by rw [upd_ne nDp.symm]; exact ew⟩
    · have c : a ≠ D := fun z => by rw [z, hD] at e; cases e
      rw [upd_ne c]
      exact (b7.trans b8) a o na' e
    · exact DdA.append (trA_mono keepD t7 (A7.but b8)) (.cons (trD_mono keepD t8 hr8) .nil)
    · rcases List.mem_append.mp hz with w | w
      · exact t7 z w
      · rw [List.mem_singleton.mp w]; exact t8
    · rcases List.mem_append.mp hz with w | w
      · exact p7 z w
      · rw [List.mem_singleton.mp w]; exact p8
    · rcases List.mem_append.mp hz with w | w
      · exact d7 z w
      · rw [List.mem_singleton.mp w]; exact ⟨d8, sh8⟩
  · obtain ⟨W7, b7, us, ds, e7, A7, l7, t7, p7, d7⟩ := pp
    have l7' := A7.length
    rw [List.length_map] at l7
    refine ⟨D, us, rfl, .inl ⟨SqL.of e7, fun tt htt => ?_⟩⟩
    have ntp : tt ≠ p := fun z => W7.some (z ▸ htt)
    have s8 : Same H7 (upd H7 tt (.tup us)) := same_new htt _
    have nt2 : t2 ≠ p := fun z => W5.some (z ▸ ht2)
    have b68 : But p H6 (upd H7 tt (.tup us)) := b7.trans (Same.but s8)
    refine catA_all (xs := [V.str (nameOf m)]) (ys := us) (b68 _ _ nt2 et2) upd_same (by rw [sizeLine_eq]; show 1 + us.length ≤ _; omega) fun c8 H8 s9 ec8 => ?_
    have W8 := (W7.same s8).same s9
    have n8 : c8 ≠ p := fun z => by
      obtain ⟨_, _, _, _, ew⟩ := W8
      rw [z, ew] at ec8
      cases ec8
    have ps := pszs_le ds p7
    have da := depthAll_of fun d hd => (d7 d hd).1
    have pz : psz (.tuple (.str (nameOf m) :: ds)) = 2 + pszs ds := by
      rw [psz, pszs, psz]
      · omega
      · intros; simp_all
    have l3 : ds.length * tbN n ≤ 3 * tbN n := Nat.mul_le_mul_right _ (by omega)
    refine k _ (.tuple (.str (nameOf m) :: ds)) H8 W8 (b1.trans ((b16.trans b68).trans (Same.but s9))) (.tup (by rw [del_ne n8]; exact ec8) (.cons (.str _) (A7.but ((Same.but s8).trans (Same.but s9))))) ?_ ?_ ?_ (show shB ((8 + n) + 1) _ = true from shB_of (by rw [List.length_cons]; omega) fun x hx => by
      rcases List.mem_cons.mp hx with w | w
      · rw [w]; exact shB_mono (Nat.zero_le _) (name_ok (name_of_maker (mb m hmd)))
      · exact (d7 x w).2)
    · rw [trB, trH, if_neg nm1, if_neg nm2]; exact trL_of t7
    · rw [pz]; show _ ≤ 2 + 3 * tbN n; omega
    · rw [PyData.depth]
      have : PyData.depthAll (.str (nameOf m) :: ds) ≤ 8 + n := by
        unfold PyData.depthAll
        exact Nat.max_le.mpr ⟨Nat.zero_le _, da⟩
      omega


/-- at one of the depths up to three -/
theorem ok_term_any (D : Df K mg "_law_term" s_term) (B : Bi mg) (G1 : Gd P w K mg base CX0 1 "_law_is_open" ["sig", "kind"] spIsOpen) (G2 : Gd P w K mg base CX0 1 "_law_draw" ["well", "few"] spDraw) (G3 : Gd P w K mg base CX0 1 "_law_makers" ["sig", "kind"] spLMakers) (G4 : Gd P w K mg base CX0 50 "_law_least" ["sig", "kind"] spLeast) (G5 : Gd P w K mg base CX0 2 "_law_one" ["well", "some"] (spOneL K)) :
    Gd P w K mg base CX0 55 "_law_term" ["well", "sig", "kind", "deep"] spTermAny := by
  refine gd_of D (fun _ _ _ _ _ _ us hl => match us, hl with | [_, _, _, _], _ => rfl) fun f fd F => ?_
  have g0 : ∀ n : Nat, Gd P w K mg base CX0 (n + 51) "_law_term" ["well", "sig", "kind", "deep"] (spPrev n) := fun n => by
    cases n with
    | zero =>
      refine gd_of D (fun _ _ _ _ _ _ us hl => match us, hl with | [_, _, _, _], _ => rfl) fun f fd F => ?_
      exact fun_q F sc_term (fun vs H Q E h => (show False from h).elim) (fun cdv A outer s H vs Q E hr hq h => (show False from h).elim)
    | succ n => exact ok_term D B G1 G2 G3 G4 G5 n
  have h : ∀ n, n ≤ 3 → Fn P w K mg base CX0 55 f fd ["well", "sig", "kind", "deep"] (spTermD n) := fun n hn => (okF_term_step (n := n) F B (g0 n) G1 G2 G3 G4 G5).mono (by omega)
  exact ⟨fun vs H Q E ⟨n, hn, q⟩ => (h n hn).len vs H Q E q, fun A outer s H args us vs Q E hr hq I b v ⟨n, hn, q⟩ => (h n hn).run A outer s H args us vs Q E hr hq I b v q⟩
end

theorem all_mk {P : Program} {w : World} {K : PySem.W.Frag} {h : Heap} {mg : Str → Option Value} {fa f_is_whole f_is_name f_is_tuple f_is_among f_are_unlike f_is_signature f_are_kinds_told f_is_kind_told f_are_makers_told f_is_maker_told f_have_terms f_check_signature f_check_kind f_check_kinds f_kind_names f_open_kinds f_makers_by_name f_makers_by_kind f_terms f_sizes_of_terms f_splits f_terms_of_size f_is_term f_is_closed_term f_is_stranger f_is_made f_are_patterns f_are_right_patterns f_is_variable f__law_well f__law_draw f__law_one f__law_mixed f__law_is_whole f__law_odd_thing f__law_bent f__law_is_name f__law_is_pair f__law_makers f__law_is_open f__law_is_term_of f__law_is_term f__law_are_patterns f__law_placed f__law_names f__law_swapped f__law_size f__law_ways f__law_closed f__law_held f__law_some_sig f__law_turned f__law_sig f__law_kinds f__law_least f__law_pattern f__law_patterns f__law_term f__law_instance f__law_shuffled f__law_things f__law_right f_law : Addr} {oc_is_whole kV_is_whole dc_is_whole pm_is_whole cd_is_whole ct_is_whole oc_is_name kV_is_name dc_is_name pm_is_name cd_is_name ct_is_name oc_is_tuple kV_is_tuple dc_is_tuple pm_is_tuple cd_is_tuple ct_is_tuple oc_is_among kV_is_among dc_is_among pm_is_among cd_is_among ct_is_among oc_are_unlike kV_are_unlike dc_are_unlike pm_are_unlike cd_are_unlike ct_are_unlike oc_is_signature kV_is_signature dc_is_signature pm_is_signature cd_is_signature ct_is_signature oc_are_kinds_told kV_are_kinds_told dc_are_kinds_told pm_are_kinds_told cd_are_kinds_told ct_are_kinds_told oc_is_kind_told kV_is_kind_told dc_is_kind_told pm_is_kind_told cd_is_kind_told ct_is_kind_told oc_are_makers_told kV_are_makers_told dc_are_makers_told pm_are_makers_told cd_are_makers_told ct_are_makers_told oc_is_maker_told kV_is_maker_told dc_is_maker_told pm_is_maker_told cd_is_maker_told ct_is_maker_told oc_have_terms kV_have_terms dc_have_terms pm_have_terms cd_have_terms ct_have_terms oc_check_signature kV_check_signature dc_check_signature pm_check_signature cd_check_signature ct_check_signature oc_check_kind kV_check_kind dc_check_kind pm_check_kind cd_check_kind ct_check_kind oc_check_kinds kV_check_kinds dc_check_kinds pm_check_kinds cd_check_kinds ct_check_kinds oc_kind_names kV_kind_names dc_kind_names pm_kind_names cd_kind_names ct_kind_names oc_open_kinds kV_open_kinds dc_open_kinds pm_open_kinds cd_open_kinds ct_open_kinds oc_makers_by_name kV_makers_by_name dc_makers_by_name pm_makers_by_name cd_makers_by_name ct_makers_by_name oc_makers_by_kind kV_makers_by_kind dc_makers_by_kind pm_makers_by_kind cd_makers_by_kind ct_makers_by_kind oc_terms kV_terms dc_terms pm_terms cd_terms ct_terms oc_sizes_of_terms kV_sizes_of_terms dc_sizes_of_terms pm_sizes_of_terms cd_sizes_of_terms ct_sizes_of_terms oc_splits kV_splits dc_splits pm_splits cd_splits ct_splits oc_terms_of_size kV_terms_of_size dc_terms_of_size pm_terms_of_size cd_terms_of_size ct_terms_of_size oc_is_term kV_is_term dc_is_term pm_is_term cd_is_term ct_is_term oc_is_closed_term kV_is_closed_term dc_is_closed_term pm_is_closed_term cd_is_closed_term ct_is_closed_term oc_is_stranger kV_is_stranger dc_is_stranger pm_is_stranger cd_is_stranger ct_is_stranger oc_is_made kV_is_made dc_is_made pm_is_made cd_is_made ct_is_made oc_are_patterns kV_are_patterns dc_are_patterns pm_are_patterns cd_are_patterns ct_are_patterns oc_are_right_patterns kV_are_right_patterns dc_are_right_patterns pm_are_right_patterns cd_are_right_patterns ct_are_right_patterns oc_is_variable kV_is_variable dc_is_variable pm_is_variable cd_is_variable ct_is_variable oc__law_well kV__law_well dc__law_well pm__law_well cd__law_well ct__law_well oc__law_draw kV__law_draw dc__law_draw pm__law_draw cd__law_draw ct__law_draw oc__law_one kV__law_one dc__law_one pm__law_one cd__law_one ct__law_one oc__law_mixed kV__law_mixed dc__law_mixed pm__law_mixed cd__law_mixed ct__law_mixed oc__law_is_whole kV__law_is_whole dc__law_is_whole pm__law_is_whole cd__law_is_whole ct__law_is_whole oc__law_odd_thing kV__law_odd_thing dc__law_odd_thing pm__law_odd_thing cd__law_odd_thing ct__law_odd_thing oc__law_bent kV__law_bent dc__law_bent pm__law_bent cd__law_bent ct__law_bent oc__law_is_name kV__law_is_name dc__law_is_name pm__law_is_name cd__law_is_name ct__law_is_name oc__law_is_pair kV__law_is_pair dc__law_is_pair pm__law_is_pair cd__law_is_pair ct__law_is_pair oc__law_makers kV__law_makers dc__law_makers pm__law_makers cd__law_makers ct__law_makers oc__law_is_open kV__law_is_open dc__law_is_open pm__law_is_open cd__law_is_open ct__law_is_open oc__law_is_term_of kV__law_is_term_of dc__law_is_term_of pm__law_is_term_of cd__law_is_term_of ct__law_is_term_of oc__law_is_term kV__law_is_term dc__law_is_term pm__law_is_term cd__law_is_term ct__law_is_term oc__law_are_patterns kV__law_are_patterns dc__law_are_patterns pm__law_are_patterns cd__law_are_patterns ct__law_are_patterns oc__law_placed kV__law_placed dc__law_placed pm__law_placed cd__law_placed ct__law_placed oc__law_names kV__law_names dc__law_names pm__law_names cd__law_names ct__law_names oc__law_swapped kV__law_swapped dc__law_swapped pm__law_swapped cd__law_swapped ct__law_swapped oc__law_size kV__law_size dc__law_size pm__law_size cd__law_size ct__law_size oc__law_ways kV__law_ways dc__law_ways pm__law_ways cd__law_ways ct__law_ways oc__law_closed kV__law_closed dc__law_closed pm__law_closed cd__law_closed ct__law_closed oc__law_held kV__law_held dc__law_held pm__law_held cd__law_held ct__law_held oc__law_some_sig kV__law_some_sig dc__law_some_sig pm__law_some_sig cd__law_some_sig ct__law_some_sig oc__law_turned kV__law_turned dc__law_turned pm__law_turned cd__law_turned ct__law_turned oc__law_sig kV__law_sig dc__law_sig pm__law_sig cd__law_sig ct__law_sig oc__law_kinds kV__law_kinds dc__law_kinds pm__law_kinds cd__law_kinds ct__law_kinds oc__law_least kV__law_least dc__law_least pm__law_least cd__law_least ct__law_least oc__law_pattern kV__law_pattern dc__law_pattern pm__law_pattern cd__law_pattern ct__law_pattern oc__law_patterns kV__law_patterns dc__law_patterns pm__law_patterns cd__law_patterns ct__law_patterns oc__law_term kV__law_term dc__law_term pm__law_term cd__law_term ct__law_term oc__law_instance kV__law_instance dc__law_instance pm__law_instance cd__law_instance ct__law_instance oc__law_shuffled kV__law_shuffled dc__law_shuffled pm__law_shuffled cd__law_shuffled ct__law_shuffled oc__law_things kV__law_things dc__law_things pm__law_things cd__law_things ct__law_things oc__law_right kV__law_right dc__law_right pm__law_right cd__law_right ct__law_right oc_law kV_law dc_law pm_law cd_law ct_law : Value} {od_is_whole an_is_whole od_is_name an_is_name od_is_tuple an_is_tuple od_is_among an_is_among od_are_unlike an_are_unlike od_is_signature an_is_signature od_are_kinds_told an_are_kinds_told od_is_kind_told an_is_kind_told od_are_makers_told an_are_makers_told od_is_maker_told an_is_maker_told od_have_terms an_have_terms od_check_signature an_check_signature od_check_kind an_check_kind od_check_kinds an_check_kinds od_kind_names an_kind_names od_open_kinds an_open_kinds od_makers_by_name an_makers_by_name od_makers_by_kind an_makers_by_kind od_terms an_terms od_sizes_of_terms an_sizes_of_terms od_splits an_splits od_terms_of_size an_terms_of_size od_is_term an_is_term od_is_closed_term an_is_closed_term od_is_stranger an_is_stranger od_is_made an_is_made od_are_patterns an_are_patterns od_are_right_patterns an_are_right_patterns od_is_variable an_is_variable od__law_well an__law_well od__law_draw an__law_draw od__law_one an__law_one od__law_mixed an__law_mixed od__law_is_whole an__law_is_whole od__law_odd_thing an__law_odd_thing od__law_bent an__law_bent od__law_is_name an__law_is_name od__law_is_pair an__law_is_pair od__law_makers an__law_makers od__law_is_open an__law_is_open od__law_is_term_of an__law_is_term_of od__law_is_term an__law_is_term od__law_are_patterns an__law_are_patterns od__law_placed an__law_placed od__law_names an__law_names od__law_swapped an__law_swapped od__law_size an__law_size od__law_ways an__law_ways od__law_closed an__law_closed od__law_held an__law_held od__law_some_sig an__law_some_sig od__law_turned an__law_turned od__law_sig an__law_sig od__law_kinds an__law_kinds od__law_least an__law_least od__law_pattern an__law_pattern od__law_patterns an__law_patterns od__law_term an__law_term od__law_instance an__law_instance od__law_shuffled an__law_shuffled od__law_things an__law_things od__law_right an__law_right od_law an_law : Option Addr} {sl_is_whole sl_is_name sl_is_tuple sl_is_among sl_are_unlike sl_is_signature sl_are_kinds_told sl_is_kind_told sl_are_makers_told sl_is_maker_told sl_have_terms sl_check_signature sl_check_kind sl_check_kinds sl_kind_names sl_open_kinds sl_makers_by_name sl_makers_by_kind sl_terms sl_sizes_of_terms sl_splits sl_terms_of_size sl_is_term sl_is_closed_term sl_is_stranger sl_is_made sl_are_patterns sl_are_right_patterns sl_is_variable sl__law_well sl__law_draw sl__law_one sl__law_mixed sl__law_is_whole sl__law_odd_thing sl__law_bent sl__law_is_name sl__law_is_pair sl__law_makers sl__law_is_open sl__law_is_term_of sl__law_is_term sl__law_are_patterns sl__law_placed sl__law_names sl__law_swapped sl__law_size sl__law_ways sl__law_closed sl__law_held sl__law_some_sig sl__law_turned sl__law_sig sl__law_kinds sl__law_least sl__law_pattern sl__law_patterns sl__law_term sl__law_instance sl__law_shuffled sl__law_things sl__law_right sl_law : Array (Option Value)} {t_LETTERS t_NAME_SIGNS t_LONGEST_NAME t_MOST_KINDS t_MOST_MAKERS t_MOST_NEEDS t_MOST_PLACES t_MOST_SIZE : Tok}
    (X : K.In h) (G : h.Ns mainGlobals mg) (hfa : mg "law" = some (.ref fa))
    (a_is_whole : PySem.W.nsIn K mainGlobals "is_whole" = some (some (.ref f_is_whole)))
    (l_is_whole : K.lookup f_is_whole = some ⟨oc_is_whole, od_is_whole, .func (PySem.W.fnOf "is_whole" "is_whole" (defArgs s_is_whole) (defBody s_is_whole) (defScope s_is_whole) .none kV_is_whole dc_is_whole pm_is_whole an_is_whole cd_is_whole ct_is_whole), sl_is_whole⟩)
    (c_is_whole : PySem.W.codeIn K cd_is_whole "is_whole" = true)
    (k_is_whole : PySem.W.keepIn K (.ref f_is_whole) = true)
    (a_is_name : PySem.W.nsIn K mainGlobals "is_name" = some (some (.ref f_is_name)))
    (l_is_name : K.lookup f_is_name = some ⟨oc_is_name, od_is_name, .func (PySem.W.fnOf "is_name" "is_name" (defArgs s_is_name) (defBody s_is_name) (defScope s_is_name) .none kV_is_name dc_is_name pm_is_name an_is_name cd_is_name ct_is_name), sl_is_name⟩)
    (c_is_name : PySem.W.codeIn K cd_is_name "is_name" = true)
    (k_is_name : PySem.W.keepIn K (.ref f_is_name) = true)
    (a_is_tuple : PySem.W.nsIn K mainGlobals "is_tuple" = some (some (.ref f_is_tuple)))
    (l_is_tuple : K.lookup f_is_tuple = some ⟨oc_is_tuple, od_is_tuple, .func (PySem.W.fnOf "is_tuple" "is_tuple" (defArgs s_is_tuple) (defBody s_is_tuple) (defScope s_is_tuple) .none kV_is_tuple dc_is_tuple pm_is_tuple an_is_tuple cd_is_tuple ct_is_tuple), sl_is_tuple⟩)
    (c_is_tuple : PySem.W.codeIn K cd_is_tuple "is_tuple" = true)
    (k_is_tuple : PySem.W.keepIn K (.ref f_is_tuple) = true)
    (a_is_among : PySem.W.nsIn K mainGlobals "is_among" = some (some (.ref f_is_among)))
    (l_is_among : K.lookup f_is_among = some ⟨oc_is_among, od_is_among, .func (PySem.W.fnOf "is_among" "is_among" (defArgs s_is_among) (defBody s_is_among) (defScope s_is_among) .none kV_is_among dc_is_among pm_is_among an_is_among cd_is_among ct_is_among), sl_is_among⟩)
    (c_is_among : PySem.W.codeIn K cd_is_among "is_among" = true)
    (k_is_among : PySem.W.keepIn K (.ref f_is_among) = true)
    (a_are_unlike : PySem.W.nsIn K mainGlobals "are_unlike" = some (some (.ref f_are_unlike)))
    (l_are_unlike : K.lookup f_are_unlike = some ⟨oc_are_unlike, od_are_unlike, .func (PySem.W.fnOf "are_unlike" "are_unlike" (defArgs s_are_unlike) (defBody s_are_unlike) (defScope s_are_unlike) .none kV_are_unlike dc_are_unlike pm_are_unlike an_are_unlike cd_are_unlike ct_are_unlike), sl_are_unlike⟩)
    (c_are_unlike : PySem.W.codeIn K cd_are_unlike "are_unlike" = true)
    (k_are_unlike : PySem.W.keepIn K (.ref f_are_unlike) = true)
    (a_is_signature : PySem.W.nsIn K mainGlobals "is_signature" = some (some (.ref f_is_signature)))
    (l_is_signature : K.lookup f_is_signature = some ⟨oc_is_signature, od_is_signature, .func (PySem.W.fnOf "is_signature" "is_signature" (defArgs s_is_signature) (defBody s_is_signature) (defScope s_is_signature) .none kV_is_signature dc_is_signature pm_is_signature an_is_signature cd_is_signature ct_is_signature), sl_is_signature⟩)
    (c_is_signature : PySem.W.codeIn K cd_is_signature "is_signature" = true)
    (k_is_signature : PySem.W.keepIn K (.ref f_is_signature) = true)
    (a_are_kinds_told : PySem.W.nsIn K mainGlobals "are_kinds_told" = some (some (.ref f_are_kinds_told)))
    (l_are_kinds_told : K.lookup f_are_kinds_told = some ⟨oc_are_kinds_told, od_are_kinds_told, .func (PySem.W.fnOf "are_kinds_told" "are_kinds_told" (defArgs s_are_kinds_told) (defBody s_are_kinds_told) (defScope s_are_kinds_told) .none kV_are_kinds_told dc_are_kinds_told pm_are_kinds_told an_are_kinds_told cd_are_kinds_told ct_are_kinds_told), sl_are_kinds_told⟩)
    (c_are_kinds_told : PySem.W.codeIn K cd_are_kinds_told "are_kinds_told" = true)
    (k_are_kinds_told : PySem.W.keepIn K (.ref f_are_kinds_told) = true)
    (a_is_kind_told : PySem.W.nsIn K mainGlobals "is_kind_told" = some (some (.ref f_is_kind_told)))
    (l_is_kind_told : K.lookup f_is_kind_told = some ⟨oc_is_kind_told, od_is_kind_told, .func (PySem.W.fnOf "is_kind_told" "is_kind_told" (defArgs s_is_kind_told) (defBody s_is_kind_told) (defScope s_is_kind_told) .none kV_is_kind_told dc_is_kind_told pm_is_kind_told an_is_kind_told cd_is_kind_told ct_is_kind_told), sl_is_kind_told⟩)
    (c_is_kind_told : PySem.W.codeIn K cd_is_kind_told "is_kind_told" = true)
    (k_is_kind_told : PySem.W.keepIn K (.ref f_is_kind_told) = true)
    (a_are_makers_told : PySem.W.nsIn K mainGlobals "are_makers_told" = some (some (.ref f_are_makers_told)))
    (l_are_makers_told : K.lookup f_are_makers_told = some ⟨oc_are_makers_told, od_are_makers_told, .func (PySem.W.fnOf "are_makers_told" "are_makers_told" (defArgs s_are_makers_told) (defBody s_are_makers_told) (defScope s_are_makers_told) .none kV_are_makers_told dc_are_makers_told pm_are_makers_told an_are_makers_told cd_are_makers_told ct_are_makers_told), sl_are_makers_told⟩)
    (c_are_makers_told : PySem.W.codeIn K cd_are_makers_told "are_makers_told" = true)
    (k_are_makers_told : PySem.W.keepIn K (.ref f_are_makers_told) = true)
    (a_is_maker_told : PySem.W.nsIn K mainGlobals "is_maker_told" = some (some (.ref f_is_maker_told)))
    (l_is_maker_told : K.lookup f_is_maker_told = some ⟨oc_is_maker_told, od_is_maker_told, .func (PySem.W.fnOf "is_maker_told" "is_maker_told" (defArgs s_is_maker_told) (defBody s_is_maker_told) (defScope s_is_maker_told) .none kV_is_maker_told dc_is_maker_told pm_is_maker_told an_is_maker_told cd_is_maker_told ct_is_maker_told), sl_is_maker_told⟩)
    (c_is_maker_told : PySem.W.codeIn K cd_is_maker_told "is_maker_told" = true)
    (k_is_maker_told : PySem.W.keepIn K (.ref f_is_maker_told) = true)
    (a_have_terms : PySem.W.nsIn K mainGlobals "have_terms" = some (some (.ref f_have_terms)))
    (l_have_terms : K.lookup f_have_terms = some ⟨oc_have_terms, od_have_terms, .func (PySem.W.fnOf "have_terms" "have_terms" (defArgs s_have_terms) (defBody s_have_terms) (defScope s_have_terms) .none kV_have_terms dc_have_terms pm_have_terms an_have_terms cd_have_terms ct_have_terms), sl_have_terms⟩)
    (c_have_terms : PySem.W.codeIn K cd_have_terms "have_terms" = true)
    (k_have_terms : PySem.W.keepIn K (.ref f_have_terms) = true)
    (a_check_signature : PySem.W.nsIn K mainGlobals "check_signature" = some (some (.ref f_check_signature)))
    (l_check_signature : K.lookup f_check_signature = some ⟨oc_check_signature, od_check_signature, .func (PySem.W.fnOf "check_signature" "check_signature" (defArgs s_check_signature) (defBody s_check_signature) (defScope s_check_signature) .none kV_check_signature dc_check_signature pm_check_signature an_check_signature cd_check_signature ct_check_signature), sl_check_signature⟩)
    (c_check_signature : PySem.W.codeIn K cd_check_signature "check_signature" = true)
    (k_check_signature : PySem.W.keepIn K (.ref f_check_signature) = true)
    (a_check_kind : PySem.W.nsIn K mainGlobals "check_kind" = some (some (.ref f_check_kind)))
    (l_check_kind : K.lookup f_check_kind = some ⟨oc_check_kind, od_check_kind, .func (PySem.W.fnOf "check_kind" "check_kind" (defArgs s_check_kind) (defBody s_check_kind) (defScope s_check_kind) .none kV_check_kind dc_check_kind pm_check_kind an_check_kind cd_check_kind ct_check_kind), sl_check_kind⟩)
    (c_check_kind : PySem.W.codeIn K cd_check_kind "check_kind" = true)
    (k_check_kind : PySem.W.keepIn K (.ref f_check_kind) = true)
    (a_check_kinds : PySem.W.nsIn K mainGlobals "check_kinds" = some (some (.ref f_check_kinds)))
    (l_check_kinds : K.lookup f_check_kinds = some ⟨oc_check_kinds, od_check_kinds, .func (PySem.W.fnOf "check_kinds" "check_kinds" (defArgs s_check_kinds) (defBody s_check_kinds) (defScope s_check_kinds) .none kV_check_kinds dc_check_kinds pm_check_kinds an_check_kinds cd_check_kinds ct_check_kinds), sl_check_kinds⟩)
    (c_check_kinds : PySem.W.codeIn K cd_check_kinds "check_kinds" = true)
    (k_check_kinds : PySem.W.keepIn K (.ref f_check_kinds) = true)
    (a_kind_names : PySem.W.nsIn K mainGlobals "kind_names" = some (some (.ref f_kind_names)))
    (l_kind_names : K.lookup f_kind_names = some ⟨oc_kind_names, od_kind_names, .func (PySem.W.fnOf "kind_names" "kind_names" (defArgs s_kind_names) (defBody s_kind_names) (defScope s_kind_names) .none kV_kind_names dc_kind_names pm_kind_names an_kind_names cd_kind_names ct_kind_names), sl_kind_names⟩)
    (c_kind_names : PySem.W.codeIn K cd_kind_names "kind_names" = true)
    (k_kind_names : PySem.W.keepIn K (.ref f_kind_names) = true)
    (a_open_kinds : PySem.W.nsIn K mainGlobals "open_kinds" = some (some (.ref f_open_kinds)))
    (l_open_kinds : K.lookup f_open_kinds = some ⟨oc_open_kinds, od_open_kinds, .func (PySem.W.fnOf "open_kinds" "open_kinds" (defArgs s_open_kinds) (defBody s_open_kinds) (defScope s_open_kinds) .none kV_open_kinds dc_open_kinds pm_open_kinds an_open_kinds cd_open_kinds ct_open_kinds), sl_open_kinds⟩)
    (c_open_kinds : PySem.W.codeIn K cd_open_kinds "open_kinds" = true)
    (k_open_kinds : PySem.W.keepIn K (.ref f_open_kinds) = true)
    (a_makers_by_name : PySem.W.nsIn K mainGlobals "makers_by_name" = some (some (.ref f_makers_by_name)))
    (l_makers_by_name : K.lookup f_makers_by_name = some ⟨oc_makers_by_name, od_makers_by_name, .func (PySem.W.fnOf "makers_by_name" "makers_by_name" (defArgs s_makers_by_name) (defBody s_makers_by_name) (defScope s_makers_by_name) .none kV_makers_by_name dc_makers_by_name pm_makers_by_name an_makers_by_name cd_makers_by_name ct_makers_by_name), sl_makers_by_name⟩)
    (c_makers_by_name : PySem.W.codeIn K cd_makers_by_name "makers_by_name" = true)
    (k_makers_by_name : PySem.W.keepIn K (.ref f_makers_by_name) = true)
    (a_makers_by_kind : PySem.W.nsIn K mainGlobals "makers_by_kind" = some (some (.ref f_makers_by_kind)))
    (l_makers_by_kind : K.lookup f_makers_by_kind = some ⟨oc_makers_by_kind, od_makers_by_kind, .func (PySem.W.fnOf "makers_by_kind" "makers_by_kind" (defArgs s_makers_by_kind) (defBody s_makers_by_kind) (defScope s_makers_by_kind) .none kV_makers_by_kind dc_makers_by_kind pm_makers_by_kind an_makers_by_kind cd_makers_by_kind ct_makers_by_kind), sl_makers_by_kind⟩)
    (c_makers_by_kind : PySem.W.codeIn K cd_makers_by_kind "makers_by_kind" = true)
    (k_makers_by_kind : PySem.W.keepIn K (.ref f_makers_by_kind) = true)
    (a_terms : PySem.W.nsIn K mainGlobals "terms" = some (some (.ref f_terms)))
    (l_terms : K.lookup f_terms = some ⟨oc_terms, od_terms, .func (PySem.W.fnOf "terms" "terms" (defArgs s_terms) (defBody s_terms) (defScope s_terms) .none kV_terms dc_terms pm_terms an_terms cd_terms ct_terms), sl_terms⟩)
    (c_terms : PySem.W.codeIn K cd_terms "terms" = true)
    (k_terms : PySem.W.keepIn K (.ref f_terms) = true)
    (a_sizes_of_terms : PySem.W.nsIn K mainGlobals "sizes_of_terms" = some (some (.ref f_sizes_of_terms)))
    (l_sizes_of_terms : K.lookup f_sizes_of_terms = some ⟨oc_sizes_of_terms, od_sizes_of_terms, .func (PySem.W.fnOf "sizes_of_terms" "sizes_of_terms" (defArgs s_sizes_of_terms) (defBody s_sizes_of_terms) (defScope s_sizes_of_terms) .none kV_sizes_of_terms dc_sizes_of_terms pm_sizes_of_terms an_sizes_of_terms cd_sizes_of_terms ct_sizes_of_terms), sl_sizes_of_terms⟩)
    (c_sizes_of_terms : PySem.W.codeIn K cd_sizes_of_terms "sizes_of_terms" = true)
    (k_sizes_of_terms : PySem.W.keepIn K (.ref f_sizes_of_terms) = true)
    (a_splits : PySem.W.nsIn K mainGlobals "splits" = some (some (.ref f_splits)))
    (l_splits : K.lookup f_splits = some ⟨oc_splits, od_splits, .func (PySem.W.fnOf "splits" "splits" (defArgs s_splits) (defBody s_splits) (defScope s_splits) .none kV_splits dc_splits pm_splits an_splits cd_splits ct_splits), sl_splits⟩)
    (c_splits : PySem.W.codeIn K cd_splits "splits" = true)
    (k_splits : PySem.W.keepIn K (.ref f_splits) = true)
    (a_terms_of_size : PySem.W.nsIn K mainGlobals "terms_of_size" = some (some (.ref f_terms_of_size)))
    (l_terms_of_size : K.lookup f_terms_of_size = some ⟨oc_terms_of_size, od_terms_of_size, .func (PySem.W.fnOf "terms_of_size" "terms_of_size" (defArgs s_terms_of_size) (defBody s_terms_of_size) (defScope s_terms_of_size) .none kV_terms_of_size dc_terms_of_size pm_terms_of_size an_terms_of_size cd_terms_of_size ct_terms_of_size), sl_terms_of_size⟩)
    (c_terms_of_size : PySem.W.codeIn K cd_terms_of_size "terms_of_size" = true)
    (k_terms_of_size : PySem.W.keepIn K (.ref f_terms_of_size) = true)
    (a_is_term : PySem.W.nsIn K mainGlobals "is_term" = some (some (.ref f_is_term)))
    (l_is_term : K.lookup f_is_term = some ⟨oc_is_term, od_is_term, .func (PySem.W.fnOf "is_term" "is_term" (defArgs s_is_term) (defBody s_is_term) (defScope s_is_term) .none kV_is_term dc_is_term pm_is_term an_is_term cd_is_term ct_is_term), sl_is_term⟩)
    (c_is_term : PySem.W.codeIn K cd_is_term "is_term" = true)
    (k_is_term : PySem.W.keepIn K (.ref f_is_term) = true)
    (a_is_closed_term : PySem.W.nsIn K mainGlobals "is_closed_term" = some (some (.ref f_is_closed_term)))
    (l_is_closed_term : K.lookup f_is_closed_term = some ⟨oc_is_closed_term, od_is_closed_term, .func (PySem.W.fnOf "is_closed_term" "is_closed_term" (defArgs s_is_closed_term) (defBody s_is_closed_term) (defScope s_is_closed_term) .none kV_is_closed_term dc_is_closed_term pm_is_closed_term an_is_closed_term cd_is_closed_term ct_is_closed_term), sl_is_closed_term⟩)
    (c_is_closed_term : PySem.W.codeIn K cd_is_closed_term "is_closed_term" = true)
    (k_is_closed_term : PySem.W.keepIn K (.ref f_is_closed_term) = true)
    (a_is_stranger : PySem.W.nsIn K mainGlobals "is_stranger" = some (some (.ref f_is_stranger)))
    (l_is_stranger : K.lookup f_is_stranger = some ⟨oc_is_stranger, od_is_stranger, .func (PySem.W.fnOf "is_stranger" "is_stranger" (defArgs s_is_stranger) (defBody s_is_stranger) (defScope s_is_stranger) .none kV_is_stranger dc_is_stranger pm_is_stranger an_is_stranger cd_is_stranger ct_is_stranger), sl_is_stranger⟩)
    (c_is_stranger : PySem.W.codeIn K cd_is_stranger "is_stranger" = true)
    (k_is_stranger : PySem.W.keepIn K (.ref f_is_stranger) = true)
    (a_is_made : PySem.W.nsIn K mainGlobals "is_made" = some (some (.ref f_is_made)))
    (l_is_made : K.lookup f_is_made = some ⟨oc_is_made, od_is_made, .func (PySem.W.fnOf "is_made" "is_made" (defArgs s_is_made) (defBody s_is_made) (defScope s_is_made) .none kV_is_made dc_is_made pm_is_made an_is_made cd_is_made ct_is_made), sl_is_made⟩)
    (c_is_made : PySem.W.codeIn K cd_is_made "is_made" = true)
    (k_is_made : PySem.W.keepIn K (.ref f_is_made) = true)
    (a_are_patterns : PySem.W.nsIn K mainGlobals "are_patterns" = some (some (.ref f_are_patterns)))
    (l_are_patterns : K.lookup f_are_patterns = some ⟨oc_are_patterns, od_are_patterns, .func (PySem.W.fnOf "are_patterns" "are_patterns" (defArgs s_are_patterns) (defBody s_are_patterns) (defScope s_are_patterns) .none kV_are_patterns dc_are_patterns pm_are_patterns an_are_patterns cd_are_patterns ct_are_patterns), sl_are_patterns⟩)
    (c_are_patterns : PySem.W.codeIn K cd_are_patterns "are_patterns" = true)
    (k_are_patterns : PySem.W.keepIn K (.ref f_are_patterns) = true)
    (a_are_right_patterns : PySem.W.nsIn K mainGlobals "are_right_patterns" = some (some (.ref f_are_right_patterns)))
    (l_are_right_patterns : K.lookup f_are_right_patterns = some ⟨oc_are_right_patterns, od_are_right_patterns, .func (PySem.W.fnOf "are_right_patterns" "are_right_patterns" (defArgs s_are_right_patterns) (defBody s_are_right_patterns) (defScope s_are_right_patterns) .none kV_are_right_patterns dc_are_right_patterns pm_are_right_patterns an_are_right_patterns cd_are_right_patterns ct_are_right_patterns), sl_are_right_patterns⟩)
    (c_are_right_patterns : PySem.W.codeIn K cd_are_right_patterns "are_right_patterns" = true)
    (k_are_right_patterns : PySem.W.keepIn K (.ref f_are_right_patterns) = true)
    (a_is_variable : PySem.W.nsIn K mainGlobals "is_variable" = some (some (.ref f_is_variable)))
    (l_is_variable : K.lookup f_is_variable = some ⟨oc_is_variable, od_is_variable, .func (PySem.W.fnOf "is_variable" "is_variable" (defArgs s_is_variable) (defBody s_is_variable) (defScope s_is_variable) .none kV_is_variable dc_is_variable pm_is_variable an_is_variable cd_is_variable ct_is_variable), sl_is_variable⟩)
    (c_is_variable : PySem.W.codeIn K cd_is_variable "is_variable" = true)
    (k_is_variable : PySem.W.keepIn K (.ref f_is_variable) = true)
    (a__law_well : PySem.W.nsIn K mainGlobals "_law_well" = some (some (.ref f__law_well)))
    (l__law_well : K.lookup f__law_well = some ⟨oc__law_well, od__law_well, .func (PySem.W.fnOf "_law_well" "_law_well" (defArgs s_well) (defBody s_well) (defScope s_well) .none kV__law_well dc__law_well pm__law_well an__law_well cd__law_well ct__law_well), sl__law_well⟩)
    (c__law_well : PySem.W.codeIn K cd__law_well "_law_well" = true)
    (k__law_well : PySem.W.keepIn K (.ref f__law_well) = true)
    (a__law_draw : PySem.W.nsIn K mainGlobals "_law_draw" = some (some (.ref f__law_draw)))
    (l__law_draw : K.lookup f__law_draw = some ⟨oc__law_draw, od__law_draw, .func (PySem.W.fnOf "_law_draw" "_law_draw" (defArgs s_draw) (defBody s_draw) (defScope s_draw) .none kV__law_draw dc__law_draw pm__law_draw an__law_draw cd__law_draw ct__law_draw), sl__law_draw⟩)
    (c__law_draw : PySem.W.codeIn K cd__law_draw "_law_draw" = true)
    (k__law_draw : PySem.W.keepIn K (.ref f__law_draw) = true)
    (a__law_one : PySem.W.nsIn K mainGlobals "_law_one" = some (some (.ref f__law_one)))
    (l__law_one : K.lookup f__law_one = some ⟨oc__law_one, od__law_one, .func (PySem.W.fnOf "_law_one" "_law_one" (defArgs s_one) (defBody s_one) (defScope s_one) .none kV__law_one dc__law_one pm__law_one an__law_one cd__law_one ct__law_one), sl__law_one⟩)
    (c__law_one : PySem.W.codeIn K cd__law_one "_law_one" = true)
    (k__law_one : PySem.W.keepIn K (.ref f__law_one) = true)
    (a__law_mixed : PySem.W.nsIn K mainGlobals "_law_mixed" = some (some (.ref f__law_mixed)))
    (l__law_mixed : K.lookup f__law_mixed = some ⟨oc__law_mixed, od__law_mixed, .func (PySem.W.fnOf "_law_mixed" "_law_mixed" (defArgs s_mixed) (defBody s_mixed) (defScope s_mixed) .none kV__law_mixed dc__law_mixed pm__law_mixed an__law_mixed cd__law_mixed ct__law_mixed), sl__law_mixed⟩)
    (c__law_mixed : PySem.W.codeIn K cd__law_mixed "_law_mixed" = true)
    (k__law_mixed : PySem.W.keepIn K (.ref f__law_mixed) = true)
    (a__law_is_whole : PySem.W.nsIn K mainGlobals "_law_is_whole" = some (some (.ref f__law_is_whole)))
    (l__law_is_whole : K.lookup f__law_is_whole = some ⟨oc__law_is_whole, od__law_is_whole, .func (PySem.W.fnOf "_law_is_whole" "_law_is_whole" (defArgs s_lis_whole) (defBody s_lis_whole) (defScope s_lis_whole) .none kV__law_is_whole dc__law_is_whole pm__law_is_whole an__law_is_whole cd__law_is_whole ct__law_is_whole), sl__law_is_whole⟩)
    (c__law_is_whole : PySem.W.codeIn K cd__law_is_whole "_law_is_whole" = true)
    (k__law_is_whole : PySem.W.keepIn K (.ref f__law_is_whole) = true)
    (a__law_odd_thing : PySem.W.nsIn K mainGlobals "_law_odd_thing" = some (some (.ref f__law_odd_thing)))
    (l__law_odd_thing : K.lookup f__law_odd_thing = some ⟨oc__law_odd_thing, od__law_odd_thing, .func (PySem.W.fnOf "_law_odd_thing" "_law_odd_thing" (defArgs s_odd_thing) (defBody s_odd_thing) (defScope s_odd_thing) .none kV__law_odd_thing dc__law_odd_thing pm__law_odd_thing an__law_odd_thing cd__law_odd_thing ct__law_odd_thing), sl__law_odd_thing⟩)
    (c__law_odd_thing : PySem.W.codeIn K cd__law_odd_thing "_law_odd_thing" = true)
    (k__law_odd_thing : PySem.W.keepIn K (.ref f__law_odd_thing) = true)
    (a__law_bent : PySem.W.nsIn K mainGlobals "_law_bent" = some (some (.ref f__law_bent)))
    (l__law_bent : K.lookup f__law_bent = some ⟨oc__law_bent, od__law_bent, .func (PySem.W.fnOf "_law_bent" "_law_bent" (defArgs s_bent) (defBody s_bent) (defScope s_bent) .none kV__law_bent dc__law_bent pm__law_bent an__law_bent cd__law_bent ct__law_bent), sl__law_bent⟩)
    (c__law_bent : PySem.W.codeIn K cd__law_bent "_law_bent" = true)
    (k__law_bent : PySem.W.keepIn K (.ref f__law_bent) = true)
    (a__law_is_name : PySem.W.nsIn K mainGlobals "_law_is_name" = some (some (.ref f__law_is_name)))
    (l__law_is_name : K.lookup f__law_is_name = some ⟨oc__law_is_name, od__law_is_name, .func (PySem.W.fnOf "_law_is_name" "_law_is_name" (defArgs s_lis_name) (defBody s_lis_name) (defScope s_lis_name) .none kV__law_is_name dc__law_is_name pm__law_is_name an__law_is_name cd__law_is_name ct__law_is_name), sl__law_is_name⟩)
    (c__law_is_name : PySem.W.codeIn K cd__law_is_name "_law_is_name" = true)
    (k__law_is_name : PySem.W.keepIn K (.ref f__law_is_name) = true)
    (a__law_is_pair : PySem.W.nsIn K mainGlobals "_law_is_pair" = some (some (.ref f__law_is_pair)))
    (l__law_is_pair : K.lookup f__law_is_pair = some ⟨oc__law_is_pair, od__law_is_pair, .func (PySem.W.fnOf "_law_is_pair" "_law_is_pair" (defArgs s_is_pair) (defBody s_is_pair) (defScope s_is_pair) .none kV__law_is_pair dc__law_is_pair pm__law_is_pair an__law_is_pair cd__law_is_pair ct__law_is_pair), sl__law_is_pair⟩)
    (c__law_is_pair : PySem.W.codeIn K cd__law_is_pair "_law_is_pair" = true)
    (k__law_is_pair : PySem.W.keepIn K (.ref f__law_is_pair) = true)
    (a__law_makers : PySem.W.nsIn K mainGlobals "_law_makers" = some (some (.ref f__law_makers)))
    (l__law_makers : K.lookup f__law_makers = some ⟨oc__law_makers, od__law_makers, .func (PySem.W.fnOf "_law_makers" "_law_makers" (defArgs s_makers) (defBody s_makers) (defScope s_makers) .none kV__law_makers dc__law_makers pm__law_makers an__law_makers cd__law_makers ct__law_makers), sl__law_makers⟩)
    (c__law_makers : PySem.W.codeIn K cd__law_makers "_law_makers" = true)
    (k__law_makers : PySem.W.keepIn K (.ref f__law_makers) = true)
    (a__law_is_open : PySem.W.nsIn K mainGlobals "_law_is_open" = some (some (.ref f__law_is_open)))
    (l__law_is_open : K.lookup f__law_is_open = some ⟨oc__law_is_open, od__law_is_open, .func (PySem.W.fnOf "_law_is_open" "_law_is_open" (defArgs s_is_open) (defBody s_is_open) (defScope s_is_open) .none kV__law_is_open dc__law_is_open pm__law_is_open an__law_is_open cd__law_is_open ct__law_is_open), sl__law_is_open⟩)
    (c__law_is_open : PySem.W.codeIn K cd__law_is_open "_law_is_open" = true)
    (k__law_is_open : PySem.W.keepIn K (.ref f__law_is_open) = true)
    (a__law_is_term_of : PySem.W.nsIn K mainGlobals "_law_is_term_of" = some (some (.ref f__law_is_term_of)))
    (l__law_is_term_of : K.lookup f__law_is_term_of = some ⟨oc__law_is_term_of, od__law_is_term_of, .func (PySem.W.fnOf "_law_is_term_of" "_law_is_term_of" (defArgs s_is_term_of) (defBody s_is_term_of) (defScope s_is_term_of) .none kV__law_is_term_of dc__law_is_term_of pm__law_is_term_of an__law_is_term_of cd__law_is_term_of ct__law_is_term_of), sl__law_is_term_of⟩)
    (c__law_is_term_of : PySem.W.codeIn K cd__law_is_term_of "_law_is_term_of" = true)
    (k__law_is_term_of : PySem.W.keepIn K (.ref f__law_is_term_of) = true)
    (a__law_is_term : PySem.W.nsIn K mainGlobals "_law_is_term" = some (some (.ref f__law_is_term)))
    (l__law_is_term : K.lookup f__law_is_term = some ⟨oc__law_is_term, od__law_is_term, .func (PySem.W.fnOf "_law_is_term" "_law_is_term" (defArgs s_lis_term) (defBody s_lis_term) (defScope s_lis_term) .none kV__law_is_term dc__law_is_term pm__law_is_term an__law_is_term cd__law_is_term ct__law_is_term), sl__law_is_term⟩)
    (c__law_is_term : PySem.W.codeIn K cd__law_is_term "_law_is_term" = true)
    (k__law_is_term : PySem.W.keepIn K (.ref f__law_is_term) = true)
    (a__law_are_patterns : PySem.W.nsIn K mainGlobals "_law_are_patterns" = some (some (.ref f__law_are_patterns)))
    (l__law_are_patterns : K.lookup f__law_are_patterns = some ⟨oc__law_are_patterns, od__law_are_patterns, .func (PySem.W.fnOf "_law_are_patterns" "_law_are_patterns" (defArgs s_lare_patterns) (defBody s_lare_patterns) (defScope s_lare_patterns) .none kV__law_are_patterns dc__law_are_patterns pm__law_are_patterns an__law_are_patterns cd__law_are_patterns ct__law_are_patterns), sl__law_are_patterns⟩)
    (c__law_are_patterns : PySem.W.codeIn K cd__law_are_patterns "_law_are_patterns" = true)
    (k__law_are_patterns : PySem.W.keepIn K (.ref f__law_are_patterns) = true)
    (a__law_placed : PySem.W.nsIn K mainGlobals "_law_placed" = some (some (.ref f__law_placed)))
    (l__law_placed : K.lookup f__law_placed = some ⟨oc__law_placed, od__law_placed, .func (PySem.W.fnOf "_law_placed" "_law_placed" (defArgs s_placed) (defBody s_placed) (defScope s_placed) .none kV__law_placed dc__law_placed pm__law_placed an__law_placed cd__law_placed ct__law_placed), sl__law_placed⟩)
    (c__law_placed : PySem.W.codeIn K cd__law_placed "_law_placed" = true)
    (k__law_placed : PySem.W.keepIn K (.ref f__law_placed) = true)
    (a__law_names : PySem.W.nsIn K mainGlobals "_law_names" = some (some (.ref f__law_names)))
    (l__law_names : K.lookup f__law_names = some ⟨oc__law_names, od__law_names, .func (PySem.W.fnOf "_law_names" "_law_names" (defArgs s_names) (defBody s_names) (defScope s_names) .none kV__law_names dc__law_names pm__law_names an__law_names cd__law_names ct__law_names), sl__law_names⟩)
    (c__law_names : PySem.W.codeIn K cd__law_names "_law_names" = true)
    (k__law_names : PySem.W.keepIn K (.ref f__law_names) = true)
    (a__law_swapped : PySem.W.nsIn K mainGlobals "_law_swapped" = some (some (.ref f__law_swapped)))
    (l__law_swapped : K.lookup f__law_swapped = some ⟨oc__law_swapped, od__law_swapped, .func (PySem.W.fnOf "_law_swapped" "_law_swapped" (defArgs s_swapped) (defBody s_swapped) (defScope s_swapped) .none kV__law_swapped dc__law_swapped pm__law_swapped an__law_swapped cd__law_swapped ct__law_swapped), sl__law_swapped⟩)
    (c__law_swapped : PySem.W.codeIn K cd__law_swapped "_law_swapped" = true)
    (k__law_swapped : PySem.W.keepIn K (.ref f__law_swapped) = true)
    (a__law_size : PySem.W.nsIn K mainGlobals "_law_size" = some (some (.ref f__law_size)))
    (l__law_size : K.lookup f__law_size = some ⟨oc__law_size, od__law_size, .func (PySem.W.fnOf "_law_size" "_law_size" (defArgs s_size) (defBody s_size) (defScope s_size) .none kV__law_size dc__law_size pm__law_size an__law_size cd__law_size ct__law_size), sl__law_size⟩)
    (c__law_size : PySem.W.codeIn K cd__law_size "_law_size" = true)
    (k__law_size : PySem.W.keepIn K (.ref f__law_size) = true)
    (a__law_ways : PySem.W.nsIn K mainGlobals "_law_ways" = some (some (.ref f__law_ways)))
    (l__law_ways : K.lookup f__law_ways = some ⟨oc__law_ways, od__law_ways, .func (PySem.W.fnOf "_law_ways" "_law_ways" (defArgs s_ways) (defBody s_ways) (defScope s_ways) .none kV__law_ways dc__law_ways pm__law_ways an__law_ways cd__law_ways ct__law_ways), sl__law_ways⟩)
    (c__law_ways : PySem.W.codeIn K cd__law_ways "_law_ways" = true)
    (k__law_ways : PySem.W.keepIn K (.ref f__law_ways) = true)
    (a__law_closed : PySem.W.nsIn K mainGlobals "_law_closed" = some (some (.ref f__law_closed)))
    (l__law_closed : K.lookup f__law_closed = some ⟨oc__law_closed, od__law_closed, .func (PySem.W.fnOf "_law_closed" "_law_closed" (defArgs s_closed) (defBody s_closed) (defScope s_closed) .none kV__law_closed dc__law_closed pm__law_closed an__law_closed cd__law_closed ct__law_closed), sl__law_closed⟩)
    (c__law_closed : PySem.W.codeIn K cd__law_closed "_law_closed" = true)
    (k__law_closed : PySem.W.keepIn K (.ref f__law_closed) = true)
    (a__law_held : PySem.W.nsIn K mainGlobals "_law_held" = some (some (.ref f__law_held)))
    (l__law_held : K.lookup f__law_held = some ⟨oc__law_held, od__law_held, .func (PySem.W.fnOf "_law_held" "_law_held" (defArgs s_held) (defBody s_held) (defScope s_held) .none kV__law_held dc__law_held pm__law_held an__law_held cd__law_held ct__law_held), sl__law_held⟩)
    (c__law_held : PySem.W.codeIn K cd__law_held "_law_held" = true)
    (k__law_held : PySem.W.keepIn K (.ref f__law_held) = true)
    (a__law_some_sig : PySem.W.nsIn K mainGlobals "_law_some_sig" = some (some (.ref f__law_some_sig)))
    (l__law_some_sig : K.lookup f__law_some_sig = some ⟨oc__law_some_sig, od__law_some_sig, .func (PySem.W.fnOf "_law_some_sig" "_law_some_sig" (defArgs s_some_sig) (defBody s_some_sig) (defScope s_some_sig) .none kV__law_some_sig dc__law_some_sig pm__law_some_sig an__law_some_sig cd__law_some_sig ct__law_some_sig), sl__law_some_sig⟩)
    (c__law_some_sig : PySem.W.codeIn K cd__law_some_sig "_law_some_sig" = true)
    (k__law_some_sig : PySem.W.keepIn K (.ref f__law_some_sig) = true)
    (a__law_turned : PySem.W.nsIn K mainGlobals "_law_turned" = some (some (.ref f__law_turned)))
    (l__law_turned : K.lookup f__law_turned = some ⟨oc__law_turned, od__law_turned, .func (PySem.W.fnOf "_law_turned" "_law_turned" (defArgs s_turned) (defBody s_turned) (defScope s_turned) .none kV__law_turned dc__law_turned pm__law_turned an__law_turned cd__law_turned ct__law_turned), sl__law_turned⟩)
    (c__law_turned : PySem.W.codeIn K cd__law_turned "_law_turned" = true)
    (k__law_turned : PySem.W.keepIn K (.ref f__law_turned) = true)
    (a__law_sig : PySem.W.nsIn K mainGlobals "_law_sig" = some (some (.ref f__law_sig)))
    (l__law_sig : K.lookup f__law_sig = some ⟨oc__law_sig, od__law_sig, .func (PySem.W.fnOf "_law_sig" "_law_sig" (defArgs s_sig) (defBody s_sig) (defScope s_sig) .none kV__law_sig dc__law_sig pm__law_sig an__law_sig cd__law_sig ct__law_sig), sl__law_sig⟩)
    (c__law_sig : PySem.W.codeIn K cd__law_sig "_law_sig" = true)
    (k__law_sig : PySem.W.keepIn K (.ref f__law_sig) = true)
    (a__law_kinds : PySem.W.nsIn K mainGlobals "_law_kinds" = some (some (.ref f__law_kinds)))
    (l__law_kinds : K.lookup f__law_kinds = some ⟨oc__law_kinds, od__law_kinds, .func (PySem.W.fnOf "_law_kinds" "_law_kinds" (defArgs s_kinds) (defBody s_kinds) (defScope s_kinds) .none kV__law_kinds dc__law_kinds pm__law_kinds an__law_kinds cd__law_kinds ct__law_kinds), sl__law_kinds⟩)
    (c__law_kinds : PySem.W.codeIn K cd__law_kinds "_law_kinds" = true)
    (k__law_kinds : PySem.W.keepIn K (.ref f__law_kinds) = true)
    (a__law_least : PySem.W.nsIn K mainGlobals "_law_least" = some (some (.ref f__law_least)))
    (l__law_least : K.lookup f__law_least = some ⟨oc__law_least, od__law_least, .func (PySem.W.fnOf "_law_least" "_law_least" (defArgs s_least) (defBody s_least) (defScope s_least) .none kV__law_least dc__law_least pm__law_least an__law_least cd__law_least ct__law_least), sl__law_least⟩)
    (c__law_least : PySem.W.codeIn K cd__law_least "_law_least" = true)
    (k__law_least : PySem.W.keepIn K (.ref f__law_least) = true)
    (a__law_pattern : PySem.W.nsIn K mainGlobals "_law_pattern" = some (some (.ref f__law_pattern)))
    (l__law_pattern : K.lookup f__law_pattern = some ⟨oc__law_pattern, od__law_pattern, .func (PySem.W.fnOf "_law_pattern" "_law_pattern" (defArgs s_pattern) (defBody s_pattern) (defScope s_pattern) .none kV__law_pattern dc__law_pattern pm__law_pattern an__law_pattern cd__law_pattern ct__law_pattern), sl__law_pattern⟩)
    (c__law_pattern : PySem.W.codeIn K cd__law_pattern "_law_pattern" = true)
    (k__law_pattern : PySem.W.keepIn K (.ref f__law_pattern) = true)
    (a__law_patterns : PySem.W.nsIn K mainGlobals "_law_patterns" = some (some (.ref f__law_patterns)))
    (l__law_patterns : K.lookup f__law_patterns = some ⟨oc__law_patterns, od__law_patterns, .func (PySem.W.fnOf "_law_patterns" "_law_patterns" (defArgs s_patterns) (defBody s_patterns) (defScope s_patterns) .none kV__law_patterns dc__law_patterns pm__law_patterns an__law_patterns cd__law_patterns ct__law_patterns), sl__law_patterns⟩)
    (c__law_patterns : PySem.W.codeIn K cd__law_patterns "_law_patterns" = true)
    (k__law_patterns : PySem.W.keepIn K (.ref f__law_patterns) = true)
    (a__law_term : PySem.W.nsIn K mainGlobals "_law_term" = some (some (.ref f__law_term)))
    (l__law_term : K.lookup f__law_term = some ⟨oc__law_term, od__law_term, .func (PySem.W.fnOf "_law_term" "_law_term" (defArgs s_term) (defBody s_term) (defScope s_term) .none kV__law_term dc__law_term pm__law_term an__law_term cd__law_term ct__law_term), sl__law_term⟩)
    (c__law_term : PySem.W.codeIn K cd__law_term "_law_term" = true)
    (k__law_term : PySem.W.keepIn K (.ref f__law_term) = true)
    (a__law_instance : PySem.W.nsIn K mainGlobals "_law_instance" = some (some (.ref f__law_instance)))
    (l__law_instance : K.lookup f__law_instance = some ⟨oc__law_instance, od__law_instance, .func (PySem.W.fnOf "_law_instance" "_law_instance" (defArgs s_instance) (defBody s_instance) (defScope s_instance) .none kV__law_instance dc__law_instance pm__law_instance an__law_instance cd__law_instance ct__law_instance), sl__law_instance⟩)
    (c__law_instance : PySem.W.codeIn K cd__law_instance "_law_instance" = true)
    (k__law_instance : PySem.W.keepIn K (.ref f__law_instance) = true)
    (a__law_shuffled : PySem.W.nsIn K mainGlobals "_law_shuffled" = some (some (.ref f__law_shuffled)))
    (l__law_shuffled : K.lookup f__law_shuffled = some ⟨oc__law_shuffled, od__law_shuffled, .func (PySem.W.fnOf "_law_shuffled" "_law_shuffled" (defArgs s_shuffled) (defBody s_shuffled) (defScope s_shuffled) .none kV__law_shuffled dc__law_shuffled pm__law_shuffled an__law_shuffled cd__law_shuffled ct__law_shuffled), sl__law_shuffled⟩)
    (c__law_shuffled : PySem.W.codeIn K cd__law_shuffled "_law_shuffled" = true)
    (k__law_shuffled : PySem.W.keepIn K (.ref f__law_shuffled) = true)
    (a__law_things : PySem.W.nsIn K mainGlobals "_law_things" = some (some (.ref f__law_things)))
    (l__law_things : K.lookup f__law_things = some ⟨oc__law_things, od__law_things, .func (PySem.W.fnOf "_law_things" "_law_things" (defArgs s_things) (defBody s_things) (defScope s_things) .none kV__law_things dc__law_things pm__law_things an__law_things cd__law_things ct__law_things), sl__law_things⟩)
    (c__law_things : PySem.W.codeIn K cd__law_things "_law_things" = true)
    (k__law_things : PySem.W.keepIn K (.ref f__law_things) = true)
    (a__law_right : PySem.W.nsIn K mainGlobals "_law_right" = some (some (.ref f__law_right)))
    (l__law_right : K.lookup f__law_right = some ⟨oc__law_right, od__law_right, .func (PySem.W.fnOf "_law_right" "_law_right" (defArgs s_right) (defBody s_right) (defScope s_right) .none kV__law_right dc__law_right pm__law_right an__law_right cd__law_right ct__law_right), sl__law_right⟩)
    (c__law_right : PySem.W.codeIn K cd__law_right "_law_right" = true)
    (k__law_right : PySem.W.keepIn K (.ref f__law_right) = true)
    (a_law : PySem.W.nsIn K mainGlobals "law" = some (some (.ref f_law)))
    (l_law : K.lookup f_law = some ⟨oc_law, od_law, .func (PySem.W.fnOf "law" "law" (defArgs s_law) (defBody s_law) (defScope s_law) .none kV_law dc_law pm_law an_law cd_law ct_law), sl_law⟩)
    (c_law : PySem.W.codeIn K cd_law "law" = true)
    (k_law : PySem.W.keepIn K (.ref f_law) = true)
    (q_LETTERS : PySem.W.nsIn K mainGlobals "LETTERS" = some (some (.str "abcdefghijklmnopqrstuvwxyz" t_LETTERS)))
    (q_NAME_SIGNS : PySem.W.nsIn K mainGlobals "NAME_SIGNS" = some (some (.str "abcdefghijklmnopqrstuvwxyz0123456789_" t_NAME_SIGNS)))
    (q_LONGEST_NAME : PySem.W.nsIn K mainGlobals "LONGEST_NAME" = some (some (.int 12 t_LONGEST_NAME)))
    (q_MOST_KINDS : PySem.W.nsIn K mainGlobals "MOST_KINDS" = some (some (.int 8 t_MOST_KINDS)))
    (q_MOST_MAKERS : PySem.W.nsIn K mainGlobals "MOST_MAKERS" = some (some (.int 24 t_MOST_MAKERS)))
    (q_MOST_NEEDS : PySem.W.nsIn K mainGlobals "MOST_NEEDS" = some (some (.int 3 t_MOST_NEEDS)))
    (q_MOST_PLACES : PySem.W.nsIn K mainGlobals "MOST_PLACES" = some (some (.int 4 t_MOST_PLACES)))
    (q_MOST_SIZE : PySem.W.nsIn K mainGlobals "MOST_SIZE" = some (some (.int 8 t_MOST_SIZE)))
    (z_int : PySem.W.nsIn K mainGlobals "int" = some none)
    (z_abs : PySem.W.nsIn K mainGlobals "abs" = some none)
    (z_divmod : PySem.W.nsIn K mainGlobals "divmod" = some none)
    (z_len : PySem.W.nsIn K mainGlobals "len" = some none)
    (z_all : PySem.W.nsIn K mainGlobals "all" = some none)
    (z_range : PySem.W.nsIn K mainGlobals "range" = some none)
    (z_max : PySem.W.nsIn K mainGlobals "max" = some none)
    (z_min : PySem.W.nsIn K mainGlobals "min" = some none)
    (z_repr : PySem.W.nsIn K mainGlobals "repr" = some none)
    (z_isinstance : PySem.W.nsIn K mainGlobals "isinstance" = some none)
    (z_verr : PySem.W.nsIn K mainGlobals "ValueError" = some none)
    (z_lerr : PySem.W.nsIn K mainGlobals "LookupError" = some none)
    (z_aerr : PySem.W.nsIn K mainGlobals "ArithmeticError" = some none)
    (z_terr : PySem.W.nsIn K mainGlobals "TypeError" = some none)
    (z_atterr : PySem.W.nsIn K mainGlobals "AttributeError" = some none)
    (z_rerr : PySem.W.nsIn K mainGlobals "RuntimeError" = some none)
    (z_serr : PySem.W.nsIn K mainGlobals "StopIteration" = some none)
    (z_enumerate : PySem.W.nsIn K mainGlobals "enumerate" = some none)
    (z_tuple : PySem.W.nsIn K mainGlobals "tuple" = some none)
    (z_str : PySem.W.nsIn K mainGlobals "str" = some none)
    (z_list : PySem.W.nsIn K mainGlobals "list" = some none)
    (z_bool : PySem.W.nsIn K mainGlobals "bool" = some none)
    (z_set : PySem.W.nsIn K mainGlobals "set" = some none)
    (z_sorted : PySem.W.nsIn K mainGlobals "sorted" = some none)
    (z_zip : PySem.W.nsIn K mainGlobals "zip" = some none)
    (z_sum : PySem.W.nsIn K mainGlobals "sum" = some none)
    (z_any : PySem.W.nsIn K mainGlobals "any" = some none) :
    ∃ fd : FuncData, (∀ (s : Shared) (u : Value), BindsTo s fd ⟨[u], []⟩ [("script", u)]) ∧ ∀ base : Heap, K.In base → base.Ns mainGlobals mg → Fn P w K mg base CX0 65 fa fd ["script"] (spLaw K) := by
  have e := hfa.symm.trans (PySem.W.mg_of X G a_law)
  cases e
  have F_is_whole := fun_mk (st := s_is_whole) l_is_whole c_is_whole k_is_whole
  have D_is_whole : Df K mg "is_whole" s_is_whole := ⟨_, _, PySem.W.mg_of X G a_is_whole, F_is_whole⟩
  have F_is_name := fun_mk (st := s_is_name) l_is_name c_is_name k_is_name
  have D_is_name : Df K mg "is_name" s_is_name := ⟨_, _, PySem.W.mg_of X G a_is_name, F_is_name⟩
  have F_is_tuple := fun_mk (st := s_is_tuple) l_is_tuple c_is_tuple k_is_tuple
  have D_is_tuple : Df K mg "is_tuple" s_is_tuple := ⟨_, _, PySem.W.mg_of X G a_is_tuple, F_is_tuple⟩
  have F_is_among := fun_mk (st := s_is_among) l_is_among c_is_among k_is_among
  have D_is_among : Df K mg "is_among" s_is_among := ⟨_, _, PySem.W.mg_of X G a_is_among, F_is_among⟩
  have F_are_unlike := fun_mk (st := s_are_unlike) l_are_unlike c_are_unlike k_are_unlike
  have D_are_unlike : Df K mg "are_unlike" s_are_unlike := ⟨_, _, PySem.W.mg_of X G a_are_unlike, F_are_unlike⟩
  have F_is_signature := fun_mk (st := s_is_signature) l_is_signature c_is_signature k_is_signature
  have D_is_signature : Df K mg "is_signature" s_is_signature := ⟨_, _, PySem.W.mg_of X G a_is_signature, F_is_signature⟩
  have F_are_kinds_told := fun_mk (st := s_are_kinds_told) l_are_kinds_told c_are_kinds_told k_are_kinds_told
  have D_are_kinds_told : Df K mg "are_kinds_told" s_are_kinds_told := ⟨_, _, PySem.W.mg_of X G a_are_kinds_told, F_are_kinds_told⟩
  have F_is_kind_told := fun_mk (st := s_is_kind_told) l_is_kind_told c_is_kind_told k_is_kind_told
  have D_is_kind_told : Df K mg "is_kind_told" s_is_kind_told := ⟨_, _, PySem.W.mg_of X G a_is_kind_told, F_is_kind_told⟩
  have F_are_makers_told := fun_mk (st := s_are_makers_told) l_are_makers_told c_are_makers_told k_are_makers_told
  have D_are_makers_told : Df K mg "are_makers_told" s_are_makers_told := ⟨_, _, PySem.W.mg_of X G a_are_makers_told, F_are_makers_told⟩
  have F_is_maker_told := fun_mk (st := s_is_maker_told) l_is_maker_told c_is_maker_told k_is_maker_told
  have D_is_maker_told : Df K mg "is_maker_told" s_is_maker_told := ⟨_, _, PySem.W.mg_of X G a_is_maker_told, F_is_maker_told⟩
  have F_have_terms := fun_mk (st := s_have_terms) l_have_terms c_have_terms k_have_terms
  have D_have_terms : Df K mg "have_terms" s_have_terms := ⟨_, _, PySem.W.mg_of X G a_have_terms, F_have_terms⟩
  have F_check_signature := fun_mk (st := s_check_signature) l_check_signature c_check_signature k_check_signature
  have D_check_signature : Df K mg "check_signature" s_check_signature := ⟨_, _, PySem.W.mg_of X G a_check_signature, F_check_signature⟩
  have F_check_kind := fun_mk (st := s_check_kind) l_check_kind c_check_kind k_check_kind
  have D_check_kind : Df K mg "check_kind" s_check_kind := ⟨_, _, PySem.W.mg_of X G a_check_kind, F_check_kind⟩
  have F_check_kinds := fun_mk (st := s_check_kinds) l_check_kinds c_check_kinds k_check_kinds
  have D_check_kinds : Df K mg "check_kinds" s_check_kinds := ⟨_, _, PySem.W.mg_of X G a_check_kinds, F_check_kinds⟩
  have F_kind_names := fun_mk (st := s_kind_names) l_kind_names c_kind_names k_kind_names
  have D_kind_names : Df K mg "kind_names" s_kind_names := ⟨_, _, PySem.W.mg_of X G a_kind_names, F_kind_names⟩
  have F_open_kinds := fun_mk (st := s_open_kinds) l_open_kinds c_open_kinds k_open_kinds
  have D_open_kinds : Df K mg "open_kinds" s_open_kinds := ⟨_, _, PySem.W.mg_of X G a_open_kinds, F_open_kinds⟩
  have F_makers_by_name := fun_mk (st := s_makers_by_name) l_makers_by_name c_makers_by_name k_makers_by_name
  have D_makers_by_name : Df K mg "makers_by_name" s_makers_by_name := ⟨_, _, PySem.W.mg_of X G a_makers_by_name, F_makers_by_name⟩
  have F_makers_by_kind := fun_mk (st := s_makers_by_kind) l_makers_by_kind c_makers_by_kind k_makers_by_kind
  have D_makers_by_kind : Df K mg "makers_by_kind" s_makers_by_kind := ⟨_, _, PySem.W.mg_of X G a_makers_by_kind, F_makers_by_kind⟩
  have F_terms := fun_mk (st := s_terms) l_terms c_terms k_terms
  have D_terms : Df K mg "terms" s_terms := ⟨_, _, PySem.W.mg_of X G a_terms, F_terms⟩
  have F_sizes_of_terms := fun_mk (st := s_sizes_of_terms) l_sizes_of_terms c_sizes_of_terms k_sizes_of_terms
  have D_sizes_of_terms : Df K mg "sizes_of_terms" s_sizes_of_terms := ⟨_, _, PySem.W.mg_of X G a_sizes_of_terms, F_sizes_of_terms⟩
  have F_splits := fun_mk (st := s_splits) l_splits c_splits k_splits
  have D_splits : Df K mg "splits" s_splits := ⟨_, _, PySem.W.mg_of X G a_splits, F_splits⟩
  have F_terms_of_size := fun_mk (st := s_terms_of_size) l_terms_of_size c_terms_of_size k_terms_of_size
  have D_terms_of_size : Df K mg "terms_of_size" s_terms_of_size := ⟨_, _, PySem.W.mg_of X G a_terms_of_size, F_terms_of_size⟩
  have F_is_term := fun_mk (st := s_is_term) l_is_term c_is_term k_is_term
  have D_is_term : Df K mg "is_term" s_is_term := ⟨_, _, PySem.W.mg_of X G a_is_term, F_is_term⟩
  have F_is_closed_term := fun_mk (st := s_is_closed_term) l_is_closed_term c_is_closed_term k_is_closed_term
  have D_is_closed_term : Df K mg "is_closed_term" s_is_closed_term := ⟨_, _, PySem.W.mg_of X G a_is_closed_term, F_is_closed_term⟩
  have F_is_stranger := fun_mk (st := s_is_stranger) l_is_stranger c_is_stranger k_is_stranger
  have D_is_stranger : Df K mg "is_stranger" s_is_stranger := ⟨_, _, PySem.W.mg_of X G a_is_stranger, F_is_stranger⟩
  have F_is_made := fun_mk (st := s_is_made) l_is_made c_is_made k_is_made
  have D_is_made : Df K mg "is_made" s_is_made := ⟨_, _, PySem.W.mg_of X G a_is_made, F_is_made⟩
  have F_are_patterns := fun_mk (st := s_are_patterns) l_are_patterns c_are_patterns k_are_patterns
  have D_are_patterns : Df K mg "are_patterns" s_are_patterns := ⟨_, _, PySem.W.mg_of X G a_are_patterns, F_are_patterns⟩
  have F_are_right_patterns := fun_mk (st := s_are_right_patterns) l_are_right_patterns c_are_right_patterns k_are_right_patterns
  have D_are_right_patterns : Df K mg "are_right_patterns" s_are_right_patterns := ⟨_, _, PySem.W.mg_of X G a_are_right_patterns, F_are_right_patterns⟩
  have F_is_variable := fun_mk (st := s_is_variable) l_is_variable c_is_variable k_is_variable
  have D_is_variable : Df K mg "is_variable" s_is_variable := ⟨_, _, PySem.W.mg_of X G a_is_variable, F_is_variable⟩
  have F__law_well := fun_mk (st := s_well) l__law_well c__law_well k__law_well
  have D__law_well : Df K mg "_law_well" s_well := ⟨_, _, PySem.W.mg_of X G a__law_well, F__law_well⟩
  have F__law_draw := fun_mk (st := s_draw) l__law_draw c__law_draw k__law_draw
  have D__law_draw : Df K mg "_law_draw" s_draw := ⟨_, _, PySem.W.mg_of X G a__law_draw, F__law_draw⟩
  have F__law_one := fun_mk (st := s_one) l__law_one c__law_one k__law_one
  have D__law_one : Df K mg "_law_one" s_one := ⟨_, _, PySem.W.mg_of X G a__law_one, F__law_one⟩
  have F__law_mixed := fun_mk (st := s_mixed) l__law_mixed c__law_mixed k__law_mixed
  have D__law_mixed : Df K mg "_law_mixed" s_mixed := ⟨_, _, PySem.W.mg_of X G a__law_mixed, F__law_mixed⟩
  have F__law_is_whole := fun_mk (st := s_lis_whole) l__law_is_whole c__law_is_whole k__law_is_whole
  have D__law_is_whole : Df K mg "_law_is_whole" s_lis_whole := ⟨_, _, PySem.W.mg_of X G a__law_is_whole, F__law_is_whole⟩
  have F__law_odd_thing := fun_mk (st := s_odd_thing) l__law_odd_thing c__law_odd_thing k__law_odd_thing
  have D__law_odd_thing : Df K mg "_law_odd_thing" s_odd_thing := ⟨_, _, PySem.W.mg_of X G a__law_odd_thing, F__law_odd_thing⟩
  have F__law_bent := fun_mk (st := s_bent) l__law_bent c__law_bent k__law_bent
  have D__law_bent : Df K mg "_law_bent" s_bent := ⟨_, _, PySem.W.mg_of X G a__law_bent, F__law_bent⟩
  have F__law_is_name := fun_mk (st := s_lis_name) l__law_is_name c__law_is_name k__law_is_name
  have D__law_is_name : Df K mg "_law_is_name" s_lis_name := ⟨_, _, PySem.W.mg_of X G a__law_is_name, F__law_is_name⟩
  have F__law_is_pair := fun_mk (st := s_is_pair) l__law_is_pair c__law_is_pair k__law_is_pair
  have D__law_is_pair : Df K mg "_law_is_pair" s_is_pair := ⟨_, _, PySem.W.mg_of X G a__law_is_pair, F__law_is_pair⟩
  have F__law_makers := fun_mk (st := s_makers) l__law_makers c__law_makers k__law_makers
  have D__law_makers : Df K mg "_law_makers" s_makers := ⟨_, _, PySem.W.mg_of X G a__law_makers, F__law_makers⟩
  have F__law_is_open := fun_mk (st := s_is_open) l__law_is_open c__law_is_open k__law_is_open
  have D__law_is_open : Df K mg "_law_is_open" s_is_open := ⟨_, _, PySem.W.mg_of X G a__law_is_open, F__law_is_open⟩
  have F__law_is_term_of := fun_mk (st := s_is_term_of) l__law_is_term_of c__law_is_term_of k__law_is_term_of
  have D__law_is_term_of : Df K mg "_law_is_term_of" s_is_term_of := ⟨_, _, PySem.W.mg_of X G a__law_is_term_of, F__law_is_term_of⟩
  have F__law_is_term := fun_mk (st := s_lis_term) l__law_is_term c__law_is_term k__law_is_term
  have D__law_is_term : Df K mg "_law_is_term" s_lis_term := ⟨_, _, PySem.W.mg_of X G a__law_is_term, F__law_is_term⟩
  have F__law_are_patterns := fun_mk (st := s_lare_patterns) l__law_are_patterns c__law_are_patterns k__law_are_patterns
  have D__law_are_patterns : Df K mg "_law_are_patterns" s_lare_patterns := ⟨_, _, PySem.W.mg_of X G a__law_are_patterns, F__law_are_patterns⟩
  have F__law_placed := fun_mk (st := s_placed) l__law_placed c__law_placed k__law_placed
  have D__law_placed : Df K mg "_law_placed" s_placed := ⟨_, _, PySem.W.mg_of X G a__law_placed, F__law_placed⟩
  have F__law_names := fun_mk (st := s_names) l__law_names c__law_names k__law_names
  have D__law_names : Df K mg "_law_names" s_names := ⟨_, _, PySem.W.mg_of X G a__law_names, F__law_names⟩
  have F__law_swapped := fun_mk (st := s_swapped) l__law_swapped c__law_swapped k__law_swapped
  have D__law_swapped : Df K mg "_law_swapped" s_swapped := ⟨_, _, PySem.W.mg_of X G a__law_swapped, F__law_swapped⟩
  have F__law_size := fun_mk (st := s_size) l__law_size c__law_size k__law_size
  have D__law_size : Df K mg "_law_size" s_size := ⟨_, _, PySem.W.mg_of X G a__law_size, F__law_size⟩
  have F__law_ways := fun_mk (st := s_ways) l__law_ways c__law_ways k__law_ways
  have D__law_ways : Df K mg "_law_ways" s_ways := ⟨_, _, PySem.W.mg_of X G a__law_ways, F__law_ways⟩
  have F__law_closed := fun_mk (st := s_closed) l__law_closed c__law_closed k__law_closed
  have D__law_closed : Df K mg "_law_closed" s_closed := ⟨_, _, PySem.W.mg_of X G a__law_closed, F__law_closed⟩
  have F__law_held := fun_mk (st := s_held) l__law_held c__law_held k__law_held
  have D__law_held : Df K mg "_law_held" s_held := ⟨_, _, PySem.W.mg_of X G a__law_held, F__law_held⟩
  have F__law_some_sig := fun_mk (st := s_some_sig) l__law_some_sig c__law_some_sig k__law_some_sig
  have D__law_some_sig : Df K mg "_law_some_sig" s_some_sig := ⟨_, _, PySem.W.mg_of X G a__law_some_sig, F__law_some_sig⟩
  have F__law_turned := fun_mk (st := s_turned) l__law_turned c__law_turned k__law_turned
  have D__law_turned : Df K mg "_law_turned" s_turned := ⟨_, _, PySem.W.mg_of X G a__law_turned, F__law_turned⟩
  have F__law_sig := fun_mk (st := s_sig) l__law_sig c__law_sig k__law_sig
  have D__law_sig : Df K mg "_law_sig" s_sig := ⟨_, _, PySem.W.mg_of X G a__law_sig, F__law_sig⟩
  have F__law_kinds := fun_mk (st := s_kinds) l__law_kinds c__law_kinds k__law_kinds
  have D__law_kinds : Df K mg "_law_kinds" s_kinds := ⟨_, _, PySem.W.mg_of X G a__law_kinds, F__law_kinds⟩
  have F__law_least := fun_mk (st := s_least) l__law_least c__law_least k__law_least
  have D__law_least : Df K mg "_law_least" s_least := ⟨_, _, PySem.W.mg_of X G a__law_least, F__law_least⟩
  have F__law_pattern := fun_mk (st := s_pattern) l__law_pattern c__law_pattern k__law_pattern
  have D__law_pattern : Df K mg "_law_pattern" s_pattern := ⟨_, _, PySem.W.mg_of X G a__law_pattern, F__law_pattern⟩
  have F__law_patterns := fun_mk (st := s_patterns) l__law_patterns c__law_patterns k__law_patterns
  have D__law_patterns : Df K mg "_law_patterns" s_patterns := ⟨_, _, PySem.W.mg_of X G a__law_patterns, F__law_patterns⟩
  have F__law_term := fun_mk (st := s_term) l__law_term c__law_term k__law_term
  have D__law_term : Df K mg "_law_term" s_term := ⟨_, _, PySem.W.mg_of X G a__law_term, F__law_term⟩
  have F__law_instance := fun_mk (st := s_instance) l__law_instance c__law_instance k__law_instance
  have D__law_instance : Df K mg "_law_instance" s_instance := ⟨_, _, PySem.W.mg_of X G a__law_instance, F__law_instance⟩
  have F__law_shuffled := fun_mk (st := s_shuffled) l__law_shuffled c__law_shuffled k__law_shuffled
  have D__law_shuffled : Df K mg "_law_shuffled" s_shuffled := ⟨_, _, PySem.W.mg_of X G a__law_shuffled, F__law_shuffled⟩
  have F__law_things := fun_mk (st := s_things) l__law_things c__law_things k__law_things
  have D__law_things : Df K mg "_law_things" s_things := ⟨_, _, PySem.W.mg_of X G a__law_things, F__law_things⟩
  have F__law_right := fun_mk (st := s_right) l__law_right c__law_right k__law_right
  have D__law_right : Df K mg "_law_right" s_right := ⟨_, _, PySem.W.mg_of X G a__law_right, F__law_right⟩
  have F_law := fun_mk (st := s_law) l_law c_law k_law
  have B : Bi mg := ⟨PySem.W.mg_none_of X G z_int, PySem.W.mg_none_of X G z_abs, PySem.W.mg_none_of X G z_divmod, PySem.W.mg_none_of X G z_len, PySem.W.mg_none_of X G z_all, PySem.W.mg_none_of X G z_range, PySem.W.mg_none_of X G z_max, PySem.W.mg_none_of X G z_min, PySem.W.mg_none_of X G z_repr, PySem.W.mg_none_of X G z_isinstance, PySem.W.mg_none_of X G z_verr, PySem.W.mg_none_of X G z_lerr, PySem.W.mg_none_of X G z_aerr, PySem.W.mg_none_of X G z_terr, PySem.W.mg_none_of X G z_atterr, PySem.W.mg_none_of X G z_rerr, PySem.W.mg_none_of X G z_serr, PySem.W.mg_none_of X G z_enumerate, PySem.W.mg_none_of X G z_tuple, PySem.W.mg_none_of X G z_str, PySem.W.mg_none_of X G z_list, PySem.W.mg_none_of X G z_bool, PySem.W.mg_none_of X G z_set, PySem.W.mg_none_of X G z_sorted⟩
  have Bz : mg "zip" = none := PySem.W.mg_none_of X G z_zip
  have Bs : mg "sum" = none := PySem.W.mg_none_of X G z_sum
  have Ba : mg "any" = none := PySem.W.mg_none_of X G z_any
  have C : Cn mg := ⟨⟨_, PySem.W.mg_of X G q_LETTERS, ⟨_, rfl⟩⟩, ⟨_, PySem.W.mg_of X G q_NAME_SIGNS, ⟨_, rfl⟩⟩, ⟨_, PySem.W.mg_of X G q_LONGEST_NAME, ⟨_, rfl⟩⟩, ⟨_, PySem.W.mg_of X G q_MOST_KINDS, ⟨_, rfl⟩⟩, ⟨_, PySem.W.mg_of X G q_MOST_MAKERS, ⟨_, rfl⟩⟩, ⟨_, PySem.W.mg_of X G q_MOST_NEEDS, ⟨_, rfl⟩⟩, ⟨_, PySem.W.mg_of X G q_MOST_PLACES, ⟨_, rfl⟩⟩, ⟨_, PySem.W.mg_of X G q_MOST_SIZE, ⟨_, rfl⟩⟩⟩
  refine ⟨PySem.W.fnOf "law" "law" (defArgs s_law) (defBody s_law) (defScope s_law) .none kV_law dc_law pm_law an_law cd_law ct_law, fun s u => .of_eq rfl, fun base _ _ => ?_⟩
  have G__law_well := ok_well (P := P) (w := w) (base := base) D__law_well B
  have G__law_draw := ok_draw (P := P) (w := w) (base := base) D__law_draw B
  have G__law_one := ok_one (P := P) (w := w) (base := base) D__law_one B G__law_draw
  have G_is_tuple := ok_is_tuple (P := P) (w := w) (base := base) D_is_tuple B
  have G_is_among := ok_is_among (P := P) (w := w) (base := base) D_is_among B
  have G_are_unlike := ok_are_unlike (P := P) (w := w) (base := base) D_are_unlike B
  have G_is_name := ok_is_name (P := P) (w := w) (base := base) D_is_name B C
  have G_is_kind_told := ok_is_kind_told (P := P) (w := w) (base := base) D_is_kind_told B C G_is_tuple G_is_name G_is_among
  have G_are_kinds_told := ok_are_kinds_told (P := P) (w := w) (base := base) D_are_kinds_told B C G_is_tuple G_is_name G_is_among G_are_unlike G_is_kind_told
  have G_is_maker_told := ok_is_maker_told (P := P) (w := w) (base := base) D_is_maker_told B C G_is_tuple G_is_name G_is_among
  have G_are_makers_told := ok_are_makers_told (P := P) (w := w) (base := base) D_are_makers_told B C G_is_tuple G_is_name G_is_among G_are_unlike G_is_maker_told
  have G_have_terms := ok_have_terms (P := P) (w := w) (base := base) D_have_terms B
  have G_is_signature := ok_is_signature (P := P) (w := w) (base := base) D_is_signature B G_is_tuple G_are_kinds_told G_are_makers_told G_have_terms
  have G_check_signature := ok_check_signature (P := P) (w := w) (base := base) D_check_signature G_is_signature
  have G_kind_names := ok_kind_names (P := P) (w := w) (base := base) D_kind_names
  have G_check_kind := ok_check_kind (P := P) (w := w) (base := base) D_check_kind G_is_among G_kind_names
  have G_makers_by_kind := ok_makers_by_kind (P := P) (w := w) (base := base) D_makers_by_kind G_kind_names
  have G__law_is_name := ok_lis_name (P := P) (w := w) (base := base) D__law_is_name B
  have G__law_is_pair := ok_is_pair (P := P) (w := w) (base := base) D__law_is_pair B
  have G_is_whole := ok_is_whole (P := P) (w := w) (base := base) D_is_whole B
  have G__law_is_whole := ok_lis_whole (P := P) (w := w) (base := base) D__law_is_whole B
  have G_is_stranger := ok_is_stranger (P := P) (w := w) (base := base) D_is_stranger G_is_tuple G_is_among G_is_whole
  have G_is_variable := ok_is_variable (P := P) (w := w) (base := base) D_is_variable G_is_tuple G_is_among G_is_name
  have G_open_kinds := ok_open_kinds (P := P) (w := w) (base := base) D_open_kinds
  have G_makers_by_name := ok_makers_by_name (P := P) (w := w) (base := base) D_makers_by_name
  have GD_is_among := ok_is_amongD (P := P) (w := w) (base := base) D_is_among B
  have G_is_made := ok_is_made (P := P) (w := w) (base := base) D_is_made B GD_is_among
  have G_is_closed_term := ok_is_closed_term (P := P) (w := w) (base := base) D_is_closed_term B Bz G_makers_by_name G_open_kinds G_is_stranger G_is_made
  have G_is_term := ok_is_term (P := P) (w := w) (base := base) D_is_term G_check_signature G_check_kind G_is_closed_term
  have G_check_kinds := ok_check_kinds (P := P) (w := w) (base := base) D_check_kinds B G_kind_names G_is_tuple G_is_among C
  have G_are_right_patterns := ok_are_right_patterns (P := P) (w := w) (base := base) D_are_right_patterns B Bz G_is_tuple G_makers_by_name G_is_variable G_is_made
  have G_are_patterns := ok_are_patterns (P := P) (w := w) (base := base) D_are_patterns G_check_signature G_check_kinds G_are_right_patterns
  have G__law_makers := ok_makers (P := P) (w := w) (base := base) D__law_makers
  have G__law_is_open := ok_is_open (P := P) (w := w) (base := base) D__law_is_open
  have GT31 := ok_is_term_of (P := P) (w := w) (base := base) D__law_is_term_of B Bz G__law_is_name G__law_is_open G__law_is_whole G__law_makers 31
  have G__law_is_term := ok_lis_term (P := P) (w := w) (base := base) D__law_is_term GT31
  have GP60 := ok_is_pat (P := P) (w := w) (base := base) D__law_is_term_of B Bz G__law_is_name G__law_is_open G__law_is_whole G__law_makers 60
  have GP40 := ok_is_pat (P := P) (w := w) (base := base) D__law_is_term_of B Bz G__law_is_name G__law_is_open G__law_is_whole G__law_makers 40
  have G__law_are_patterns := ok_lare_patterns (P := P) (w := w) (base := base) D__law_are_patterns B Bz GP60 G__law_is_pair
  have GS45 := ok_size (P := P) (w := w) (base := base) D__law_size B Bs 45
  have GS60 := ok_size (P := P) (w := w) (base := base) D__law_size B Bs 60
  have G__law_names := ok_names (P := P) (w := w) (base := base) D__law_names B 45
  have G__law_placed := ok_placed (P := P) (w := w) (base := base) D__law_placed B 45
  have G__law_swapped := ok_swapped (P := P) (w := w) (base := base) D__law_swapped B 45
  have GCW := ok_cw (P := P) (w := w) (base := base) D__law_ways D__law_closed B G__law_makers 47
  have G__law_held := ok_held (P := P) (w := w) (base := base) D__law_held B Bz GP40
  have G__law_least := ok_least (P := P) (w := w) (base := base) D__law_least B (gd_of D__law_least (fun _ _ _ _ _ _ us hl => match us, hl with | [_, _], _ => rfl) fun f fd F => fun_q F sc_least (fun vs H Q E h => (show False from h).elim) (fun cdv A outer s H vs Q E hr hq h => (show False from h).elim)) G__law_is_open GCW.2 G__law_makers
  have G__law_kinds := ok_kinds (P := P) (w := w) (base := base) D__law_kinds B G__law_draw G__law_one
  have GL_one := ok_oneL (P := P) (w := w) (base := base) D__law_one B G__law_draw
  have GT3 := ok_term (P := P) (w := w) (base := base) D__law_term B G__law_is_open G__law_draw G__law_makers G__law_least GL_one 3
  have GTA := ok_term_any (P := P) (w := w) (base := base) D__law_term B G__law_is_open G__law_draw G__law_makers G__law_least GL_one
  have G__law_mixed := ok_mixed (P := P) (w := w) (base := base) D__law_mixed B G__law_draw
  have G__law_some_sig := ok_some_sig (P := P) (w := w) (base := base) D__law_some_sig G__law_draw
  have G__law_turned := ok_turned (P := P) (w := w) (base := base) D__law_turned B G__law_mixed
  have G__law_sig := ok_lsig (P := P) (w := w) (base := base) D__law_sig G__law_turned G__law_some_sig
  have G__law_odd_thing := ok_odd (P := P) (w := w) (base := base) D__law_odd_thing B G__law_one
  have G__law_bent := ok_bent (Z := 1000) (P := P) (w := w) (base := base) D__law_bent B G__law_draw G__law_is_whole G__law_odd_thing
  have G__law_instance := ok_instance (P := P) (w := w) (base := base) D__law_instance B G__law_held GTA G__law_placed
  have GL_mixed := ok_mixedL (P := P) (w := w) (base := base) D__law_mixed B G__law_draw
  have G__law_shuffled := ok_shuffled (P := P) (w := w) (base := base) D__law_shuffled B G__law_names GL_mixed G__law_swapped
  have G_splits := ok_splits_all (P := P) (w := w) (base := base) D_splits B 4
  have G_sizes_of_terms := ok_sizes (P := P) (w := w) (base := base) D_sizes_of_terms B Ba G_splits
  have G_terms_of_size := ok_tos (P := P) (w := w) (base := base) D_terms_of_size B Bz G_splits 9
  have G_terms := ok_terms (P := P) (w := w) (base := base) D_terms B C G_check_signature G_check_kind G_is_whole G_makers_by_kind G_sizes_of_terms G_terms_of_size
  have G__law_pattern := ok_pattern (P := P) (w := w) (base := base) D__law_pattern B G__law_makers G__law_draw G__law_one GL_one 2
  have G__law_patterns := ok_patterns (P := P) (w := w) (base := base) D__law_patterns B Bs G__law_pattern GS45
  have G__law_things := ok_things (P := P) (w := w) (base := base) D__law_things B G__law_one G__law_least G__law_bent G__law_odd_thing
  have GK1 : GdK P w K mg base CX0 6 "is_term" ["signature", "kind", "value"] ["value", "kind", "signature"] rv3 rv3 spIsTerm := gdk_of D_is_term (fun _ _ _ _ _ _ us hl => match us, hl with | [_, _, _], _ => rfl | [], h => nomatch h | [_], h => nomatch h | [_, _], h => nomatch h | _ :: _ :: _ :: _ :: _, h => nomatch h) rv3_vals fun _ _ F => okF_is_term F G_check_signature G_check_kind G_is_closed_term
  have GK2 : GdK P w K mg base CX0 6 "are_patterns" ["signature", "kinds", "value"] ["value", "kinds", "signature"] rv3 rv3 spArePats := gdk_of D_are_patterns (fun _ _ _ _ _ _ us hl => match us, hl with | [_, _, _], _ => rfl | [], h => nomatch h | [_], h => nomatch h | [_, _], h => nomatch h | _ :: _ :: _ :: _ :: _, h => nomatch h) rv3_vals fun _ _ F => okF_are_patterns F G_check_signature G_check_kinds G_are_right_patterns
  have GK3 : GdK P w K mg base CX0 16 "terms" ["signature", "kind", "size"] ["size", "kind", "signature"] rv3 rv3 spTerms := gdk_of D_terms (fun _ _ _ _ _ _ us hl => match us, hl with | [_, _, _], _ => rfl | [], h => nomatch h | [_], h => nomatch h | [_, _], h => nomatch h | _ :: _ :: _ :: _ :: _, h => nomatch h) rv3_vals fun _ _ F => okF_terms F B C G_check_signature G_check_kind G_is_whole G_makers_by_kind G_sizes_of_terms G_terms_of_size
  have G__law_right := ok_right (P := P) (w := w) (base := base) D__law_right B Bs G__law_sig G__law_draw G__law_one G__law_things GT3 G__law_is_term G_is_term G__law_kinds G__law_patterns G__law_odd_thing G__law_instance G__law_shuffled G__law_bent G__law_are_patterns G_are_patterns GS60 G__law_makers GCW.2 G_terms GK1 GK2 GK3
  exact ok_law F_law B G__law_well G__law_right

end Q0
open PySem PySem.W PyProof.Rows
set_option maxRecDepth 100000 in
set_option maxHeartbeats 0 in
theorem PySem.Challenge.cw_instances_k03_terms_and_patterns_of_anyt_holds : PySem.Challenge.rw_instances_k03_terms_and_patterns_of_anyt.Holds := by
  w_on; o_law; k_head; (case hw => w_witness2)
  k_fill
  refine Q0.walk_end (l := PySem.Challenge.rw_instances_k03_terms_and_patterns_of_anyt) (k := 65) (x := "script") rfl rfl ⟨rfl, by decide, by decide⟩ (fun w h Y => PySem.W.kIn_of Y) ?F
  case F =>
    intro w mg fa h KX G hmg
    refine' Q0.all_mk KX G hmg ?a_is_whole ?l_is_whole ?c_is_whole ?k_is_whole ?a_is_name ?l_is_name ?c_is_name ?k_is_name ?a_is_tuple ?l_is_tuple ?c_is_tuple ?k_is_tuple ?a_is_among ?l_is_among ?c_is_among ?k_is_among ?a_are_unlike ?l_are_unlike ?c_are_unlike ?k_are_unlike ?a_is_signature ?l_is_signature ?c_is_signature ?k_is_signature ?a_are_kinds_told ?l_are_kinds_told ?c_are_kinds_told ?k_are_kinds_told ?a_is_kind_told ?l_is_kind_told ?c_is_kind_told ?k_is_kind_told ?a_are_makers_told ?l_are_makers_told ?c_are_makers_told ?k_are_makers_told ?a_is_maker_told ?l_is_maker_told ?c_is_maker_told ?k_is_maker_told ?a_have_terms ?l_have_terms ?c_have_terms ?k_have_terms ?a_check_signature ?l_check_signature ?c_check_signature ?k_check_signature ?a_check_kind ?l_check_kind ?c_check_kind ?k_check_kind ?a_check_kinds ?l_check_kinds ?c_check_kinds ?k_check_kinds ?a_kind_names ?l_kind_names ?c_kind_names ?k_kind_names ?a_open_kinds ?l_open_kinds ?c_open_kinds ?k_open_kinds ?a_makers_by_name ?l_makers_by_name ?c_makers_by_name ?k_makers_by_name ?a_makers_by_kind ?l_makers_by_kind ?c_makers_by_kind ?k_makers_by_kind ?a_terms ?l_terms ?c_terms ?k_terms ?a_sizes_of_terms ?l_sizes_of_terms ?c_sizes_of_terms ?k_sizes_of_terms ?a_splits ?l_splits ?c_splits ?k_splits ?a_terms_of_size ?l_terms_of_size ?c_terms_of_size ?k_terms_of_size ?a_is_term ?l_is_term ?c_is_term ?k_is_term ?a_is_closed_term ?l_is_closed_term ?c_is_closed_term ?k_is_closed_term ?a_is_stranger ?l_is_stranger ?c_is_stranger ?k_is_stranger ?a_is_made ?l_is_made ?c_is_made ?k_is_made ?a_are_patterns ?l_are_patterns ?c_are_patterns ?k_are_patterns ?a_are_right_patterns ?l_are_right_patterns ?c_are_right_patterns ?k_are_right_patterns ?a_is_variable ?l_is_variable ?c_is_variable ?k_is_variable ?a__law_well ?l__law_well ?c__law_well ?k__law_well ?a__law_draw ?l__law_draw ?c__law_draw ?k__law_draw ?a__law_one ?l__law_one ?c__law_one ?k__law_one ?a__law_mixed ?l__law_mixed ?c__law_mixed ?k__law_mixed ?a__law_is_whole ?l__law_is_whole ?c__law_is_whole ?k__law_is_whole ?a__law_odd_thing ?l__law_odd_thing ?c__law_odd_thing ?k__law_odd_thing ?a__law_bent ?l__law_bent ?c__law_bent ?k__law_bent ?a__law_is_name ?l__law_is_name ?c__law_is_name ?k__law_is_name ?a__law_is_pair ?l__law_is_pair ?c__law_is_pair ?k__law_is_pair ?a__law_makers ?l__law_makers ?c__law_makers ?k__law_makers ?a__law_is_open ?l__law_is_open ?c__law_is_open ?k__law_is_open ?a__law_is_term_of ?l__law_is_term_of ?c__law_is_term_of ?k__law_is_term_of ?a__law_is_term ?l__law_is_term ?c__law_is_term ?k__law_is_term ?a__law_are_patterns ?l__law_are_patterns ?c__law_are_patterns ?k__law_are_patterns ?a__law_placed ?l__law_placed ?c__law_placed ?k__law_placed ?a__law_names ?l__law_names ?c__law_names ?k__law_names ?a__law_swapped ?l__law_swapped ?c__law_swapped ?k__law_swapped ?a__law_size ?l__law_size ?c__law_size ?k__law_size ?a__law_ways ?l__law_ways ?c__law_ways ?k__law_ways ?a__law_closed ?l__law_closed ?c__law_closed ?k__law_closed ?a__law_held ?l__law_held ?c__law_held ?k__law_held ?a__law_some_sig ?l__law_some_sig ?c__law_some_sig ?k__law_some_sig ?a__law_turned ?l__law_turned ?c__law_turned ?k__law_turned ?a__law_sig ?l__law_sig ?c__law_sig ?k__law_sig ?a__law_kinds ?l__law_kinds ?c__law_kinds ?k__law_kinds ?a__law_least ?l__law_least ?c__law_least ?k__law_least ?a__law_pattern ?l__law_pattern ?c__law_pattern ?k__law_pattern ?a__law_patterns ?l__law_patterns ?c__law_patterns ?k__law_patterns ?a__law_term ?l__law_term ?c__law_term ?k__law_term ?a__law_instance ?l__law_instance ?c__law_instance ?k__law_instance ?a__law_shuffled ?l__law_shuffled ?c__law_shuffled ?k__law_shuffled ?a__law_things ?l__law_things ?c__law_things ?k__law_things ?a__law_right ?l__law_right ?c__law_right ?k__law_right ?a_law ?l_law ?c_law ?k_law ?q_LETTERS ?q_NAME_SIGNS ?q_LONGEST_NAME ?q_MOST_KINDS ?q_MOST_MAKERS ?q_MOST_NEEDS ?q_MOST_PLACES ?q_MOST_SIZE ?z_int ?z_abs ?z_divmod ?z_len ?z_all ?z_range ?z_max ?z_min ?z_repr ?z_isinstance ?z_verr ?z_lerr ?z_aerr ?z_terr ?z_atterr ?z_rerr ?z_serr ?z_enumerate ?z_tuple ?z_str ?z_list ?z_bool ?z_set ?z_sorted ?z_zip ?z_sum ?z_any
    (case a_is_whole => k_is); (case l_is_whole => k_is); (case c_is_whole => k_is); (case k_is_whole => k_is); (case a_is_name => k_is); (case l_is_name => k_is); (case c_is_name => k_is); (case k_is_name => k_is); (case a_is_tuple => k_is); (case l_is_tuple => k_is); (case c_is_tuple => k_is); (case k_is_tuple => k_is); (case a_is_among => k_is); (case l_is_among => k_is); (case c_is_among => k_is); (case k_is_among => k_is); (case a_are_unlike => k_is); (case l_are_unlike => k_is); (case c_are_unlike => k_is); (case k_are_unlike => k_is); (case a_is_signature => k_is); (case l_is_signature => k_is); (case c_is_signature => k_is); (case k_is_signature => k_is); (case a_are_kinds_told => k_is); (case l_are_kinds_told => k_is); (case c_are_kinds_told => k_is); (case k_are_kinds_told => k_is); (case a_is_kind_told => k_is); (case l_is_kind_told => k_is); (case c_is_kind_told => k_is); (case k_is_kind_told => k_is); (case a_are_makers_told => k_is); (case l_are_makers_told => k_is); (case c_are_makers_told => k_is); (case k_are_makers_told => k_is); (case a_is_maker_told => k_is); (case l_is_maker_told => k_is); (case c_is_maker_told => k_is); (case k_is_maker_told => k_is); (case a_have_terms => k_is); (case l_have_terms => k_is); (case c_have_terms => k_is); (case k_have_terms => k_is); (case a_check_signature => k_is); (case l_check_signature => k_is); (case c_check_signature => k_is); (case k_check_signature => k_is); (case a_check_kind => k_is); (case l_check_kind => k_is); (case c_check_kind => k_is); (case k_check_kind => k_is); (case a_check_kinds => k_is); (case l_check_kinds => k_is); (case c_check_kinds => k_is); (case k_check_kinds => k_is); (case a_kind_names => k_is); (case l_kind_names => k_is); (case c_kind_names => k_is); (case k_kind_names => k_is); (case a_open_kinds => k_is); (case l_open_kinds => k_is); (case c_open_kinds => k_is); (case k_open_kinds => k_is); (case a_makers_by_name => k_is); (case l_makers_by_name => k_is); (case c_makers_by_name => k_is); (case k_makers_by_name => k_is); (case a_makers_by_kind => k_is); (case l_makers_by_kind => k_is); (case c_makers_by_kind => k_is); (case k_makers_by_kind => k_is); (case a_terms => k_is); (case l_terms => k_is); (case c_terms => k_is); (case k_terms => k_is); (case a_sizes_of_terms => k_is); (case l_sizes_of_terms => k_is); (case c_sizes_of_terms => k_is); (case k_sizes_of_terms => k_is); (case a_splits => k_is); (case l_splits => k_is); (case c_splits => k_is); (case k_splits => k_is); (case a_terms_of_size => k_is); (case l_terms_of_size => k_is); (case c_terms_of_size => k_is); (case k_terms_of_size => k_is); (case a_is_term => k_is); (case l_is_term => k_is); (case c_is_term => k_is); (case k_is_term => k_is); (case a_is_closed_term => k_is); (case l_is_closed_term => k_is); (case c_is_closed_term => k_is); (case k_is_closed_term => k_is); (case a_is_stranger => k_is); (case l_is_stranger => k_is); (case c_is_stranger => k_is); (case k_is_stranger => k_is); (case a_is_made => k_is); (case l_is_made => k_is); (case c_is_made => k_is); (case k_is_made => k_is); (case a_are_patterns => k_is); (case l_are_patterns => k_is); (case c_are_patterns => k_is); (case k_are_patterns => k_is); (case a_are_right_patterns => k_is); (case l_are_right_patterns => k_is); (case c_are_right_patterns => k_is); (case k_are_right_patterns => k_is); (case a_is_variable => k_is); (case l_is_variable => k_is); (case c_is_variable => k_is); (case k_is_variable => k_is); (case a__law_well => k_is); (case l__law_well => k_is); (case c__law_well => k_is); (case k__law_well => k_is); (case a__law_draw => k_is); (case l__law_draw => k_is); (case c__law_draw => k_is); (case k__law_draw => k_is); (case a__law_one => k_is); (case l__law_one => k_is); (case c__law_one => k_is); (case k__law_one => k_is); (case a__law_mixed => k_is); (case l__law_mixed => k_is); (case c__law_mixed => k_is); (case k__law_mixed => k_is); (case a__law_is_whole => k_is); (case l__law_is_whole => k_is); (case c__law_is_whole => k_is); (case k__law_is_whole => k_is); (case a__law_odd_thing => k_is); (case l__law_odd_thing => k_is); (case c__law_odd_thing => k_is); (case k__law_odd_thing => k_is); (case a__law_bent => k_is); (case l__law_bent => k_is); (case c__law_bent => k_is); (case k__law_bent => k_is); (case a__law_is_name => k_is); (case l__law_is_name => k_is); (case c__law_is_name => k_is); (case k__law_is_name => k_is); (case a__law_is_pair => k_is); (case l__law_is_pair => k_is); (case c__law_is_pair => k_is); (case k__law_is_pair => k_is); (case a__law_makers => k_is); (case l__law_makers => k_is); (case c__law_makers => k_is); (case k__law_makers => k_is); (case a__law_is_open => k_is); (case l__law_is_open => k_is); (case c__law_is_open => k_is); (case k__law_is_open => k_is); (case a__law_is_term_of => k_is); (case l__law_is_term_of => k_is); (case c__law_is_term_of => k_is); (case k__law_is_term_of => k_is); (case a__law_is_term => k_is); (case l__law_is_term => k_is); (case c__law_is_term => k_is); (case k__law_is_term => k_is); (case a__law_are_patterns => k_is); (case l__law_are_patterns => k_is); (case c__law_are_patterns => k_is); (case k__law_are_patterns => k_is); (case a__law_placed => k_is); (case l__law_placed => k_is); (case c__law_placed => k_is); (case k__law_placed => k_is); (case a__law_names => k_is); (case l__law_names => k_is); (case c__law_names => k_is); (case k__law_names => k_is); (case a__law_swapped => k_is); (case l__law_swapped => k_is); (case c__law_swapped => k_is); (case k__law_swapped => k_is); (case a__law_size => k_is); (case l__law_size => k_is); (case c__law_size => k_is); (case k__law_size => k_is); (case a__law_ways => k_is); (case l__law_ways => k_is); (case c__law_ways => k_is); (case k__law_ways => k_is); (case a__law_closed => k_is); (case l__law_closed => k_is); (case c__law_closed => k_is); (case k__law_closed => k_is); (case a__law_held => k_is); (case l__law_held => k_is); (case c__law_held => k_is); (case k__law_held => k_is); (case a__law_some_sig => k_is); (case l__law_some_sig => k_is); (case c__law_some_sig => k_is); (case k__law_some_sig => k_is); (case a__law_turned => k_is); (case l__law_turned => k_is); (case c__law_turned => k_is); (case k__law_turned => k_is); (case a__law_sig => k_is); (case l__law_sig => k_is); (case c__law_sig => k_is); (case k__law_sig => k_is); (case a__law_kinds => k_is); (case l__law_kinds => k_is); (case c__law_kinds => k_is); (case k__law_kinds => k_is); (case a__law_least => k_is); (case l__law_least => k_is); (case c__law_least => k_is); (case k__law_least => k_is); (case a__law_pattern => k_is); (case l__law_pattern => k_is); (case c__law_pattern => k_is); (case k__law_pattern => k_is); (case a__law_patterns => k_is); (case l__law_patterns => k_is); (case c__law_patterns => k_is); (case k__law_patterns => k_is); (case a__law_term => k_is); (case l__law_term => k_is); (case c__law_term => k_is); (case k__law_term => k_is); (case a__law_instance => k_is); (case l__law_instance => k_is); (case c__law_instance => k_is); (case k__law_instance => k_is); (case a__law_shuffled => k_is); (case l__law_shuffled => k_is); (case c__law_shuffled => k_is); (case k__law_shuffled => k_is); (case a__law_things => k_is); (case l__law_things => k_is); (case c__law_things => k_is); (case k__law_things => k_is); (case a__law_right => k_is); (case l__law_right => k_is); (case c__law_right => k_is); (case k__law_right => k_is); (case a_law => k_is); (case l_law => k_is); (case c_law => k_is); (case k_law => k_is); (case q_LETTERS => k_is); (case q_NAME_SIGNS => k_is); (case q_LONGEST_NAME => k_is); (case q_MOST_KINDS => k_is); (case q_MOST_MAKERS => k_is); (case q_MOST_NEEDS => k_is); (case q_MOST_PLACES => k_is); (case q_MOST_SIZE => k_is); (case z_int => k_is); (case z_abs => k_is); (case z_divmod => k_is); (case z_len => k_is); (case z_all => k_is); (case z_range => k_is); (case z_max => k_is); (case z_min => k_is); (case z_repr => k_is); (case z_isinstance => k_is); (case z_verr => k_is); (case z_lerr => k_is); (case z_aerr => k_is); (case z_terr => k_is); (case z_atterr => k_is); (case z_rerr => k_is); (case z_serr => k_is); (case z_enumerate => k_is); (case z_tuple => k_is); (case z_str => k_is); (case z_list => k_is); (case z_bool => k_is); (case z_set => k_is); (case z_sorted => k_is); (case z_zip => k_is); (case z_sum => k_is); (case z_any => k_is)
