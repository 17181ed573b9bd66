import PyProof.Rows.All
import Wide.All
import OpenK.AllK
import Wide.FinOn
import PyProof.EqAt
import PyProof.EqKinds
import PyProof.TupleCall
import HandS.ForExc
import HandS.ForMost
import PyProof.ReprRoads
import KE.KExcPX
import KE.KExcInit
import KE.KExcIs
import HandS.ExcInit
import HandS.IsInst
import HandS.Strs
import HandS.SetFor
import HandS.Iter
import HandS.Walk
import KE.GoesMore
import HandS.DictComp
import HandS.Star
import HandS.Property
import HandS.SetKeys
import HandS.Zip
import HandS.TupAny
import HandS.DictTup
import HandS.ExcField
import HandS.ExcIs
import HandS.Codes
import PySem.Challenge.RW_deadrules_k02_document_texts_refused
set_option Elab.async false
set_option linter.all false
set_option maxRecDepth 100000
set_option maxHeartbeats 8000000
/-! A def's promise where no repr is under way (the guards are known to be empty). -/
namespace DR
open PySem PySem.Spec PyProof.Rows L2
/-- no repr is under way around -/
def Idle (A : Around) : Prop := A.guards = some []
theorem Idle.deep {A : Around} (h : Idle A) (env : Env) : Idle (A.deeper env) := h
theorem Idle.one {A : Around} (h : Idle A) : Idle A.in1 := h
/-- FnOk, but only where no repr is under way -/
structure FnI (P : Program) (w : World) (K : PySem.W.Frag) (mg : Str → Option Value) (base : Heap) (C0 : CXT) (k : Nat) (f : Addr) (fd : FuncData) (ps : List Str) (sp : Sp) : Prop where
  size : ∀ vs H Q E, sp vs H Q E → vs.length = ps.length
  goes : ∀ (A : Around) (out : List Env) (s : Shared) (H : Hp) (args : Args) (us : List Value) (vs : List V) (Q : VK) (E : XK), Idle A →
    Room k A → Env0 P w K mg base A out s H → BindsTo s fd args (ps.zip us) → Vals vs us → sp vs H Q E →
      codeAny (model P w) A (.call (.ref f) args) (CR C0 out P w H s Q E) s
section
variable {P : Program} {w : World} {K : PySem.W.Frag} {mg : Str → Option Value} {base : Heap} {C0 : CXT} {k : Nat} {f : Addr} {fd : FuncData} {ps : List Str} {sp : Sp}
theorem FnI.any (F : FnOk P w K mg base C0 k f fd ps sp) : FnI P w K mg base C0 k f fd ps sp :=
  { size := F.len, goes := fun A out s H args us vs Q E _ hr e hb hv hs => F.run A out s H args us vs Q E hr e hb hv hs }
theorem FnI.up {j : Nat} (F : FnI P w K mg base C0 j f fd ps sp) (h : j ≤ k) : FnI P w K mg base C0 k f fd ps sp :=
  { size := F.size, goes := fun A out s H args us vs Q E hi hr => F.goes A out s H args us vs Q E hi (hr.mono h) }
end
/-- a def of the text by its body, the guards known -/
theorem fnI_of {C0 : CXT} {P : Program} {w : World} {K : PySem.W.Frag} {mg : Str → Option Value} {base : Heap} {k : Nat} {f : Addr} {fd : FuncData} {x qual : Str} {st : Stmt}
    {N ps : List Str} {sp : Sp} (F : Fun K x qual st f fd) (S : FnScope N ps (defScope st)) (size : ∀ vs H Q E, sp vs H Q E → vs.length = ps.length)
    (body : ∀ (cdv : Value) (A : Around) (out : List Env) (s : Shared) (H : Hp) (vs : List V) (Q : VK) (E : XK), Idle (A.deeper (envOfC qual (defScope st) s.heap.objs.size f cdv)) →
      Room k (A.deeper (envOfC qual (defScope st) s.heap.objs.size f cdv)) → sp vs H Q E →
        ∃ t, PSs (cxOf C0 P w K mg base N qual (defScope st) f cdv A out s H E) (defBody st) t ∧ t { nx := fun _ H' => Q .non H', rt := Q } (start N vs) H) :
    FnI P w K mg base C0 (k + 1) f fd ps sp := by
  obtain ⟨oc, od, kV, doc, pm, an, cdv, ct, osl, rfl, lk, hcd⟩ := F.ex
  refine { size := size, goes := fun A out s H args us vs Q E hi hr e0 hb rv hsp => ?_ }
  have keepB : ∀ b o, base.get? b = some o → s.heap.get? b = some o := fun b o e => (e0.bs b o e).1
  have KX : K.In s.heap := e0.mod.kin.keeps keepB
  have lim : s.heap.NoLimit := e0.mod.nolimit.keeps keepB
  have kinds : ∀ y ∈ ps.zip us, (defScope st).names.lookup y.1 = some .local ∨
      ((defScope st).names.lookup y.1 = some .cell ∧ ((cellsFrom (s.heap.objs.size + 1) (defScope st).names []).lookup y.1).isSome = true) := by
    rintro ⟨n, v⟩ hy
    cases S.par n (List.of_mem_zip hy).1 with
    | inl q => exact .inl q
    | inr q => exact .inr ⟨q, PySem.W.cellsFrom_some _ _ _ (.inl q)⟩
  refine codeAny_call_function hr.depth (KX _ _ lk) rfl S.co S.gen rfl
    (PySem.W.codeRec_of KX hcd) (hb _ _ _ _ ?_)
  refine wpAny_newFunctionEnv_cells S.kind kinds fun env he s1 x => ?_
  subst he
  refine ⟨lim.keeps x.toInCall.keep, codeAny_func ?_⟩
  obtain ⟨t, ht, q⟩ := body cdv A out s H vs Q E (hi.deep _) (hr.deeper _) hsp
  have I := inv_start (CX := C0) (P := P) (w := w) (mg := mg) (E := E) (cd := cdv) (f := f) (qual := qual) S hr.hd e0 (size _ _ _ _ hsp) rv x
  refine wpAny_mono (ht.run [] s1 (start N vs) H _ I q) (fun fl s' hs => ?_) fun _ _ hs => hs
  cases fl with
  | ret u => exact let ⟨v, _, H', J, r, q'⟩ := hs; ⟨v, H', J.os, J.bare, J.base, J.hok, r, q'⟩
  | next => exact let ⟨_, H', J, q'⟩ := hs; ⟨V.non, H', J.os, J.bare, J.base, J.hok, rfl, q'⟩
  | brk => exact let ⟨_, _, _, q'⟩ := hs; q'.elim
  | cont => exact let ⟨_, _, _, q'⟩ := hs; q'.elim
section
variable {X : Cx} {C0 : CXT} {k : Nat} {f : Addr} {fd : FuncData} {ps : List Str} {sp : Sp} {dvs : List V} {ds : List Value} {E : XK} {x : Str} {p pos : Pos} {e : Expr} {es : List Expr} {t : TA}
theorem runI {pins : List (Addr × Obj)} {σ : L2.St} {H : Hp} {s : Shared} {Q : VK} {us : List Value} {vs : List V} (F : FnI X.prog X.w X.K X.mg X.base C0 k f fd ps sp) (hi : Idle X.A) (hr : Room k X.A)
    (hb : Binds X.K fd ps ds) (hd : Vals dvs ds) (hx : Passes C0 X E) (I : Inv X pins σ H s) (r : Vals vs us)
    (h : sp (vs ++ dvs) H Q E) : wpAny (model X.prog X.w) X.A (call (.ref f) us) (EP X pins σ Q) X.xe s := by
  have rr := r.append hd
  have nl : (us ++ ds).length = ps.length := rr.length.symm.trans (F.size _ _ _ _ h)
  have go := F.goes X.A X.stack s H ⟨us, []⟩ _ _ Q E hi hr I.env0 (hb s us I.kIn nl) rr h
  refine wpAny_call (codeAny_mono go fun res s' hq => ?_)
  match res, hq with
  | .error er, hq => exact hx pins σ H s er s' I hq
  | .ok (.ret u), hq => exact I.after hq
  | .ok .next, hq => exact hq.elim
  | .ok .brk, hq => exact hq.elim
  | .ok .cont, hq => exact hq.elim
/-- f(e, ..) -/
theorem pe_callI (F : FnI X.prog X.w X.K X.mg X.base C0 k f fd ps sp) (hi : Idle X.A) (hr : Room k X.A) (hg : Gl X x)
    (hm : X.mg x = some (.ref f)) (hk : PySem.W.keepIn X.K (.ref f) = true) (hb : Binds X.K fd ps ds) (hd : Vals dvs ds) (hx : Passes C0 X E)
    (ha : PA X (e :: es) t) (hdb : (x == ("__debug__" : Str)) = false := by decide)
    (he : starEach (e :: es) X.env = (false, eval e X.env) :: starEach es X.env := by rfl)
    (hpl : (backTo pos (starEach es X.env)).any (·.1) = false := by rfl) :
    PE X (.Call (.Name x p) (e :: es) [] pos) (tCall sp dvs E t) := by
  constructor
  intro pins s σ H Q I h
  apply wpAny_Call_Name_kw
  refine ld_glob I hg hm ?_ hdb
  refine PySem.W.callWith_K (h₀ := X.base) I.mod.kin hk (thn (ha.run pos pins s σ H _ I h) ?_) he hpl
  rintro us s1 ⟨vs, H1, I1, r, q⟩
  exact ⟨I1.kIn, runI F hi hr hb hd hx I1 r q⟩
end

/-! ### the law's own call -/
/-- what law_call asks of the abstract heap at the law's entry -/
structure Fit (P : Program) (w : World) (K : PySem.W.Frag) (H : Hp) (h : Heap) (a : Addr) (ob : Obj) (xs : List V) : Prop where
  only : Only H
  list : SqL K H a xs
  held : HOk P w H h
  one : ∀ b, b ≠ a → H b = none
  mine : ∀ o xs', H a = some (.frz o (.lst xs')) → o = ob
  own : H a ≠ none → K.lookup a = none
theorem fit_of {P : Program} {w : World} {K : PySem.W.Frag} {h : Heap} {a : Addr} {vs : List Value} {ns : List Int} (KX : K.In h)
    (ha : h.get? a = some { cls := .type "list", data := .seq vs.toArray }) (hi : IntsAre vs ns) (hl : ns.length ≤ sizeLine) :
    ∃ H : Hp, Fit P w K H h a { cls := .type "list", data := .seq vs.toArray } (ns.map V.int) := by
  have rv := vals_ints hi
  have ln : vs.length = ns.length := hi.length
  by_cases hk : K.lookup a = none
  · refine ⟨fun b => if b = a then some (.frz { cls := .type "list", data := .seq vs.toArray } (.lst (ns.map V.int))) else none, { only := ?_, list := ?_, held := ?_, one := ?_, mine := ?_, own := ?_ }⟩
    · intro b
      by_cases e : b = a
      · exact .inr ⟨_, _, if_pos e⟩
      · exact .inl (if_neg e)
    · exact .inl (.inr ⟨_, if_pos rfl⟩)
    · intro b u z
      by_cases e : b = a
      · subst e
        obtain rfl := Option.some.inj ((if_pos rfl).symm.trans z)
        refine ⟨ha, ?_, vs, _, rv, ha⟩
        rw [List.length_map]
        exact hl
      · exact nomatch (if_neg e).symm.trans z
    · exact fun b e => if_neg e
    · intro o xs' z
      injection (if_pos rfl).symm.trans z with z1
      injection z1 with z2
      exact z2.symm
    · exact fun _ => hk
  · obtain ⟨o, hk⟩ := Option.ne_none_iff_exists'.mp hk
    obtain rfl : o = _ := Option.some.inj ((KX a o hk).symm.trans ha)
    refine ⟨fun _ => none, { only := fun _ => .inl rfl, list := .inr ⟨_, vs.toArray, _, hk, rfl, rfl, rfl, ?_, by simpa using rv⟩, held := (fun _ _ z => (nomatch z)), one := (fun _ _ => rfl), mine := (fun _ _ z => (nomatch z)), own := (fun z => absurd rfl z) }⟩
    rw [List.size_toArray, ln]
    exact hl
theorem law_callI {P : Program} {w : World} {K : PySem.W.Frag} {mg mb : Str → Option Value} {C0 : CXT} {k : Nat} {fa a : Addr} {fd : FuncData} {x : Str} {sp : Sp} {s₁ : Shared} {vs : List Value} {ns : List Int}
    (KX : K.In s₁.heap) (hns : s₁.heap.Ns mainGlobals mg) (hb : s₁.heap.Ns builtinsNs mb) (hbb : ∀ x : Str, x ≠ "__name__" → mb x = bootBuiltins x)
    (hlim : s₁.heap.NoLimit) (hg : s₁.gens = #[]) (ha : s₁.heap.get? a = some { cls := .type "list", data := .seq vs.toArray })
    (hi : IntsAre vs ns) (hl : ns.length ≤ sizeLine) (hr : Room k callerA)
    (F : ∀ base : Heap, K.In base → base.Ns mainGlobals mg → FnI P w K mg base C0 k fa fd [x] sp) (hbind : ∀ (s : Shared) (u : Value), BindsTo s fd ⟨[u], []⟩ [(x, u)])
    (hsp : ∀ H : Hp, Only H → SqL K H a (ns.map V.int) → sp [.ref a] H (fun v _ => v = .bl true) fun _ _ _ => False)
    (hC0 : ∀ H e s', C0 [] H s₁ (fun _ _ _ => False) e s' → False) :
    codeAny (model P w) callerA (.call (.ref fa) ⟨[.ref a], []⟩) (fun r s' => r = .ok (.ret (.bool true)) ∧ OldK s₁.heap s'.heap ∧ s'.os = s₁.os ∧ AllBare s'.gens) s₁ := by
  obtain ⟨H, T⟩ := fit_of (P := P) (w := w) KX ha hi hl
  have at_a : ∀ {b : Addr}, H b ≠ none → b = a := fun {b} z => Classical.byContradiction fun e => z (T.one b e)
  have toB : ∀ {b : Addr} {o : Obj}, s₁.heap.get? b = some o → (H b ≠ none → False) → (hidT s₁.heap H).get? b = some o := fun {b o} e n => by
    refine hidT_get e ?_
    cases q : H b with
    | none => rfl
    | some u => exact (n (by rw [q]; exact fun z => nomatch z)).elim
  have ns' : ∀ {b : Addr} {m : Str → Option Value}, s₁.heap.Ns b m → (hidT s₁.heap H).Ns b m := by
    rintro b m ⟨o, es, ep, e, d, r⟩
    refine ⟨o, es, ep, toB e fun z => ?_, d, r⟩
    rw [at_a z, ha] at e
    obtain rfl := Option.some.inj e
    exact nomatch d
  have inB : K.In (hidT s₁.heap H) := fun b o e => toB (KX b o e) fun z => by
    have z1 := at_a z
    subst z1
    exact nomatch (T.own z).symm.trans e
  have mod : Mod K mg (hidT s₁.heap H) := { kin := inB, glob := ns' hns, blt := ⟨mb, ns' hb, hbb⟩, nolimit := let ⟨mc, h1, h2⟩ := hlim; ⟨mc, ns' h1, h2⟩ }
  have e0 : Env0 P w K mg (hidT s₁.heap H) callerA [] s₁ H :=
    { frames := rfl, mod := mod, bs := fun _ _ e => of_hidT e, bsz := Nat.le_of_eq (hidT_size _ _), funs := trivial, frf := fun _ z => (nomatch z), hok := T.held, bare := .of_eq hg }
  have go := (F _ inB (ns' hns)).goes callerA [] s₁ H ⟨[.ref a], []⟩ [.ref a] [.ref a] _ _ rfl hr e0 (hbind s₁ (.ref a)) (.cons rfl .nil) (hsp H T.only T.list)
  refine codeAny_mono go fun r s' h => ?_
  match r, h with
  | .error e, h => exact (hC0 H e s' h).elim
  | .ok .next, h => exact h.elim
  | .ok .brk, h => exact h.elim
  | .ok .cont, h => exact h.elim
  | .ok (.ret u), ⟨v, H', os, bare, un, hok', rv, q⟩ =>
    have q' : v = .bl true := q
    subst q'
    obtain rfl : u = Value.bool true := rv
    refine ⟨rfl, OldK.of_keep fun b o e => ?_, os, bare⟩
    rcases T.only b with z | ⟨ob, xs, z⟩
    · exact un.keep b o e z (fun z => nomatch z) (fun z => nomatch z)
    · obtain ⟨e1, _⟩ := T.held b _ z
      obtain ⟨e2, _⟩ := hok' b _ (un.frzs b ob _ z)
      exact e2.trans (e1.symm.trans e)
theorem walk_ofI {l : PySem.W.OpenLaw} {n k : Nat} {q : Program} {loose : List Str} {XP : (Str → Option Value) → Heap → Prop} {YP : World → Heap → Prop} {d : DefRec} {K : Params → PySem.W.Frag}
    {C0 : CXT} {sp : PySem.W.Frag → Sp} {x : Str} (hn : l.most = some n) (hn2 : n ≤ sizeLine) (hdf : d.params.defaults = []) (hr : Room k callerA)
    (hY : ∀ (w : World) (h : Heap), YP w h → (K w.params).In h)
    (F : ∀ (w : World) (mg : Str → Option Value) (fa : Addr) (h : Heap), (K w.params).In h → h.Ns mainGlobals mg → mg d.name = some (.ref fa) →
      ∃ fd : FuncData, (∀ (s : Shared) (u : Value), BindsTo s fd ⟨[u], []⟩ [(x, u)]) ∧
        ∀ base : Heap, (K w.params).In base → base.Ns mainGlobals mg → FnI l.prog w (K w.params) mg base C0 k fa fd [x] (sp (K w.params)))
    (hsp : ∀ (K : PySem.W.Frag) (H : Hp) (a : Addr) (ns : List Int), ns.length ≤ n → Only H → SqL K H a (ns.map V.int) → sp K [.ref a] H (fun v _ => v = .bl true) fun _ _ _ => False)
    (hC0 : ∀ (H : Hp) (s : Shared) (e : Value) (s' : Shared), C0 [] H s (fun _ _ _ => False) e s' → False) :
    PySem.W.WalkO q loose XP YP l.row.toRowW d [] (fun f vs => PySem.call f vs) :=
  Att.attach_call hn hdf fun w _ s₁ mg _ fa _ _ _ _ a _ ns G Y _ _ _ hmg hobj hints hlen hg =>
    let ⟨_, hb, hF⟩ := F w mg fa _ (hY w _ Y) G.T.g hmg
    law_callI (hY w _ Y) G.T.g G.T.b G.T.builtins G.T.nolimit hg hobj hints (Nat.le_trans hlen hn2) hr hF hb
      (fun H hO hS => hsp (K w.params) H a ns hlen hO hS) fun H e s' => hC0 H s₁ e s'
end DR

/-! repr of data, where no repr is under way. -/
namespace DR
open PySem PySem.Spec PyProof.Rows L2
/-- a datum, or an empty dict -/
def DpE (K : PySem.W.Frag) (H : Hp) (v : V) (d : PyData) : Prop := Dp K H v d ∨ ∃ a, v = .ref a ∧ H a = some (.dK []) ∧ d = .dict []
section
variable {X : Cx} {pins : List (Addr × Obj)} {σ : L2.St} {H : Hp} {s : Shared}
/-! no dict within plain data -/
mutual
theorem dp_plain {K : PySem.W.Frag} : ∀ (d : PyData) (v : V), Dp K H v d → d.hasDict = false
  | .none, _, _ => rfl
  | .bool _, _, _ => rfl
  | .int _, _, _ => rfl
  | .str _, _, _ => rfl
  | .list ds, _, h => by
    cases h with
    | lst _ ha => simpa only [PyData.hasDict] using dps_plain ds _ ha
  | .tuple ds, _, h => by
    cases h with
    | tup _ ha => simpa only [PyData.hasDict] using dps_plain ds _ ha
  | .dict _, _, h => by cases h
theorem dps_plain {K : PySem.W.Frag} : ∀ (ds : List PyData) (vs : List V), DpAll K H vs ds → PyData.hasDictAll ds = false
  | [], _, _ => rfl
  | d :: ds, _, h => by
    cases h with
    | cons h1 h2 =>
      have e1 := dp_plain d _ h1
      have e2 := dps_plain ds _ h2
      simp only [PyData.hasDictAll, e1, e2, Bool.or_self]
end
theorem DpE.read {v : V} {u : Value} {d : PyData} (I : Inv X pins σ H s) (h : DpE X.K H v d) (r : RelV v u) : ∃ as, Reads s.heap u d as ∧ (d.hasDict = true → sysModules ∉ as) := by
  rcases h with h | ⟨a, rfl, ha, rfl⟩
  · obtain ⟨as, q⟩ := Dp.reads I d v u h r
    exact ⟨as, q, fun e => nomatch (dp_plain d v h).symm.trans e⟩
  · obtain rfl : u = Value.ref a := r
    obtain ⟨_, ns, vs, kv, o, es, ep, ho, ex, hd, _, pr, _⟩ := I.hok a _ ha
    cases kv
    obtain ⟨es⟩ := es
    have e : es = [] := by
      cases pr
      rfl
    subst e
    refine ⟨_, Reads.dict (as := []) (bs := []) ho ex.1 hd .nil .nil, fun _ z => ?_⟩
    have z1 : sysModules = a := by simpa using z
    rw [z1] at ns
    simp at ns
theorem DpE.reads_rep {v : V} {d : PyData} (I : Inv X pins σ H s) (h : DpE X.K H v d) : ∀ (n : Nat) {us : List Value}, Vals (List.replicate n v) us →
    ∃ as, ReadsAll s.heap us (List.replicate n d) as ∧ (d.hasDict = true → sysModules ∉ as)
  | 0, _, .nil => ⟨[], .nil, fun _ z => nomatch z⟩
  | n + 1, _, .cons r q => by
    obtain ⟨as, x, hx⟩ := DpE.read I h r
    obtain ⟨bs, y, hy⟩ := DpE.reads_rep I h n q
    exact ⟨as ++ bs, .cons x y, fun e z => (List.mem_append.mp z).elim (hx e) (hy e)⟩
end
theorem rep_dict (d : PyData) : ∀ n : Nat, PyData.hasDictAll (List.replicate n d) = true → d.hasDict = true
  | 0, e => nomatch e
  | n + 1, e => by
    rw [List.replicate_succ] at e
    simp only [PyData.hasDictAll, Bool.or_eq_true] at e
    exact e.elim id (rep_dict d n)
theorem rep_show (d : PyData) (h : d.showable = true) : ∀ n : Nat, PyData.showableAll (List.replicate n d) = true
  | 0 => rfl
  | n + 1 => by
    rw [List.replicate_succ]
    simp only [PyData.showableAll, h, rep_show d h n, Bool.and_self]
/-- repr(xs), xs a list at an address; the list itself is never asked whether it is sys.modules -/
theorem repr_listR {prog : Program} {w : World} {A : Around} {E : Value → Shared → Prop} {s : Shared} {Q : Value → Shared → Prop} {a : Addr} {o : Obj} {vs : Array Value} {n : Nat} {ds : List PyData} {as : List Addr}
    (h1 : s.heap.get? a = some o) (h2 : o.cls = .type "list") (h3 : o.data = .seq vs n) (h4 : ReadsAll s.heap vs.toList ds as) (hs : PyData.showableAll ds = true)
    (hsm : PyData.hasDictAll ds = true → sysModules ∉ as) (hi : Idle A) (hu : A.units + (PyData.depthAll ds + 3) < cLine) (hz : (PyData.shown (.list ds)).length ≤ sizeLine)
    (hQ : ∀ h' u tk, (∀ b o, s.heap.get? b = some o → h'.get? b = some o) → Q (.str (PyData.shown (.list ds)) u) { s with heap := h', toks := tk }) :
    wpAny (model prog w) A (call (.builtin "repr") [.ref a]) Q E s := by
  have hz' : (listText (PyData.shownAll ds)).length ≤ sizeLine := by simpa only [PyData.shown] using hz
  simp only [PyData.shown] at hQ
  obtain ⟨bs, hb, hk⟩ := ReprAllK.of_readsAll (prog := prog) (w := w) h4 hs hsm fun t ht => Nat.le_trans (listText_mem_le ht) hz'
  have far : a ∉ bs := not_mem_of_deeper (Reads.list h1 h2 h3 h4) (by simp only [PyData.depth]; exact Nat.lt_succ_self _) hb
  have ty : ∀ s' : Shared, (∀ b o, s.heap.get? b = some o → s'.heap.get? b = some o) → s'.TypeIs (.ref a) "list" := fun s' k => ⟨o, k _ _ h1, h2⟩
  refine call_repr_slot (by omega) (ty s fun _ _ e => e) F.slot_list_repr.toG ?_
  obtain ⟨l⟩ := vs
  match l, h3, h4, hk with
  | [], h3, h4, _ =>
    have h4' : ReadsAll s.heap [] ds _ := h4
    cases h4'
    simp only [PyData.shownAll, listText_nil] at hQ
    exact call_list_repr_empty (ty s fun _ _ e => e) h1 h3 ⟨_, _, rfl, hQ s.heap _ _ fun _ _ e => e⟩
  | x :: l, h3, h4, hk =>
    refine call_list_reprK h1 h2 h3 far (by simpa using hk.length_eq) (fun i y e => hk.item i y (by simpa using e)) (g := []) hi (fun b _ => Clear.nil b) ?_ (fun _ _ e => e) (fun h' u tk k => ⟨_, _, rfl, hQ h' u tk k⟩) hz'
    show A.units + 1 + (PyData.depthAll ds + 1) < cLine
    omega
/-- repr(x): x data or an empty dict; or a list of so many times the same -/
def rRepr (K : PySem.W.Frag) : List V → Hp → VK → Prop := fun xs H Q => ∃ (x : V) (d : PyData), xs = [x] ∧ DpE K H x d ∧ d.showable = true ∧ d.shown.length ≤ sizeLine ∧ d.depth ≤ 40 ∧ Q (.str d.shown) H
def rReprN (K : PySem.W.Frag) : List V → Hp → VK → Prop := fun xs H Q => ∃ (l : Addr) (n : Nat) (x : V) (d : PyData), xs = [.ref l] ∧ H l = some (.lst (List.replicate n x)) ∧ DpE K H x d ∧ d.showable = true ∧
  (PyData.shown (.list (List.replicate n d))).length ≤ sizeLine ∧ PyData.depthAll (List.replicate n d) ≤ 40 ∧ Q (.str (PyData.shown (.list (List.replicate n d)))) H
section
variable {X : Cx}
theorem call_repr (hi : Idle X.A) (hu : X.A.units + 64 < cLine) : CallR X (.builtin "repr") (rRepr X.K) := by
  intro pins s σ H xs us Q I r h
  obtain ⟨x, d, rfl, hd, hs, hz, hp, q⟩ := h
  obtain ⟨u, rfl, ru⟩ := vals1 r
  obtain ⟨as, rd, ns⟩ := DpE.read I hd ru
  have fin : ∀ (h' : Heap) (tt tk : Tok), (∀ b o, s.heap.get? b = some o → h'.get? b = some o) → EP X pins σ Q (.str d.shown tt) { s with heap := h', toks := tk } :=
    fun h' tt tk k => ⟨.str d.shown, H, I.kept k, ⟨tt, rfl⟩, q⟩
  cases rd with
  | none =>
    simp only [PyData.shown] at fin
    exact PySem.P.repr_of_none (fin s.heap _ _ fun _ _ e => e)
  | bool b =>
    simp only [PyData.shown] at fin
    exact PySem.P.repr_of_bool (fin s.heap _ _ fun _ _ e => e)
  | int i t =>
    simp only [PyData.shown] at fin
    exact PySem.P.repr_of_int (by simpa [PyData.showable] using hs) (fin s.heap _ _ fun _ _ e => e)
  | str z t =>
    simp only [PyData.shown] at fin hz
    exact PySem.P.repr_of_str (fin s.heap _ _ fun _ _ e => e) hz
  | list h1 h2 h3 h4 => exact repr_of_reads' (.list h1 h2 h3 h4) hs ns hi (by omega) (fun _ _ e => e) fin hz
  | tuple h1 h2 h3 h4 => exact repr_of_reads' (.tuple h1 h2 h3 h4) hs ns hi (by omega) (fun _ _ e => e) fin hz
  | dict h1 h2 h3 h4 h5 => exact repr_of_reads' (.dict h1 h2 h3 h4 h5) hs ns hi (by omega) (fun _ _ e => e) fin hz
theorem call_reprN (hi : Idle X.A) (hu : X.A.units + 64 < cLine) : CallR X (.builtin "repr") (rReprN X.K) := by
  intro pins s σ H xs us Q I r h
  obtain ⟨l, n, x, d, rfl, hl, hd, hs, hz, hp, q⟩ := h
  obtain ⟨u, rfl, ru⟩ := vals1 r
  obtain rfl : u = Value.ref l := ru
  obtain ⟨_, its, m, rv, ho⟩ := (show ObjOk X.prog X.w H s.heap l (.lst (List.replicate n x)) from I.hok l _ hl)
  obtain ⟨as, rd, ns⟩ := DpE.reads_rep I hd n rv
  refine repr_listR ho rfl rfl (by simpa using rd) (rep_show d hs n) (fun e => ns (rep_dict d n e)) hi (by omega) hz fun h' tt tk k => ?_
  exact ⟨.str _, H, I.kept k, ⟨tt, rfl⟩, q⟩
end
end DR

/-! Own exception classes over any built-in base, made by a call (also by keywords), held as values. -/
namespace DR
open PySem PySem.Calls PyProof.Rows PySem.HandSPX
section
variable {M : Model} {A : Around} {E : Value → Shared → Prop} {h : Heap} {g : Array GenState} {d : Drawn} {t : Nat} {os : OsState}
variable {nm qn : Str} {C N : Addr} {bs bm bB : List Value} {hd : Bool} {sn : List Str} {sub : List Value} {ab : Bool} {col : Option Bool} {dd : Option Addr} {k0 k1 k2 k3 k5 : Option Value} {B nid iid : String}
theorem xn_check (F : ExcBaseFacts B nid iid bB) (hT : ∀ X : String, bm.contains (.type X) = bB.contains (.type X)) {rest : List Value} {kw : List (Str × Value)} {Q : Unit → Shared → Prop}
    (cl : h.get? C = some (excClassObj nm qn C N bs bm hd sn sub ab col dd k0 k1 k2 k3 k5 nid)) (fin : Q () ⟨h, g, d, t, os⟩) :
    wpAny M A (checkBuiltinCall nid ⟨.ref C :: rest, kw⟩) Q E ⟨h, g, d, t, os⟩ := by
  have inB : (Value.ref C :: bm).contains (.type B) = true := by rw [List.contains_cons, hT, F.hasB, Bool.or_true]
  have star := F.noStar
  simp only [checkBuiltinCall, F.newKind, F.newSplit, F.newRow]
  repeat (first
    | refine wpAny_loadPart_at cl ?_
    | (refine wpAny_isSubtype_exc cl ?_; rw [inB])
    | refine wpAny_staticBase_exc cl ?_
    | refine wpAny_madeBy_exc cl ?_
    | simp only [bne_self_eq_false, Bool.false_eq_true, if_false]
    | wp_step)
  exact fin
end
section
variable {prog : Program} {w : World} {A : Around} {E : Value → Shared → Prop} {R : Result → Shared → Prop} {h : Heap} {g : Array GenState} {d : Drawn} {t : Nat} {os : OsState}
variable {nm qn : Str} {C N : Addr} {bs bm bB : List Value} {hd : Bool} {sn : List Str} {sub : List Value} {ab : Bool} {col : Option Bool} {dd : Option Addr} {k0 k1 k2 k3 k5 : Option Value} {B nid iid : String}
theorem xn_new (F : ExcBaseFacts B nid iid bB) (hT : ∀ X : String, bm.contains (.type X) = bB.contains (.type X)) {rest : List Value} {kw : List (Str × Value)}
    (cl : h.get? C = some (excClassObj nm qn C N bs bm hd sn sub ab col dd k0 k1 k2 k3 k5 nid))
    (fin : R (.ok (.ret (.ref (h.objs.size + 1)))) ⟨(h.push { cls := .type "tuple", data := .seq rest.toArray }).push (excO C h.objs.size), g, d, t, os⟩)
    (hz : rest.length ≤ sizeLine) : codeAny (model prog w) A (.builtin nid ⟨.ref C :: rest, kw⟩) R ⟨h, g, d, t, os⟩ := by
  have ends := F.ends
  have inB : (Value.ref C :: bm).contains (.type B) = true := by rw [List.contains_cons, hT, F.hasB, Bool.or_true]
  have noA : (Value.ref C :: bm).contains (.type "AttributeError") = false := by
    rw [List.contains_cons, hT, F.noAttr]; rfl
  have noN : (Value.ref C :: bm).contains (.type "NameError") = false := by
    rw [List.contains_cons, hT, F.noName]; rfl
  refine codeAny_builtinAt F.entry ?_
  unfold Builtin.«BaseException.__new__»
  refine PySem.wpAt_bind ?_
  show PySem.wpAt _ _ _ (stack >>= _) _ _ _
  refine PySem.wpAt_bind (PySem.wpAt_stack fun p below => ?_)
  refine PySem.wpAt_of_wpAny ?_
  wp_walk
  refine PySem.wpAt_of_wpAny ?_
  rw [F.owner]
  repeat (first
    | with_reducible refine wpAny_madeHere_exc F.canon cl ?_
    | with_reducible refine wpAny_loadPart_at cl ?_
    | (with_reducible refine wpAny_isSubtype_exc cl ?_; first | rw [inB] | rw [noA] | rw [noN])
    | wp_step)
  show R _ _
  rw [Heap.size_push]
  exact fin
theorem xn_tcall (F : ExcBaseFacts B nid iid bB) (hT : ∀ X : String, bm.contains (.type X) = bB.contains (.type X)) {rest : List Value} {kw : List (Str × Value)} {fI : Addr} {Q : Fin → Shared → Prop}
    (cl : h.get? C = some (excClassObj nm qn C N bs bm hd sn sub ab col dd k0 k1 k2 k3 k5 nid))
    (hi : W.Looks (model prog w) h (typeLookup (.ref C) "__init__") (some (.ref fI)))
    (hb : ∀ self, W.Looks (model prog w) h (bindSpecial (.ref fI) self) (.ref fI, [self])) (hz : rest.length ≤ sizeLine)
    (fin : codeAny (model prog w) A (.call (.ref fI) ⟨.ref (h.objs.size + 1) :: rest, kw⟩)
      (fun r s' => match r with | .ok (.ret v) => v = .none ∧ Q (.done (.ret (.ref (h.objs.size + 1)))) s' | .ok _ => False | .error e => E e s')
      ⟨(h.push (W.kdv_tup rest)).push (excO C h.objs.size), g, d, t, os⟩) :
    wpAny (model prog w) A (Builtin.«type.__call__» ⟨.ref C :: rest, kw⟩) Q E ⟨h, g, d, t, os⟩ := by
  repeat (first
    | with_reducible refine wpAny_loadPart_at cl ?_
    | with_reducible refine wpAny_madeBy_exc cl ?_
    | wp_step)
  refine codeAny_call_builtin_code (Code.quiet_builtin _ F.quiet) (xn_check F hT cl ?_)
  refine xn_new F hT cl ?_ hz
  show wpAny _ _ _ _ _ _
  have kp : ∀ b o, h.get? b = some o → ((h.push (W.kdv_tup rest)).push (excO C h.objs.size)).get? b = some o :=
    fun b o e => Heap.get?_push_of_some _ (Heap.get?_push_of_some _ e)
  have cl1 := kp _ _ cl
  have self1 : ((h.push (W.kdv_tup rest)).push (excO C h.objs.size)).get? (h.objs.size + 1) = some (excO C h.objs.size) := by heap_get
  have inC : (Value.ref C :: bm).contains (.ref C) = true := by simp
  have i1 := hi.keeps kp
  have b1 := (hb (.ref (h.objs.size + 1))).keeps kp
  unfold isInstance
  repeat (first
    | with_reducible refine wpAny_loadPart_at self1 ?_
    | (with_reducible refine wpAny_isSubtype_exc cl1 ?_; rw [inC])
    | wp_step)
  show wpAny _ _ (typeLookup (.ref C) _) _ _ _
  refine i1.at ?_
  refine wpAny_holding (wpAny_bind (b1.at ?_))
  refine wpAny_bind (wpAny_call (codeAny_mono fin fun r s' z => ?_))
  rcases r with e | (v | _ | _ | _) <;> first | exact z | exact z.elim | skip
  obtain ⟨rfl, z⟩ := z
  first
    | exact wpAny_pure (wpAny_pure z)
    | (wp_walk; exact z)
theorem xn_look {M : Model} {rest : List Value} {kw : List (Str × Value)} {Q : Unit → Shared → Prop} (cl : h.get? C = some (excClassObj nm qn C N bs bm hd sn sub ab col dd k0 k1 k2 k3 k5 nid))
    (fin : Q () ⟨h, g, d, t, os⟩) : wpAny M A (checkBuiltinCall "type.__call__" ⟨.ref C :: rest, kw⟩) Q E ⟨h, g, d, t, os⟩ := by
  have f3 := tc_sub
  have ty : (⟨h, g, d, t, os⟩ : Shared).TypeIs (.ref C) "type" := ⟨_, cl, rfl⟩
  simp only [checkBuiltinCall, tc_kind, tc_split]
  repeat (any_goals (first
    | assumption
    | with_reducible refine wpAny_loadPart_at cl ?_
    | with_reducible refine wpAny_onRaise ?_
    | with_reducible refine wpAny_map ?_
    | wp_step))
theorem xn_call (F : ExcBaseFacts B nid iid bB) (hT : ∀ X : String, bm.contains (.type X) = bB.contains (.type X)) {rest : List Value} {kw : List (Str × Value)} {fI : Addr}
    (cl : h.get? C = some (excClassObj nm qn C N bs bm hd sn sub ab col dd k0 k1 k2 k3 k5 nid))
    (hi : W.Looks (model prog w) h (typeLookup (.ref C) "__init__") (some (.ref fI)))
    (hb : ∀ self, W.Looks (model prog w) h (bindSpecial (.ref fI) self) (.ref fI, [self])) (hz : rest.length ≤ sizeLine)
    (fin : codeAny (model prog w) (A.under (.builtin "type.__call__" ⟨.ref C :: rest, kw⟩)) (.call (.ref fI) ⟨.ref (h.objs.size + 1) :: rest, kw⟩) (W.InitBack (h.objs.size + 1) R)
      ⟨(h.push (W.kdv_tup rest)).push (excO C h.objs.size), g, d, t, os⟩) :
    codeAny (model prog w) A (.call (.ref C) ⟨rest, kw⟩) R ⟨h, g, d, t, os⟩ := by
  have f1 := tc_lookup
  have f2 := tc_bind (.ref C)
  have ty : (⟨h, g, d, t, os⟩ : Shared).TypeIs (.ref C) "type" := ⟨_, cl, rfl⟩
  refine codeAny_of_tree ?_
  show wpAny _ _ (callAny (.ref C) _) _ _ _
  repeat (any_goals (first
    | assumption
    | with_reducible refine wpAny_loadPart_at cl ?_
    | wp_step))
  refine ⟨rfl, ?_⟩
  refine codeAny_call_builtin_at (Code.quiet_builtin _ (by decide +kernel)) entry_typeCall (xn_look cl (xn_tcall F hT cl hi hb hz ?_))
  refine codeAny_mono fin fun r s' z => ?_
  rcases r with e | (v | _ | _ | _) <;> exact z
end
end DR

namespace DR
open PySem PySem.Calls PyProof.Rows PySem.Builtin PySem.Builtin.ObjectAttr
section
variable {prog : Program} {w : World} {A : Around} {R : Result → Shared → Prop} {hp : Heap} {g : Array GenState} {d : Drawn} {t : Nat} {os : OsState} {K : PySem.W.Frag} {C : Addr} {f : Str}
theorem taker_none (no : PySem.W.findIn K (.ref C) f = some none) : PySem.W.takerIn K C f = some none := by
  unfold PySem.W.takerIn
  rw [no, Option.bind_some]
/-- self.f = v, the first attribute of an exception of one's own, over any built-in base -/
theorem osaB {B : String} {bB : List Value} {tk : Tok} {v : Value} {x t0 : Addr} (SF : StoreFacts B bB "object.__setattr__" "object") (X : K.In hp) (hx : hp.get? x = some (PySem.W.excObj C t0 none .none)) (ov : PySem.W.excOver K C bB = true) (hh : PySem.W.hasDictIn K C = true)
    (no : PySem.W.findIn K (.ref C) f = some none)
    (fin : ∀ h' tk', (∀ b o, b ≠ x → hp.get? b = some o → h'.get? b = some o) → h'.get? x = some (PySem.W.excObj C t0 (some hp.objs.size) .none) →
      h'.Ns1 hp.objs.size (fun y => if y = f then some v else none) → R (.ok (.ret .none)) ⟨h', g, d, tk', os⟩) :
    codeAny (model prog w) A (.call (.builtin "object.__setattr__") ⟨[.ref x, .str f tk, v], []⟩) R ⟨hp, g, d, t, os⟩ := by
  refine PySem.W.osa_openX (od := none) SF X ⟨hx, rfl, rfl, trivial⟩ ov (taker_none no) fun b => ?_
  obtain ⟨cd, hc, hd'⟩ := PySem.W.any_some hh
  have lt : x < hp.objs.size := Heap.lt_size hx
  have ne : hp.objs.size ≠ x := Nat.ne_of_gt lt
  refine wpAny_bind (wpAny_pure (wpAny_bind (PySem.W.instanceDict_exc hx (PySem.W.looks_clsIn X hc) hd' ?_)))
  show wpAny _ _ (storeInDict hp.objs.size (.str f tk) f v) _ _ _
  have hx1 := Heap.get?_push_of_some (PySem.W.dictOf [] 0) hx
  have hnd : ((hp.push (PySem.W.dictOf [] 0)).update x fun o => { o with dict := some hp.objs.size }).Ns hp.objs.size (fun _ => none) := by
    refine ⟨_, #[], _, (Heap.get?_update_ne _ _ _ _ ne).trans (Heap.get?_push_at rfl rfl), rfl, ?_, fun _ => rfl⟩
    intro e he
    exact absurd he (by simp)
  refine PySem.HandSPX.store_in_new hnd fun h' tk' hn' sb => ?_
  refine fin h' tk' (fun b o hb ho => ?_) ?_ hn'
  · rw [sb.2 b (Nat.ne_of_lt (Heap.lt_size ho)), Heap.get?_update_ne _ _ _ _ hb]
    exact Heap.get?_push_of_some _ ho
  · rw [sb.2 x ne.symm]
    exact Heap.get?_update_self _ hx1 rfl
end
open L2 PySem.Spec
/-- what stores into an exception of the class at C ask of it -/
def XSt (K : PySem.W.Frag) (C : Addr) : Prop := ∃ (B : String) (bB : List Value), StoreFacts B bB "object.__setattr__" "object" ∧ PySem.W.excOver K C bB = true ∧ PySem.W.hasDictIn K C = true ∧ PySem.W.findIn K (.ref C) "__setattr__" = some (some (.builtin "object.__setattr__"))
section
variable {X : Cx} {pins : List (Addr × Obj)} {σ : L2.St} {H : Hp} {s : Shared} {a C dx : Addr} {f : Str} {y : V} {u : Value} {Q : Unit → Shared → Prop} {E : Value → Shared → Prop} {A : Around}
theorem ostB (T : XSt X.K C) (I : Inv X pins σ H s) (e : H a = some (exo a C none)) (no : PySem.W.findIn X.K (.ref C) f = some none) (ry : RelV y u)
    (fin : ∀ dx s', H dx = none → dx ≠ a → Inv X pins σ (upd (upd H dx (exd dx [(f, y)])) a (exo a C (some dx))) s' → Q () s') :
    wpAny (model X.prog X.w) A (setAttr (.ref a) f u) Q E s := by
  obtain ⟨B, bB, SF, ov, hh, sa⟩ := T
  obtain ⟨t1, ho⟩ := exo_at I.hok e
  obtain ⟨hp, g, d, t, os⟩ := s
  refine PySem.W.set_plain I.kIn (ox := PySem.W.excObj C t1 none .none) (od := none) ⟨ho, rfl, rfl, trivial⟩ sa ?_
  refine osaB SF I.kIn ho ov hh no fun h' tk' k hx hn => ?_
  have fr : H hp.objs.size = none := I.hok.fresh (Nat.le_refl _)
  have ad : a ≠ hp.objs.size := Nat.ne_of_lt (Heap.lt_size ho)
  have old : ∀ {b : Addr} {o : Obj}, hp.get? b = some o → b ≠ hp.objs.size := fun q => Nat.ne_of_lt (Heap.lt_size q)
  have bare : ∀ {b : Addr}, H b = none → b ≠ a := fun {b} n z => nomatch (z ▸ n).symm.trans e
  have seen : ∀ {b : Addr} {o : HO}, b ≠ a → H b = some o → upd (upd H hp.objs.size (exd hp.objs.size [(f, y)])) a (exo a C (some hp.objs.size)) b = some o := fun {b o} n q => by
    rw [upd_ne n, upd_ne (ne_of_none q fr), q]
  have U : Un X.fs [] H (upd (upd H hp.objs.size (exd hp.objs.size [(f, y)])) a (exo a C (some hp.objs.size))) hp h' := by
    constructor
    · exact fun b o q n _ _ => k b o (bare n) q
    · exact fun b o q n _ _ => ⟨o.slots, k b o (bare n) q⟩
    · intro b o q n _
      rw [upd_ne (bare n), upd_ne (old q), n]
    · intro b o q _
      by_cases z : b = a
      · exact ⟨_, z ▸ hx⟩
      · exact ⟨o, k b o z q⟩
    · exact fun b xs q => seen (at_ne e q exo_tup) q
    · exact fun b o v q => seen (at_ne e q exo_frz) q
    · exact fun b ps q => ⟨#[], (seen (at_ne e q exo_tbl) q).trans (by simp)⟩
  refine fin _ _ fr ad.symm (I.un (t' := tk') U fun b o q => ?_)
  by_cases z : b = a
  · subst z
    obtain rfl := Option.some.inj (upd_same.symm.trans q)
    exact exo_ok hx
  rw [upd_ne z] at q
  by_cases z2 : b = hp.objs.size
  · subst z2
    obtain rfl := Option.some.inj (upd_same.symm.trans q)
    exact exd_ok hn (relO_put (fs := []) ry fun _ => True.intro)
  rw [upd_ne z2] at q
  refine (I.hok b o q).stay ?_ (fun c hc => seen (at_ne e hc exo_own) hc) fun c xs hc => seen (at_ne e hc exo_tup) hc
  intro c v hc r
  refine k c v ?_ r
  rcases hc with rfl | hc
  · exact z
  · exact at_ne e hc exo_own
end
/-! ### the rules -/
def tOstB (K : PySem.W.Frag) (f : Str) (to te : TE) : TS := fun D σ H => te σ H fun y H1 => to σ H1 fun x H2 => ∃ a C : Addr, x = .ref a ∧ XSt K C ∧ PySem.W.findIn K (.ref C) f = some none ∧
  H2 a = some (exo a C none) ∧ ∀ dx, H2 dx = none → dx ≠ a → D.nx σ (upd (upd H2 dx (exd dx [(f, y)])) a (exo a C (some dx)))
theorem ps_ostB {X : Cx} {o e : Expr} {to te : TE} {f : Str} {p' pos : Pos} (ho : PE X o to) (he : PE X e te) (hs : swapsWith e (some (.Attribute o f p')) pos.line X.env = pure false := by rfl) :
    PS X (.Assign [.Attribute o f p'] e pos) (tOstB X.K f to te) := by
  constructor
  intro pins s σ H D I h
  refine plainObj_wpAny_Assign_Attribute ?_ hs
  refine thn (he.run pins s σ H _ I h) ?_
  rintro v s1 ⟨y, H1, I1, r1, q1⟩
  refine thn (ho.run pins s1 σ H1 _ I1 q1) ?_
  rintro u s2 ⟨x, H2, I2, r2, a, C, rfl, T, no, ea, q⟩
  obtain rfl : u = Value.ref a := r2
  exact ostB T I2 ea no r1 fun dx s' n ne J => ⟨σ, _, J, q dx n ne⟩
end DR

namespace DR
open PySem PySem.Spec PySem.Calls PyProof.Rows L2
/-- what the making of an exception of the class at C asks -/
structure XMk (K : PySem.W.Frag) (C fI : Addr) (B nid iid : String) (bB : List Value) : Prop where
  base : ExcBaseFacts B nid iid bB
  made : PySem.W.excInitIn K C bB nid = true
  init : PySem.W.findIn K (.ref C) "__init__" = some (some (.ref fI))
  fn : PySem.W.typeIn K (.ref fI) = some (.type "function")
  keep : PySem.W.keepIn K (.ref C) = true
/-- __init__(self, f): the exception's one attribute -/
def spIni (C : Addr) (f : Str) : Sp := fun vs H Q _ => ∃ (a : Addr) (v : V), vs = [.ref a, v] ∧ H a = some (exo a C none) ∧
  ∀ dx, H dx = none → dx ≠ a → Q .non (upd (upd H dx (exd dx [(f, v)])) a (exo a C (some dx)))
/-- an exception with one attribute -/
def XAt (H : Hp) (a C : Addr) (f : Str) (v : V) : Prop := ∃ d, H a = some (exo a C (some d)) ∧ H d = some (exd d [(f, v)])
/-- how C(v), C(f = v) come: a new exception -/
def rMk (C : Addr) (f : Str) (v : V) (H : Hp) (Q : VK) : Prop := ∀ (a : Addr) (H' : Hp), H a = none → Same H H' → XAt H' a C f v → (∀ b, H' b = none → H b = none) → Q (.ref a) H'
section
variable {X : Cx} {pins : List (Addr × Obj)} {σ : L2.St} {H : Hp} {s : Shared} {Q : VK} {C fI : Addr} {B nid iid : String} {bB : List Value} {fd : FuncData} {ps : List Str} {f : Str} {k : Nat}
theorem run_mk {us all : List Value} {kw : List (Str × Value)} {v : V} {u : Value} (M : XMk X.K C fI B nid iid bB) (F : FnOk X.prog X.w X.K X.mg X.base CX0 k fI fd ps (spIni C f)) (hr : Room (k + 1) X.A)
    (bind : ∀ (s : Shared) (self : Value), X.K.In s.heap → BindsTo s fd ⟨self :: us, kw⟩ (ps.zip [self, u])) (hz : us.length ≤ sizeLine) (I : Inv X pins σ H s) (r : RelV v u) (h : rMk C f v H Q) :
    wpAny (model X.prog X.w) X.A (call (.ref C) us kw) (EP X pins σ Q) X.xe s := by
  obtain ⟨nm, N, qn, bs, bm, hd, sn, sub, ab, col, dd, k0, k1, k2, k3, k5, cl, hT⟩ := PySem.W.excInit_of I.kIn M.made
  obtain ⟨hp, g, dr, tk, os⟩ := s
  have up : hp.objs.size ≤ hp.objs.size + 1 := Nat.le_succ _
  have n0 : H (hp.objs.size + 1) = none := I.hok.fresh up
  have kp : ∀ b o, hp.get? b = some o → ((hp.push (PySem.W.kdv_tup us)).push (PySem.HandSPX.excO C hp.objs.size)).get? b = some o :=
    fun b o e => Heap.get?_push_of_some _ (Heap.get?_push_of_some _ e)
  have me : ((hp.push (PySem.W.kdv_tup us)).push (PySem.HandSPX.excO C hp.objs.size)).get? (hp.objs.size + 1) = some (PySem.HandSPX.excO C hp.objs.size) := by heap_get
  have I2 : Inv X pins σ (upd H (hp.objs.size + 1) (exo (hp.objs.size + 1) C none)) ⟨(hp.push (PySem.W.kdv_tup us)).push (PySem.HandSPX.excO C hp.objs.size), g, dr, tk, os⟩ :=
    I.laid (t' := tk) kp up (exo_ok me)
  have sp : spIni C f [.ref (hp.objs.size + 1), v] (upd H (hp.objs.size + 1) (exo (hp.objs.size + 1) C none)) (fun x H2 => x = .non ∧ Q (.ref (hp.objs.size + 1)) H2) E0 := by
    refine ⟨_, v, rfl, upd_same, fun dx nd ne => ⟨rfl, h _ _ n0 ?_ ⟨dx, upd_same, ?_⟩ ?_⟩⟩
    · intro b o q
      have b1 : b ≠ hp.objs.size + 1 := ne_of_none q n0
      have b2 : b ≠ dx := fun z => by
        rw [← z, upd_ne b1, q] at nd
        cases nd
      rw [upd_ne b1, upd_ne b2, upd_ne b1, q]
    · rw [upd_ne ne, upd_same]
    · intro b q
      by_cases b1 : b = hp.objs.size + 1
      · rw [b1]
        exact n0
      · rw [upd_ne b1] at q
        by_cases b2 : b = dx
        · rw [b2, upd_same] at q
          cases q
        · rw [upd_ne b2, upd_ne b1] at q
          exact q
  have go := F.run _ X.stack _ _ ⟨Value.ref (hp.objs.size + 1) :: us, kw⟩ [Value.ref (hp.objs.size + 1), u] _ _ E0 (hr.make C us kw) (I2.env0.make C us kw) (bind _ _ I2.kIn) (.cons (show RelV (.ref _) _ from rfl) (.cons r .nil)) sp
  refine wpAny_call (xn_call M.base hT cl (PySem.W.looks_findIn I.kIn M.init) (fun self => PySem.W.bind_fn I.kIn self M.fn) hz (codeAny_mono go fun res s' hq => ?_))
  match res, hq with
  | .error _, hq => exact hq.elim
  | .ok .next, hq => exact hq.elim
  | .ok .brk, hq => exact hq.elim
  | .ok .cont, hq => exact hq.elim
  | .ok (.ret u'), hq =>
    obtain ⟨v', H', I3, rv, ev, q3⟩ := I2.after hq
    subst ev
    exact ⟨rv, V.ref _, H', I3, rfl, q3⟩
end
/-- C(e), C(f = e) -/
def tMk1 (C : Addr) (f : Str) (ta : TA) : TE := fun σ H Q => ta σ H fun vs H1 => ∃ v, vs = [v] ∧ rMk C f v H1 Q
section
variable {X : Cx} {C fI : Addr} {B nid iid : String} {bB : List Value} {fd : FuncData} {ps : List Str} {f x : Str} {k : Nat} {e : Expr} {ta : TA} {p pos kpos : Pos}
theorem pe_mk1 (M : XMk X.K C fI B nid iid bB) (F : FnOk X.prog X.w X.K X.mg X.base CX0 k fI fd ps (spIni C f)) (hr : Room (k + 1) X.A)
    (bind : ∀ (s : Shared) (a b : Value), BindsTo s fd ⟨[a, b], []⟩ (ps.zip [a, b])) (hg : Gl X x) (hm : X.mg x = some (.ref C))
    (ha : PA X [e] ta) (hdb : (x == ("__debug__" : Str)) = false := by decide)
    (hs : starEach [e] X.env = (false, eval e X.env) :: starEach [] X.env := by rfl) (hpl : (backTo pos (starEach [] X.env)).any (·.1) = false := by rfl) :
    PE X (.Call (.Name x p) [e] [] pos) (tMk1 C f ta) := by
  constructor
  intro pins s σ H Q I h
  apply wpAny_Call_Name_kw
  refine ld_glob I hg hm ?_ hdb
  refine PySem.W.callWith_K (h₀ := X.base) I.mod.kin M.keep (thn (ha.run pos pins s σ H _ I h) ?_) hs hpl
  rintro us s1 ⟨vs, H1, I1, r, v, rfl, q⟩
  obtain ⟨u, rfl, ru⟩ := vals1 r
  exact ⟨I1.kIn, run_mk (all := []) M F hr (fun s self _ => bind s self u) (by show 1 ≤ sizeLine; decide) I1 ru q⟩
theorem pe_mkK (M : XMk X.K C fI B nid iid bB) (F : FnOk X.prog X.w X.K X.mg X.base CX0 k fI fd ps (spIni C f)) (hr : Room (k + 1) X.A)
    (bind : ∀ (s : Shared) (a b : Value), BindsTo s fd ⟨[a], [(f, b)]⟩ (ps.zip [a, b])) (hg : Gl X x) (hm : X.mg x = some (.ref C))
    (ha : PK X [⟨some f, e, kpos⟩] ta) (hall : (backToKw pos (keywordEach [⟨some f, e, kpos⟩] X.env)).all (·.1.isSome) = true := by rfl)
    (hks : (backToKw pos (keywordEach [⟨some f, e, kpos⟩] X.env)).filterMap (·.1) = [f] := by rfl) (hdb : (x == ("__debug__" : Str)) = false := by decide)
    (hpl : ((backTo pos (starEach [] X.env)).any (·.1) || (backToKw pos (keywordEach [⟨some f, e, kpos⟩] X.env)).any (·.1.isNone)) = false := by rfl) :
    PE X (.Call (.Name x p) [] [⟨some f, e, kpos⟩] pos) (tMk1 C f ta) := by
  constructor
  intro pins s σ H Q I h
  apply wpAny_Call_Name_kw
  refine ld_glob I hg hm ?_ hdb
  refine PySem.W.callWith_KW0 (h₀ := X.base) I.mod.kin M.keep hall (thn (ha.run pos pins s σ H _ I h) ?_) hpl
  rintro us s1 ⟨vs, H1, I1, r, v, rfl, q⟩
  obtain ⟨u, rfl, ru⟩ := vals1 r
  rw [hks]
  exact ⟨I1.kIn, run_mk (us := []) (all := []) M F hr (fun s self _ => bind s self u) (by show 0 ≤ sizeLine; decide) I1 ru q⟩
end
/-- what the reading of such an object's attribute asks of its class -/
structure XGet (K : PySem.W.Frag) (C : Addr) : Prop where
  ga : PySem.W.findIn K (.ref C) "__getattribute__" = some (some (.builtin "BaseException.__getattribute__"))
  gg : PySem.W.findIn K (.ref C) "__getattr__" = some none
  sb : PySem.W.subIn K (.ref C) (.type "BaseException") = some true
  hd : PySem.W.hasDictIn K C = true
theorem XAt.inst {X : Cx} {pins : List (Addr × Obj)} {σ : L2.St} {H : Hp} {s : Shared} {a C : Addr} {f : Str} {v : V} (I : Inv X pins σ H s) (h : XAt H a C f v) :
    ∃ ox od u, PySem.W.InstAt s.heap a ox C (some od) ∧ RelV v u ∧ PySem.W.lookIn f od = some (some u) := by
  obtain ⟨d, ha, hd⟩ := h
  obtain ⟨t1, ho⟩ := exo_at I.hok ha
  obtain ⟨mA, hns, rel⟩ := exd_at I.hok hd
  obtain ⟨od, hod, look⟩ := lookIn_ns hns
  have rf := rel f
  have e1 : ([(f, v)] : List (Str × V)).lookup f = some v := by simp [List.lookup]
  rw [e1] at rf
  obtain ⟨u, hu, ru⟩ := RelO.some_of rf
  exact ⟨_, od, u, ⟨ho, rfl, rfl, hod⟩, ru, by rw [look, hu]⟩
/-- e.f -/
def tXget (K : PySem.W.Frag) (f : Str) (te : TE) : TE := fun σ H Q => te σ H fun x H1 => ∃ (a C : Addr) (v : V), x = .ref a ∧ XAt H1 a C f v ∧ XGet K C ∧ PySem.W.findIn K (.ref C) f = some none ∧ Q v H1
theorem pe_xget {X : Cx} {e : Expr} {te : TE} {pos : Pos} {f : Str} (he : PE X e te) (hb : attributeBase e f X.env (eval e X.env) = eval e X.env := by rfl) : PE X (.Attribute e f pos) (tXget X.K f te) := by
  constructor
  intro pins s σ H Q I h
  refine attr_of hb (thn (he.run pins s σ H _ I h) ?_)
  rintro u s1 ⟨x, H1, I1, rx, a, C, v, rfl, ha, G, no, q⟩
  obtain rfl : u = Value.ref a := rx
  obtain ⟨ox, od, w', J, rw', lk⟩ := ha.inst I1
  exact PySem.HandSPX.exc_get I1.kIn J G.ga G.gg G.sb (PySem.W.findObj_own G.hd no rfl lk) (handed_of rw') ⟨v, H1, I1.tok _, rw', q⟩
/-- isinstance(e, c), e such an object -/
structure XIs (K : PySem.W.Frag) (C : Addr) : Prop extends XGet K C where
  cl : (PySem.W.clsIn K C).isSome = true
  ca : PySem.W.findIn K (.ref C) "__class__" = some (some (.builtin "object.__class__"))
  cg : PySem.W.specialIn K (.builtin "object.__class__") "__get__" = some (some (.builtin "getset_descriptor.__get__"))
  tk : PySem.W.takesIn K (.builtin "object.__class__") = some true
  ob : PySem.W.mroIn K C (.type "object") = some true
def rIsX (K : PySem.W.Frag) : List V → Hp → VK → Prop := fun xs H Q => ∃ (a C : Addr) (f : Str) (v c : V) (cv : Value) (b : Bool), xs = [.ref a, c] ∧ XAt H a C f v ∧ XIs K C ∧ ClsV c cv ∧ PySem.W.kitOne K (.ref C) cv = some b ∧ Q (.bl b) H
theorem call_isX {X : Cx} : CallR X (.builtin "isinstance") (rIsX X.K) := by
  intro pins s σ H xs us Q I r h
  obtain ⟨a, C, f, v, c, cv, b, rfl, ha, T, kc, e, q⟩ := h
  obtain ⟨u1, u2, rfl, r1, r2⟩ := vals2 r
  obtain rfl : u1 = Value.ref a := r1
  obtain rfl := kc.eq r2
  obtain ⟨ox, od, _, J, _⟩ := ha.inst I
  exact PySem.W.kia_one (PySem.W.kitx_exc T.cl T.ga T.gg T.sb T.ca T.cg T.tk T.ob) I.kIn J e (fun z => nomatch z) fun tk => ⟨.bl b, H, I.tok tk, rfl, q⟩
end DR

/-! data and exceptions carried to a later heap -/
namespace DR
open PySem PySem.Spec L2
theorem same_tup {K : PySem.W.Frag} {H H' : Hp} {a : Addr} {xs : List V} (e : Same H H') (h : SqT K H a xs) : SqT K H' a xs := by
  rcases h with (h | ⟨o, h⟩) | h
  · exact .inl (.inl (e _ _ h))
  · exact .inl (.inr ⟨o, e _ _ h⟩)
  · exact .inr h
mutual
theorem dp_same {K : PySem.W.Frag} {H H' : Hp} (e : Same H H') : ∀ (d : PyData) (v : V), Dp K H v d → Dp K H' v d
  | .none, _, h => by cases h; exact .non
  | .bool b, _, h => by cases h; exact .bl b
  | .int i, _, h => by cases h; exact .int i
  | .str x, _, h => by cases h; exact .str x
  | .list ds, _, h => by
    cases h with
    | lst hs ha => exact .lst (e.seq hs) (dps_same e ds _ ha)
  | .tuple ds, _, h => by
    cases h with
    | tup hs ha => exact .tup (same_tup e hs) (dps_same e ds _ ha)
  | .dict _, _, h => by cases h
theorem dps_same {K : PySem.W.Frag} {H H' : Hp} (e : Same H H') : ∀ (ds : List PyData) (vs : List V), DpAll K H vs ds → DpAll K H' vs ds
  | [], _, h => by cases h; exact .nil
  | d :: ds, _, h => by
    cases h with
    | cons h1 h2 => exact .cons (dp_same e d _ h1) (dps_same e ds _ h2)
end
theorem DpE.same {K : PySem.W.Frag} {H H' : Hp} {v : V} {d : PyData} (e : Same H H') (h : DpE K H v d) : DpE K H' v d :=
  h.imp (dp_same e d v) fun ⟨a, h1, h2, h3⟩ => ⟨a, h1, e _ _ h2, h3⟩
theorem XAt.same {H H' : Hp} {a C : Addr} {f : Str} {v : V} (e : Same H H') (h : XAt H a C f v) : XAt H' a C f v :=
  let ⟨d, h1, h2⟩ := h
  ⟨d, e _ _ h1, e _ _ h2⟩
/-- a list of bools as data -/
theorem dps_bools {K : PySem.W.Frag} {H : Hp} : ∀ bs : List Bool, DpAll K H (bs.map V.bl) (bs.map PyData.bool)
  | [] => .nil
  | b :: bs => .cons (.bl b) (dps_bools bs)
theorem dps_rep {K : PySem.W.Frag} {H : Hp} {v : V} {d : PyData} (h : Dp K H v d) : ∀ n : Nat, DpAll K H (List.replicate n v) (List.replicate n d)
  | 0 => .nil
  | n + 1 => .cons h (dps_rep h n)
/-- a test «x != y» of what is equal -/
theorem if_eq {c : Bool} {A B : Prop} (h : c = true) (b : B) : if (!c) = true then A else B := by
  rw [h]
  exact iteF b
/-- all that one class of the law's errors is known by -/
structure XC (P : Program) (w : World) (K : PySem.W.Frag) (mg : Str → Option Value) (base : Heap) (x f : Str) (C : Addr) : Prop where
  ex : ∃ (fI : Addr) (B nid iid : String) (bB : List Value) (fd : FuncData), XMk K C fI B nid iid bB ∧ FnOk P w K mg base CX0 1 fI fd ["self", f] (spIni C f) ∧
    (∀ (s : Shared) (a b : Value), BindsTo s fd ⟨[a, b], []⟩ ((["self", f] : List Str).zip [a, b])) ∧ (∀ (s : Shared) (a b : Value), BindsTo s fd ⟨[a], [(f, b)]⟩ ((["self", f] : List Str).zip [a, b]))
  mg : mg x = some (.ref C)
  is : XIs K C
  no : PySem.W.findIn K (.ref C) f = some none
section
variable {X : Cx} {C : Addr} {f x : Str} {e : Expr} {ta : TA} {p pos kpos : Pos}
theorem pe_mkC (T : XC X.prog X.w X.K X.mg X.base x f C) (hr : Room 2 X.A) (hg : Gl X x) (ha : PA X [e] ta) (hdb : (x == ("__debug__" : Str)) = false := by decide)
    (hs : starEach [e] X.env = (false, eval e X.env) :: starEach [] X.env := by rfl) (hpl : (backTo pos (starEach [] X.env)).any (·.1) = false := by rfl) :
    PE X (.Call (.Name x p) [e] [] pos) (tMk1 C f ta) := by
  obtain ⟨fI, B, nid, iid, bB, fd, M, F, b1, b2⟩ := T.ex
  exact pe_mk1 M F hr b1 hg T.mg ha hdb hs hpl
theorem pe_mkCK (T : XC X.prog X.w X.K X.mg X.base x f C) (hr : Room 2 X.A) (hg : Gl X x) (ha : PK X [⟨some f, e, kpos⟩] ta)
    (hall : (backToKw pos (keywordEach [⟨some f, e, kpos⟩] X.env)).all (·.1.isSome) = true := by rfl)
    (hks : (backToKw pos (keywordEach [⟨some f, e, kpos⟩] X.env)).filterMap (·.1) = [f] := by rfl) (hdb : (x == ("__debug__" : Str)) = false := by decide)
    (hpl : ((backTo pos (starEach [] X.env)).any (·.1) || (backToKw pos (keywordEach [⟨some f, e, kpos⟩] X.env)).any (·.1.isNone)) = false := by rfl) :
    PE X (.Call (.Name x p) [] [⟨some f, e, kpos⟩] pos) (tMk1 C f ta) := by
  obtain ⟨fI, B, nid, iid, bB, fd, M, F, b1, b2⟩ := T.ex
  exact pe_mkK M F hr b2 hg T.mg ha hall hks hdb hpl
end
end DR

/-! The documents' mathematics, over lists of codes. -/
namespace DM
abbrev W := List Nat
def lets : List Nat := [97, 98, 99, 100, 101, 102, 103, 104, 105, 106, 107, 108, 109, 110, 111, 112, 113, 114, 115, 116, 117, 118, 119, 120, 121, 122]
/-! ### cut -/
def cutStep (L S : List Nat) : Option (List W × W) → Nat → Option (List W × W)
  | none, _ => none
  | some (ps, w), c => if c ∈ L then some (ps, w ++ [c]) else if c ∈ S then (if w = [] then some (ps ++ [[c]], []) else some (ps ++ [w] ++ [[c]], [])) else none
def flush (ps : List W) (w : W) : List W := if w = [] then ps else ps ++ [w]
def cutM (L S : List Nat) (t : W) : Option (List W) := (t.foldl (cutStep L S) (some ([], []))).map fun x => flush x.1 x.2
theorem cut_none (L S : List Nat) : ∀ t : W, t.foldl (cutStep L S) none = none
  | [] => rfl
  | _ :: t => cut_none L S t
theorem cut_word {L S : List Nat} : ∀ (u : W) (ps : List W) (w r : W), (∀ c ∈ u, c ∈ L) → (u ++ r).foldl (cutStep L S) (some (ps, w)) = r.foldl (cutStep L S) (some (ps, w ++ u))
  | [], ps, w, r, _ => by simp
  | c :: u, ps, w, r, h => by
    have hc : c ∈ L := h c (List.mem_cons_self ..)
    have ih := cut_word (S := S) u ps (w ++ [c]) r fun x hx => h x (List.mem_cons_of_mem _ hx)
    show (u ++ r).foldl (cutStep L S) (cutStep L S (some (ps, w)) c) = _
    rw [show cutStep L S (some (ps, w)) c = some (ps, w ++ [c]) from if_pos hc, ih, List.append_assoc]
    rfl
theorem cut_sign {L S : List Nat} {c : Nat} (h1 : c ∉ L) (h2 : c ∈ S) (ps : List W) (w : W) : cutStep L S (some (ps, w)) c = some (flush ps w ++ [[c]], []) := by
  show (if c ∈ L then _ else if c ∈ S then (if w = [] then _ else _) else _) = _
  rw [if_neg h1, if_pos h2]
  unfold flush
  split <;> rfl
/-! ### trees -/
mutual
inductive Tr where
  | nd (k : W) (ms : List W) (ks : Trs)
inductive Trs where
  | nil
  | cons (t : Tr) (ts : Trs)
end
def headL (k : W) (ms : List W) : W := k ++ (ms.map fun m => 46 :: m).flatten
mutual
def Tr.text : Tr → W
  | .nd k ms ks => headL k ms ++ ks.wrap
def Trs.wrap : Trs → W
  | .nil => []
  | .cons t ts => 40 :: (t.text ++ ts.more)
def Trs.more : Trs → W
  | .nil => [41]
  | .cons t ts => 44 :: (t.text ++ ts.more)
end
mutual
def Tr.toks : Tr → List W
  | .nd k ms ks => headL k ms :: ks.wrapT
def Trs.wrapT : Trs → List W
  | .nil => []
  | .cons t ts => [40] :: (t.toks ++ ts.moreT)
def Trs.moreT : Trs → List W
  | .nil => [[41]]
  | .cons t ts => [44] :: (t.toks ++ ts.moreT)
end
def isName (w : W) : Bool := decide (1 ≤ w.length) && decide (w.length ≤ 8) && w.all fun c => decide (c ∈ lets)
def areNames (ws : List W) : Bool := ws.all isName && decide ws.Nodup
mutual
def Tr.good : Tr → Prop
  | .nd k ms ks => isName k = true ∧ areNames ms = true ∧ ks.good
def Trs.good : Trs → Prop
  | .nil => True
  | .cons t ts => t.good ∧ ts.good
end
/-- what read_rows cuts by -/
def LD : List Nat := lets ++ [46]
def SG : List Nat := [40, 41, 44]
theorem isName_mem {w : W} (h : isName w = true) : w ≠ [] ∧ w.length ≤ 8 ∧ ∀ c ∈ w, c ∈ lets := by
  unfold isName at h
  simp only [Bool.and_eq_true, decide_eq_true_eq, List.all_eq_true] at h
  obtain ⟨⟨h1, h2⟩, h3⟩ := h
  refine ⟨fun e => ?_, h2, h3⟩
  rw [e] at h1
  exact absurd h1 (by decide)
theorem areNames_mem {ws : List W} (h : areNames ws = true) : (∀ w ∈ ws, isName w = true) ∧ ws.Nodup := by
  unfold areNames at h
  simp only [Bool.and_eq_true, decide_eq_true_eq, List.all_eq_true] at h
  exact h
theorem head_in {k : W} {ms : List W} (hk : isName k = true) (hm : areNames ms = true) : headL k ms ≠ [] ∧ ∀ c ∈ headL k ms, c ∈ LD := by
  obtain ⟨k1, _, k2⟩ := isName_mem hk
  obtain ⟨m1, _⟩ := areNames_mem hm
  refine ⟨fun e => k1 (List.append_eq_nil_iff.mp e).1, fun c hc => ?_⟩
  rcases List.mem_append.mp hc with h | h
  · exact List.mem_append_left _ (k2 c h)
  · obtain ⟨l, hl, hc⟩ := List.mem_flatten.mp h
    obtain ⟨m, hm, rfl⟩ := List.mem_map.mp hl
    rcases List.mem_cons.mp hc with rfl | hc
    · exact List.mem_append_right _ (List.mem_cons_self ..)
    · exact List.mem_append_left _ ((isName_mem (m1 m hm)).2.2 c hc)
theorem sg_no {c : Nat} (h : c ∈ SG) : c ∉ LD := by
  unfold SG at h
  unfold LD lets
  simp at h
  rcases h with rfl | rfl | rfl <;> decide
mutual
theorem cut_tree : ∀ (t : Tr), t.good → ∀ (ps : List W) (r : W), ∃ ps' w', (t.text ++ r).foldl (cutStep LD SG) (some (ps, [])) = r.foldl (cutStep LD SG) (some (ps', w')) ∧ flush ps' w' = ps ++ t.toks
  | .nd k ms ks, g, ps, r => by
    obtain ⟨g1, g2, g3⟩ := g
    obtain ⟨h1, h2⟩ := head_in g1 g2
    rw [show (Tr.nd k ms ks).text = headL k ms ++ ks.wrap from by rw [Tr.text], List.append_assoc, cut_word _ _ _ _ h2]
    obtain ⟨ps', w', e1, e2⟩ := cut_wrap ks g3 ps (headL k ms) h1 r
    refine ⟨ps', w', e1, ?_⟩
    rw [e2, Tr.toks]
theorem cut_wrap : ∀ (ks : Trs), ks.good → ∀ (ps : List W) (h : W), h ≠ [] → ∀ r : W, ∃ ps' w', (ks.wrap ++ r).foldl (cutStep LD SG) (some (ps, [] ++ h)) = r.foldl (cutStep LD SG) (some (ps', w')) ∧ flush ps' w' = ps ++ (h :: ks.wrapT)
  | .nil, _, ps, h, nh, r => by
    refine ⟨ps, h, by simp [Trs.wrap], ?_⟩
    unfold flush
    rw [if_neg nh, Trs.wrapT]
  | .cons t ts, g, ps, h, nh, r => by
    rw [Trs.good] at g
    have s : (40 : Nat) ∈ SG := by decide
    rw [Trs.wrap, List.cons_append, List.foldl_cons, cut_sign (sg_no s) s, List.append_assoc]
    obtain ⟨p1, w1, e1, f1⟩ := cut_tree t g.1 (flush ps ([] ++ h) ++ [[40]]) (ts.more ++ r)
    rw [e1]
    obtain ⟨p2, w2, e2, f2⟩ := cut_more ts g.2 p1 w1 r
    refine ⟨p2, w2, e2, ?_⟩
    rw [f2, f1, Trs.wrapT]
    have e3 : flush ps ([] ++ h) = ps ++ [h] := by
      unfold flush
      rw [List.nil_append, if_neg nh]
    rw [e3]
    simp
theorem cut_more : ∀ (ts : Trs), ts.good → ∀ (ps : List W) (w r : W), ∃ ps' w', (ts.more ++ r).foldl (cutStep LD SG) (some (ps, w)) = r.foldl (cutStep LD SG) (some (ps', w')) ∧ flush ps' w' = flush ps w ++ ts.moreT
  | .nil, _, ps, w, r => by
    have s : (41 : Nat) ∈ SG := by decide
    refine ⟨flush ps w ++ [[41]], [], ?_, ?_⟩
    · rw [Trs.more, List.cons_append, List.foldl_cons, cut_sign (sg_no s) s, List.nil_append]
    · rw [Trs.moreT]
      rfl
  | .cons t ts, g, ps, w, r => by
    rw [Trs.good] at g
    have s : (44 : Nat) ∈ SG := by decide
    rw [Trs.more, List.cons_append, List.foldl_cons, cut_sign (sg_no s) s, List.append_assoc]
    obtain ⟨p1, w1, e1, f1⟩ := cut_tree t g.1 (flush ps w ++ [[44]]) (ts.more ++ r)
    rw [e1]
    obtain ⟨p2, w2, e2, f2⟩ := cut_more ts g.2 p1 w1 r
    refine ⟨p2, w2, e2, ?_⟩
    rw [f2, f1, Trs.moreT]
    simp
end
theorem cut_text (t : Tr) (g : t.good) : cutM LD SG t.text = some t.toks := by
  obtain ⟨ps, w, e, f⟩ := cut_tree t g [] []
  unfold cutM
  rw [List.append_nil] at e
  rw [e]
  simp [f]
end DM

namespace DM
abbrev Row := Nat × W × List W
/-- what the reading does with the names of a head: the sorted marks are a parameter -/
def headM (srt : List W → List W) (w : W) : Option (W × List W) :=
  match TL.spl [46] 0 [] w with
  | [] => none
  | k :: ms => if isName k = true ∧ areNames ms = true then some (k, srt ms) else none
def readStep (srt : List W → List W) : Option (Nat × W × List Row) → W → Option (Nat × W × List Row)
  | none, _ => none
  | some (d, b, rs), p =>
    if b = [40] ∨ b = [44] then (match headM srt p with | none => none | some (k, ms) => some (d, p, rs ++ [(d, k, ms)]))
    else if p = [40] ∧ b ≠ [41] then some (d + 1, p, rs)
    else if p = [41] ∧ 0 < d then some (d - 1, p, rs)
    else if p ≠ [44] ∨ d = 0 then none
    else some (d, p, rs)
def readM (srt : List W → List W) (ps : List W) : Option (List Row) :=
  match ps.foldl (readStep srt) (some (0, [44], [])) with
  | none => none
  | some (d, b, rs) => if 0 < d ∨ b = [40] ∨ b = [44] then none else some rs
mutual
def Tr.rows (srt : List W → List W) : Nat → Tr → List Row
  | d, .nd k ms ks => (d, k, srt ms) :: ks.rows srt (d + 1)
def Trs.rows (srt : List W → List W) : Nat → Trs → List Row
  | _, .nil => []
  | d, .cons t ts => t.rows srt d ++ ts.rows srt d
end
theorem headM_good {srt : List W → List W} {k : W} {ms : List W} (hk : isName k = true) (hm : areNames ms = true) : headM srt (headL k ms) = some (k, srt ms) := by
  have n46 : ∀ {w : W}, isName w = true → (46 : Nat) ∉ w := fun {w} h m => by
    have := (isName_mem h).2.2 46 m
    revert this
    decide
  have key : ∀ (ms : List W), (∀ m ∈ ms, isName m = true) → ∀ (k : W), isName k = true → TL.spl [46] 0 [] (headL k ms) = k :: ms := by
    intro ms
    induction ms with
    | nil =>
      intro _ k hk
      have := TL.spl_last1 (S := []) (acc := []) (n46 hk)
      simpa [headL] using this
    | cons m ms ih =>
      intro h k hk
      have h1 := TL.spl_part1 (S := []) (acc := []) (rest := headL m ms) (n46 hk)
      have e : headL k (m :: ms) = k ++ ([46] ++ headL m ms) := by simp [headL]
      rw [e, h1, ih (fun x hx => h x (List.mem_cons_of_mem _ hx)) m (h m (List.mem_cons_self ..))]
      rfl
  unfold headM
  rw [key ms (areNames_mem hm).1 k hk]
  exact if_pos ⟨hk, hm⟩
theorem head_not {k : W} {ms : List W} (hk : isName k = true) {c : Nat} (hc : c ∈ SG) : headL k ms ≠ [c] := by
  obtain ⟨k1, _, k2⟩ := isName_mem hk
  intro e
  unfold headL at e
  cases k with
  | nil => exact k1 rfl
  | cons a k =>
    rw [List.cons_append] at e
    injection e with e1 _
    have := k2 a (List.mem_cons_self ..)
    rw [e1] at this
    exact sg_no hc (List.mem_append_left _ this)
section
variable {srt : List W → List W}
mutual
theorem read_tree : ∀ (t : Tr), t.good → ∀ (d : Nat) (b : W) (rs : List Row) (r : List W), b = [40] ∨ b = [44] →
    ∃ b', b' ≠ [40] ∧ b' ≠ [44] ∧ (t.toks ++ r).foldl (readStep srt) (some (d, b, rs)) = r.foldl (readStep srt) (some (d, b', rs ++ t.rows srt d))
  | .nd k ms ks, g, d, b, rs, r, hb => by
    obtain ⟨g1, g2, g3⟩ := g
    have s : readStep srt (some (d, b, rs)) (headL k ms) = some (d, headL k ms, rs ++ [(d, k, srt ms)]) := by
      show (if b = [40] ∨ b = [44] then _ else _) = _
      rw [if_pos hb, headM_good g1 g2]
    rw [Tr.toks, List.cons_append, List.foldl_cons, s]
    obtain ⟨b', h1, h2, e⟩ := read_wrap ks g3 d (headL k ms) (head_not g1 (by decide)) (head_not g1 (by decide)) (head_not g1 (by decide)) (rs ++ [(d, k, srt ms)]) r
    refine ⟨b', h1, h2, ?_⟩
    rw [e, Tr.rows, List.append_assoc]
    rfl
theorem read_wrap : ∀ (ks : Trs), ks.good → ∀ (d : Nat) (b : W), b ≠ [40] → b ≠ [41] → b ≠ [44] → ∀ (rs : List Row) (r : List W),
    ∃ b', b' ≠ [40] ∧ b' ≠ [44] ∧ (ks.wrapT ++ r).foldl (readStep srt) (some (d, b, rs)) = r.foldl (readStep srt) (some (d, b', rs ++ ks.rows srt (d + 1)))
  | .nil, _, d, b, n1, _, n3, rs, r => ⟨b, n1, n3, by simp [Trs.wrapT, Trs.rows]⟩
  | .cons t ts, g, d, b, n1, n2, n3, rs, r => by
    rw [Trs.good] at g
    have s : readStep srt (some (d, b, rs)) [40] = some (d + 1, [40], rs) := by
      show (if b = [40] ∨ b = [44] then _ else _) = _
      rw [if_neg (fun h => h.elim n1 n3), if_pos ⟨rfl, n2⟩]
    rw [Trs.wrapT, List.cons_append, List.foldl_cons, s, List.append_assoc]
    obtain ⟨b1, h1, h2, e1⟩ := read_tree t g.1 (d + 1) [40] rs (ts.moreT ++ r) (.inl rfl)
    rw [e1]
    obtain ⟨b2, h3, h4, e2⟩ := read_more ts g.2 d b1 h1 h2 (rs ++ t.rows srt (d + 1)) r
    refine ⟨b2, h3, h4, ?_⟩
    rw [e2, Trs.rows, List.append_assoc]
theorem read_more : ∀ (ts : Trs), ts.good → ∀ (d : Nat) (b : W), b ≠ [40] → b ≠ [44] → ∀ (rs : List Row) (r : List W),
    ∃ b', b' ≠ [40] ∧ b' ≠ [44] ∧ (ts.moreT ++ r).foldl (readStep srt) (some (d + 1, b, rs)) = r.foldl (readStep srt) (some (d, b', rs ++ ts.rows srt (d + 1)))
  | .nil, _, d, b, n1, n3, rs, r => by
    have s : readStep srt (some (d + 1, b, rs)) [41] = some (d, [41], rs) := by
      show (if b = [40] ∨ b = [44] then _ else _) = _
      rw [if_neg (fun h => h.elim n1 n3), if_neg (fun h => absurd h.1 (by decide)), if_pos ⟨rfl, Nat.succ_pos d⟩]
      rfl
    refine ⟨[41], by decide, by decide, ?_⟩
    rw [Trs.moreT, List.cons_append, List.foldl_cons, s]
    simp [Trs.rows]
  | .cons t ts, g, d, b, n1, n3, rs, r => by
    rw [Trs.good] at g
    have s : readStep srt (some (d + 1, b, rs)) [44] = some (d + 1, [44], rs) := by
      show (if b = [40] ∨ b = [44] then _ else _) = _
      rw [if_neg (fun h => h.elim n1 n3), if_neg (fun h => absurd h.1 (by decide)), if_neg (fun h => absurd h.1 (by decide)), if_neg (fun h => h.elim (fun q => q rfl) (fun q => absurd q (Nat.succ_ne_zero d)))]
    rw [Trs.moreT, List.cons_append, List.foldl_cons, s, List.append_assoc]
    obtain ⟨b1, h1, h2, e1⟩ := read_tree t g.1 (d + 1) [44] rs (ts.moreT ++ r) (.inr rfl)
    rw [e1]
    obtain ⟨b2, h3, h4, e2⟩ := read_more ts g.2 d b1 h1 h2 (rs ++ t.rows srt (d + 1)) r
    refine ⟨b2, h3, h4, ?_⟩
    rw [e2, Trs.rows, List.append_assoc]
end
theorem read_text (t : Tr) (g : t.good) : readM srt t.toks = some (t.rows srt 0) := by
  obtain ⟨b, h1, h2, e⟩ := read_tree (srt := srt) t g 0 [44] [] [] (.inr rfl)
  unfold readM
  rw [List.append_nil] at e
  rw [e]
  show (if 0 < 0 ∨ b = [40] ∨ b = [44] then none else some ([] ++ t.rows srt 0)) = _
  rw [if_neg (fun h => by rcases h with h | h | h; exact absurd h (by decide); exact h1 h; exact h2 h)]
  rfl
end
/-! ### text_of -/
def pad (b : Int) (d : Nat) : W := if (d : Int) > b ∧ b > -1 then [40] else if (d : Int) ≤ b then List.replicate (b - d).toNat 41 ++ [44] else []
def outStep (x : W × Int) (r : Row) : W × Int := (x.1 ++ (pad x.2 r.1 ++ headL r.2.1 r.2.2), (r.1 : Int))
def shut (x : W × Int) (d : Nat) : W := x.1 ++ List.replicate (x.2 - d).toNat 41
def outM (rs : List Row) : W := shut (rs.foldl outStep ([], -1)) 0
mutual
def Tr.sortT (srt : List W → List W) : Tr → Tr
  | .nd k ms ks => .nd k (srt ms) (ks.sortT srt)
def Trs.sortT (srt : List W → List W) : Trs → Trs
  | .nil => .nil
  | .cons t ts => .cons (t.sortT srt) (ts.sortT srt)
end
section
variable {srt : List W → List W}
theorem shut_succ {x : W × Int} {d : Nat} (h : ((d + 1 : Nat) : Int) ≤ x.2) : shut x d = shut x (d + 1) ++ [41] := by
  unfold shut
  have e : (x.2 - (d : Int)).toNat = (x.2 - ((d + 1 : Nat) : Int)).toNat + 1 := by omega
  rw [e, List.replicate_succ', List.append_assoc]
mutual
theorem out_tree : ∀ (t : Tr) (d : Nat) (x : W × Int), (d : Int) ≤ ((t.rows srt d).foldl outStep x).2 ∧ shut ((t.rows srt d).foldl outStep x) d = x.1 ++ pad x.2 d ++ (t.sortT srt).text
  | .nd k ms ks, d, x => by
    rw [Tr.rows, List.foldl_cons, Tr.sortT, Tr.text]
    obtain ⟨h1, h2⟩ := out_wrap ks d (x.1 ++ (pad x.2 d ++ headL k (srt ms)))
    refine ⟨h1, ?_⟩
    show shut (List.foldl outStep (x.1 ++ (pad x.2 d ++ headL k (srt ms)), (d : Int)) (ks.rows srt (d + 1))) d = _
    rw [h2]
    simp [List.append_assoc]
theorem out_wrap : ∀ (ks : Trs) (d : Nat) (a : W), (d : Int) ≤ ((ks.rows srt (d + 1)).foldl outStep (a, (d : Int))).2 ∧ shut ((ks.rows srt (d + 1)).foldl outStep (a, (d : Int))) d = a ++ (ks.sortT srt).wrap
  | .nil, d, a => by
    rw [Trs.rows, List.foldl_nil, Trs.sortT, Trs.wrap]
    refine ⟨Int.le_refl _, ?_⟩
    unfold shut
    simp
  | .cons t ts, d, a => by
    rw [Trs.rows, List.foldl_append, Trs.sortT, Trs.wrap]
    obtain ⟨h1, h2⟩ := out_tree t (d + 1) (a, (d : Int))
    obtain ⟨h3, h4⟩ := out_more ts d _ h1
    refine ⟨by omega, ?_⟩
    rw [h4, h2]
    have e : pad (d : Int) (d + 1) = [40] := by
      unfold pad
      rw [if_pos ⟨by omega, by omega⟩]
    show a ++ pad (d : Int) (d + 1) ++ _ ++ _ = _
    rw [e]
    simp [List.append_assoc]
theorem out_more : ∀ (ts : Trs) (d : Nat) (x : W × Int), ((d + 1 : Nat) : Int) ≤ x.2 → ((d + 1 : Nat) : Int) ≤ ((ts.rows srt (d + 1)).foldl outStep x).2 ∧ shut ((ts.rows srt (d + 1)).foldl outStep x) d = shut x (d + 1) ++ (ts.sortT srt).more
  | .nil, d, x, h => by
    rw [Trs.rows, List.foldl_nil, Trs.sortT, Trs.more]
    exact ⟨h, shut_succ h⟩
  | .cons t ts, d, x, h => by
    rw [Trs.rows, List.foldl_append, Trs.sortT, Trs.more]
    obtain ⟨h1, h2⟩ := out_tree t (d + 1) x
    obtain ⟨h3, h4⟩ := out_more ts d _ h1
    refine ⟨h3, ?_⟩
    rw [h4, h2]
    have e : pad x.2 (d + 1) = List.replicate (x.2 - ((d + 1 : Nat) : Int)).toNat 41 ++ [44] := by
      unfold pad
      rw [if_neg (fun q => absurd q.1 (by omega)), if_pos h]
    rw [e]
    unfold shut
    simp [List.append_assoc]
end
theorem out_text (t : Tr) : outM (t.rows srt 0) = (t.sortT srt).text := by
  obtain ⟨_, h⟩ := out_tree (srt := srt) t 0 ([], -1)
  unfold outM
  rw [h]
  rfl
end
/-! ### paths_of -/
abbrev Pth := List Nat
def next (q : Pth) (d : Nat) : Pth := if q.length < d then q ++ [0] else if 0 < d then q.take (d - 1) ++ [q.getD (d - 1) 0 + 1] else q
def pathStep (x : List Pth × Pth) (r : Row) : List Pth × Pth := (x.1 ++ [next x.2 r.1], next x.2 r.1)
def pathsM (rs : List Row) : List Pth := (rs.foldl pathStep ([], [])).1
mutual
def Tr.nodes : Pth → Tr → List (Pth × Tr)
  | p, .nd k ms ks => (p, .nd k ms ks) :: ks.nodes p 0
def Trs.nodes : Pth → Nat → Trs → List (Pth × Tr)
  | _, _, .nil => []
  | p, i, .cons t ts => t.nodes (p ++ [i]) ++ ts.nodes p (i + 1)
end
section
variable {srt : List W → List W}
mutual
theorem path_tree : ∀ (t : Tr) (p q : Pth) (ps : List Pth), next q p.length = p →
    ∃ q', (t.rows srt p.length).foldl pathStep (ps, q) = (ps ++ (t.nodes p).map (·.1), q') ∧ p.length ≤ q'.length ∧ q'.take p.length = p
  | .nd k ms ks, p, q, ps, h => by
    rw [Tr.rows, List.foldl_cons, Tr.nodes]
    obtain ⟨q', e, h1, h2⟩ := path_wrap ks p (ps ++ [p])
    refine ⟨q', ?_, h1, h2⟩
    show List.foldl pathStep (ps ++ [next q p.length], next q p.length) _ = _
    rw [h, e]
    simp
theorem path_wrap : ∀ (ks : Trs) (p : Pth) (ps : List Pth), ∃ q', (ks.rows srt (p.length + 1)).foldl pathStep (ps, p) = (ps ++ (ks.nodes p 0).map (·.1), q') ∧ p.length ≤ q'.length ∧ q'.take p.length = p
  | .nil, p, ps => ⟨p, by simp [Trs.rows, Trs.nodes], Nat.le_refl _, List.take_length⟩
  | .cons t ts, p, ps => by
    rw [Trs.rows, List.foldl_append, Trs.nodes]
    have l1 : (p ++ [0]).length = p.length + 1 := by simp
    have n1 : next p (p ++ [0]).length = p ++ [0] := by
      unfold next
      rw [if_pos (by rw [l1]; exact Nat.lt_succ_self _)]
    obtain ⟨q1, e1, h1, h2⟩ := path_tree t (p ++ [0]) p ps n1
    rw [l1] at e1 h1 h2
    rw [e1]
    obtain ⟨q2, e2, h3, h4⟩ := path_more ts p 0 q1 h1 h2 (ps ++ (t.nodes (p ++ [0])).map (·.1))
    refine ⟨q2, ?_, h3, h4⟩
    rw [e2]
    simp
theorem path_more : ∀ (ts : Trs) (p : Pth) (i : Nat) (q : Pth), p.length + 1 ≤ q.length → q.take (p.length + 1) = p ++ [i] → ∀ ps : List Pth,
    ∃ q', (ts.rows srt (p.length + 1)).foldl pathStep (ps, q) = (ps ++ (ts.nodes p (i + 1)).map (·.1), q') ∧ p.length ≤ q'.length ∧ q'.take p.length = p
  | .nil, p, i, q, h1, h2, ps => by
    refine ⟨q, by simp [Trs.rows, Trs.nodes], Nat.le_trans (Nat.le_succ _) h1, ?_⟩
    have := congrArg (List.take p.length) h2
    rw [List.take_take, Nat.min_eq_left (Nat.le_succ _)] at this
    rw [this, List.take_left]
  | .cons t ts, p, i, q, h1, h2, ps => by
    rw [Trs.rows, List.foldl_append, Trs.nodes]
    have l1 : (p ++ [i + 1]).length = p.length + 1 := by simp
    have t1 : q.take p.length = p := by
      have := congrArg (List.take p.length) h2
      rw [List.take_take, Nat.min_eq_left (Nat.le_succ _)] at this
      rw [this, List.take_left]
    have g1 : q.getD p.length 0 = i := by
      have := congrArg (fun l => l.getD p.length 0) h2
      simp only [List.getD_eq_getElem?_getD] at this ⊢
      rw [List.getElem?_take_of_lt (Nat.lt_succ_self _)] at this
      rw [this]
      simp
    have n1 : next q (p ++ [i + 1]).length = p ++ [i + 1] := by
      unfold next
      rw [l1, if_neg (by omega), if_pos (Nat.succ_pos _)]
      show q.take p.length ++ [q.getD p.length 0 + 1] = _
      rw [t1, g1]
    obtain ⟨q1, e1, h3, h4⟩ := path_tree t (p ++ [i + 1]) q ps n1
    rw [l1] at e1 h3 h4
    rw [e1]
    obtain ⟨q2, e2, h5, h6⟩ := path_more ts p (i + 1) q1 h3 h4 (ps ++ (t.nodes (p ++ [i + 1])).map (·.1))
    refine ⟨q2, ?_, h5, h6⟩
    rw [e2]
    simp
end
theorem path_text (t : Tr) : pathsM (t.rows srt 0) = (t.nodes []).map (·.1) := by
  obtain ⟨q, e, _⟩ := path_tree (srt := srt) t [] [] [] rfl
  unfold pathsM
  have e' : List.foldl pathStep ([], []) (t.rows srt 0) = ([] ++ (t.nodes []).map (·.1), q) := e
  rw [e']
  rfl
end
end DM

namespace DM
/-! ### sorting -/
def rises (l : List W) : Prop := l.Pairwise fun a b => ¬ b < a
theorem nlt_trans {a b c : W} (h1 : ¬ b < a) (h2 : ¬ c < b) : ¬ c < a := by
  have h1' : a ≤ b := List.not_lt.mp h1
  have h2' : b ≤ c := List.not_lt.mp h2
  exact List.not_lt.mpr (List.le_trans h1' h2')
theorem nlt_anti {a b : W} (h1 : ¬ b < a) (h2 : ¬ a < b) : a = b := List.le_antisymm (List.not_lt.mp h1) (List.not_lt.mp h2)
theorem rises_uniq {ys zs : List W} (p : ys.Perm zs) (h1 : rises ys) (h2 : rises zs) : ys = zs :=
  List.Perm.eq_of_pairwise (le := fun a b => ¬ b < a) (fun _ _ _ _ a b => nlt_anti a b) h1 h2 p
open Classical in
noncomputable def srt (ms : List W) : List W := if h : ∃ ys : List W, ys.Perm ms ∧ rises ys then Classical.choose h else ms
theorem srt_eq {ys ms : List W} (p : ys.Perm ms) (h : rises ys) : srt ms = ys := by
  unfold srt
  have ex : ∃ ys : List W, ys.Perm ms ∧ rises ys := ⟨ys, p, h⟩
  rw [dif_pos ex]
  obtain ⟨q, r⟩ := Classical.choose_spec ex
  exact rises_uniq (q.trans p.symm) r h
theorem rises_of {zs : List PySem.Str} (h : PyProof.Rows.sortedS zs = true) : rises (zs.map TL.tl) := by
  have key : ∀ (l : List PySem.Str) (p : PySem.Str), PyProof.Rows.risingS p l = true → rises ((p :: l).map TL.tl) := by
    intro l
    induction l with
    | nil => intro p _; exact List.pairwise_singleton _ _
    | cons x r ih =>
      intro p h
      unfold PyProof.Rows.risingS at h
      rw [Bool.and_eq_true] at h
      obtain ⟨h1, h2⟩ := h
      rw [PyProof.Rows.ltCps_eq] at h1
      have h1' : ¬ TL.tl x < TL.tl p := by simpa using h1
      have ih' := ih x h2
      unfold rises at ih' ⊢
      rw [List.map_cons, List.pairwise_cons]
      refine ⟨fun y hy => ?_, ih'⟩
      rw [List.map_cons] at hy ih'
      rcases List.mem_cons.mp hy with rfl | hy
      · exact h1'
      · exact nlt_trans h1' ((List.pairwise_cons.mp ih').1 y hy)
  cases zs with
  | nil => exact List.Pairwise.nil
  | cons x r => exact key r x h
/-! ### trees whose marks are sorted -/
mutual
def Tr.fixed : Tr → Prop
  | .nd k ms ks => rises ms ∧ ks.fixed
def Trs.fixed : Trs → Prop
  | .nil => True
  | .cons t ts => t.fixed ∧ ts.fixed
end
mutual
theorem fix_tree : ∀ t : Tr, t.fixed → t.sortT srt = t
  | .nd k ms ks, h => by
    rw [Tr.fixed] at h
    rw [Tr.sortT, srt_eq (.refl _) h.1, fix_trees ks h.2]
theorem fix_trees : ∀ ts : Trs, ts.fixed → ts.sortT srt = ts
  | .nil, _ => by rw [Trs.sortT]
  | .cons t ts, h => by
    rw [Trs.fixed] at h
    rw [Trs.sortT, fix_tree t h.1, fix_trees ts h.2]
end
mutual
/-- the same tree, the marks of each node in another order -/
def Tr.mix : Tr → Tr → Prop
  | .nd k ms ks, .nd k' ms' ks' => k = k' ∧ ms.Perm ms' ∧ ks.mix ks'
def Trs.mix : Trs → Trs → Prop
  | .nil, .nil => True
  | .cons t ts, .cons t' ts' => t.mix t' ∧ ts.mix ts'
  | _, _ => False
end
mutual
theorem mix_rows : ∀ (t t' : Tr), t.mix t' → t.fixed → (∀ d, t'.rows srt d = t.rows srt d) ∧ True
  | .nd k ms ks, .nd k' ms' ks', h, f => by
    rw [Tr.mix] at h
    obtain ⟨rfl, p, h⟩ := h
    rw [Tr.fixed] at f
    refine ⟨fun d => ?_, trivial⟩
    have e : srt ms' = srt ms := by rw [srt_eq p f.1, srt_eq (.refl _) f.1]
    rw [Tr.rows, Tr.rows, e, (mixs_rows ks ks' h f.2).1 (d + 1)]
theorem mixs_rows : ∀ (t t' : Trs), t.mix t' → t.fixed → (∀ d, t'.rows srt d = t.rows srt d) ∧ True
  | .nil, .nil, _, _ => ⟨fun d => rfl, trivial⟩
  | .nil, .cons _ _, h, _ => by simp [Trs.mix] at h
  | .cons _ _, .nil, h, _ => by simp [Trs.mix] at h
  | .cons t ts, .cons t' ts', h, f => by
    rw [Trs.mix] at h
    rw [Trs.fixed] at f
    refine ⟨fun d => ?_, trivial⟩
    rw [Trs.rows, Trs.rows, (mix_rows t t' h.1 f.1).1 d, (mixs_rows ts ts' h.2 f.2).1 d]
end
mutual
theorem mix_good : ∀ (t t' : Tr), t.mix t' → t.good → t'.good
  | .nd k ms ks, .nd k' ms' ks', h, g => by
    rw [Tr.mix] at h
    obtain ⟨rfl, p, h⟩ := h
    rw [Tr.good] at g ⊢
    refine ⟨g.1, ?_, mixs_good ks ks' h g.2.2⟩
    obtain ⟨a, b⟩ := areNames_mem g.2.1
    unfold areNames
    rw [Bool.and_eq_true, decide_eq_true_eq, List.all_eq_true]
    exact ⟨fun w hw => a w (p.mem_iff.mpr hw), p.nodup b⟩
theorem mixs_good : ∀ (t t' : Trs), t.mix t' → t.good → t'.good
  | .nil, .nil, _, g => g
  | .nil, .cons _ _, h, _ => by simp [Trs.mix] at h
  | .cons _ _, .nil, h, _ => by simp [Trs.mix] at h
  | .cons t ts, .cons t' ts', h, g => by
    rw [Trs.mix] at h
    rw [Trs.good] at g ⊢
    exact ⟨mix_good t t' h.1 g.1, mixs_good ts ts' h.2 g.2⟩
end
/-! ### the rows of a node and all below it -/
def Tr.kind : Tr → W
  | .nd k _ _ => k
def Tr.marks : Tr → List W
  | .nd _ ms _ => ms
def Tr.kids : Tr → Trs
  | .nd _ _ ks => ks
def Trs.len : Trs → Nat
  | .nil => 0
  | .cons _ ts => ts.len + 1
def low (d : Nat) (rs : List Row) : Prop := ∀ r rest, rs = r :: rest → r.1 ≤ d
theorem low_nil (d : Nat) : low d [] := fun _ _ e => nomatch e
theorem rows_head (t : Tr) (d : Nat) : t.rows srt d = (d, t.kind, srt t.marks) :: t.kids.rows srt (d + 1) := by
  cases t
  rw [Tr.rows]
  rfl
theorem low_trees : ∀ (ts : Trs) (d : Nat), low d (ts.rows srt d)
  | .nil, d => by rw [Trs.rows]; exact low_nil d
  | .cons t ts, d => by
    rw [Trs.rows, rows_head]
    intro r rest e
    rw [List.cons_append] at e
    obtain ⟨rfl, _⟩ := List.cons.inj e
    exact Nat.le_refl _
theorem low_append {d e : Nat} {a b : List Row} (ha : low d a) (hb : low e b) (h : e ≤ d) : low d (a ++ b) := by
  intro r rest q
  cases a with
  | nil => exact Nat.le_trans (hb r rest q) h
  | cons x a =>
    rw [List.cons_append] at q
    obtain ⟨rfl, _⟩ := List.cons.inj q
    exact ha x a rfl
mutual
theorem nodes_len : ∀ (t : Tr) (p : Pth) (d : Nat), (t.nodes p).length = (t.rows srt d).length
  | .nd k ms ks, p, d => by
    rw [Tr.nodes, Tr.rows, List.length_cons, List.length_cons, nodess_len ks p 0 (d + 1)]
theorem nodess_len : ∀ (ts : Trs) (p : Pth) (i d : Nat), (ts.nodes p i).length = (ts.rows srt d).length
  | .nil, p, i, d => by rw [Trs.nodes, Trs.rows]; rfl
  | .cons t ts, p, i, d => by
    rw [Trs.nodes, Trs.rows, List.length_append, List.length_append, nodes_len t _ d, nodess_len ts p (i + 1) d]
end
mutual
theorem seg_tree : ∀ (t : Tr) (p : Pth) (i : Nat) (q : Pth) (s : Tr), (t.nodes p)[i]? = some (q, s) →
    p.length ≤ q.length ∧ ∃ post, (t.rows srt p.length).drop i = s.rows srt q.length ++ post ∧ low q.length post
  | .nd k ms ks, p, i, q, s, h => by
    rw [Tr.nodes] at h
    cases i with
    | zero =>
      obtain ⟨rfl, rfl⟩ := Prod.mk.inj (Option.some.inj h)
      exact ⟨Nat.le_refl _, [], by simp, low_nil _⟩
    | succ i =>
      rw [List.getElem?_cons_succ] at h
      obtain ⟨h1, post, h2, h3⟩ := seg_trees ks p 0 i q s h
      refine ⟨Nat.le_trans (Nat.le_succ _) h1, post, ?_, h3⟩
      rw [Tr.rows, List.drop_succ_cons, h2]
theorem seg_trees : ∀ (ts : Trs) (p : Pth) (j i : Nat) (q : Pth) (s : Tr), (ts.nodes p j)[i]? = some (q, s) →
    p.length + 1 ≤ q.length ∧ ∃ post, (ts.rows srt (p.length + 1)).drop i = s.rows srt q.length ++ post ∧ low q.length post
  | .nil, p, j, i, q, s, h => by
    rw [Trs.nodes] at h
    simp at h
  | .cons t ts, p, j, i, q, s, h => by
    rw [Trs.nodes] at h
    have l1 : (p ++ [j]).length = p.length + 1 := by simp
    by_cases c : i < (t.nodes (p ++ [j])).length
    · rw [List.getElem?_append_left c] at h
      obtain ⟨h1, post, h2, h3⟩ := seg_tree t (p ++ [j]) i q s h
      rw [l1] at h1 h2
      refine ⟨h1, post ++ ts.rows srt (p.length + 1), ?_, low_append h3 (low_trees ts _) h1⟩
      rw [Trs.rows, List.drop_append_of_le_length (by rw [← nodes_len t (p ++ [j])]; exact Nat.le_of_lt c), h2, List.append_assoc]
    · have c' : (t.nodes (p ++ [j])).length ≤ i := Nat.le_of_not_lt c
      rw [List.getElem?_append_right c'] at h
      obtain ⟨h1, post, h2, h3⟩ := seg_trees ts p (j + 1) _ q s h
      refine ⟨h1, post, ?_, h3⟩
      rw [Trs.rows, List.drop_append, List.drop_of_length_le (by rw [← nodes_len t (p ++ [j])]; exact c'), List.nil_append, ← nodes_len t (p ++ [j])]
      exact h2
end
mutual
theorem rows_deep : ∀ (t : Tr) (d : Nat), ∀ r ∈ t.rows srt d, d ≤ r.1
  | .nd k ms ks, d => by
    rw [Tr.rows]
    intro r hr
    rcases List.mem_cons.mp hr with rfl | hr
    · exact Nat.le_refl _
    · exact Nat.le_trans (Nat.le_succ d) (rowss_deep ks (d + 1) r hr)
theorem rowss_deep : ∀ (ts : Trs) (d : Nat), ∀ r ∈ ts.rows srt d, d ≤ r.1
  | .nil, d => by
    rw [Trs.rows]
    intro r hr
    exact absurd hr List.not_mem_nil
  | .cons t ts, d => by
    rw [Trs.rows]
    intro r hr
    rcases List.mem_append.mp hr with hr | hr
    · exact rows_deep t d r hr
    · exact rowss_deep ts d r hr
end
/-- as many rows just below as there are children -/
theorem kids_count : ∀ (ts : Trs) (d : Nat), ((ts.rows srt d).filter fun r => decide (r.1 = d)).length = ts.len
  | .nil, d => by rw [Trs.rows]; rfl
  | .cons t ts, d => by
    rw [Trs.rows, List.filter_append, List.length_append, kids_count ts d, rows_head, List.filter_cons, if_pos (decide_eq_true rfl)]
    have e : (t.kids.rows srt (d + 1)).filter (fun r => decide (r.1 = d)) = [] := by
      rw [List.filter_eq_nil_iff]
      intro r hr
      have := rowss_deep t.kids (d + 1) r hr
      simp
      omega
    rw [e, Trs.len]
    simp [Nat.add_comm]
mutual
/-- a part, moved -/
theorem move_tree : ∀ (t : Tr) (d e : Nat), t.rows srt (d + e) = (t.rows srt d).map fun r => (r.1 + e, r.2)
  | .nd k ms ks, d, e => by
    rw [Tr.rows, Tr.rows, List.map_cons, ← move_trees ks (d + 1) e, Nat.add_right_comm]
theorem move_trees : ∀ (ts : Trs) (d e : Nat), ts.rows srt (d + e) = (ts.rows srt d).map fun r => (r.1 + e, r.2)
  | .nil, d, e => by rw [Trs.rows, Trs.rows]; rfl
  | .cons t ts, d, e => by rw [Trs.rows, Trs.rows, List.map_append, move_tree t d e, move_trees ts d e]
end
end DM

/-! The reader that goes from place to place, and the reading of the cut text: they take the same texts. -/
namespace DM
open TL
def isL (c : Nat) : Bool := decide (c ∈ lets)
def isD (c : Nat) : Bool := decide (c ∈ LD)
def runL (u : W) : W := u.takeWhile isL
def runD (u : W) : W := u.takeWhile isD
inductive Mk : List W → W → Option W → Prop
  | done {seen : List W} {u : W} (h : ∀ r, u ≠ 46 :: r) : Mk seen u (some u)
  | bad {seen : List W} {r : W} (h : isName (runL r) = false ∨ runL r ∈ seen) : Mk seen (46 :: r) none
  | more {seen : List W} {r : W} {x : Option W} (h : isName (runL r) = true) (n : runL r ∉ seen) (m : Mk (seen ++ [runL r]) (r.drop (runL r).length) x) : Mk seen (46 :: r) x
inductive Hd : W → Option W → Prop
  | bad {u : W} (h : isName (runL u) = false) : Hd u none
  | more {u : W} {x : Option W} (h : isName (runL u) = true) (m : Mk [] (u.drop (runL u).length) x) : Hd u x
mutual
inductive Rd : W → Option W → Prop
  | bad {u : W} (h : Hd u none) : Rd u none
  | leaf {u r : W} (h : Hd u (some r)) (n : ∀ r', r ≠ 40 :: r') : Rd u (some r)
  | node {u r : W} {x : Option W} (h : Hd u (some (40 :: r))) (k : Kd r x) : Rd u x
inductive Kd : W → Option W → Prop
  | bad {u : W} (h : Rd u none) : Kd u none
  | comma {u r : W} {x : Option W} (h : Rd u (some (44 :: r))) (k : Kd r x) : Kd u x
  | shut {u r : W} (h : Rd u (some (41 :: r))) : Kd u (some r)
  | no {u r : W} (h : Rd u (some r)) (n1 : ∀ r', r ≠ 44 :: r') (n2 : ∀ r', r ≠ 41 :: r') : Kd u none
end
/-! ### runs -/
theorem isL_D {c : Nat} (h : isL c = true) : isD c = true := by
  unfold isL at h
  unfold isD LD
  exact decide_eq_true (List.mem_append_left _ (of_decide_eq_true h))
theorem isD_cases {c : Nat} (h : isD c = true) : isL c = true ∨ c = 46 := by
  unfold isD LD at h
  rcases List.mem_append.mp (of_decide_eq_true h) with h | h
  · exact .inl (decide_eq_true h)
  · exact .inr (List.mem_singleton.mp h)
theorem dropW {p : Nat → Bool} : ∀ u : W, u.drop (u.takeWhile p).length = u.dropWhile p
  | [] => rfl
  | c :: u => by
    cases h : p c
    · rw [List.takeWhile_cons_of_neg (by simp [h]), List.dropWhile_cons_of_neg (by simp [h])]
      rfl
    · rw [List.takeWhile_cons_of_pos h, List.dropWhile_cons_of_pos h]
      exact dropW u
theorem dropW_head {p : Nat → Bool} : ∀ (u : W) (c : Nat) (r : W), u.dropWhile p = c :: r → p c = false
  | [], c, r, e => nomatch e
  | a :: u, c, r, e => by
    cases h : p a
    · rw [List.dropWhile_cons_of_neg (by simp [h])] at e
      injection e with e1 e2
      rw [← e1]
      exact h
    · rw [List.dropWhile_cons_of_pos h] at e
      exact dropW_head u c r e
theorem run_split : ∀ u : W, runD u = runL u ++ runD (u.drop (runL u).length)
  | [] => rfl
  | c :: u => by
    cases h : isL c
    · have e : runL (c :: u) = [] := List.takeWhile_cons_of_neg (by simp [h])
      rw [e]
      rfl
    · have e : runL (c :: u) = c :: runL u := List.takeWhile_cons_of_pos h
      have e2 : runD (c :: u) = c :: runD u := List.takeWhile_cons_of_pos (isL_D h)
      rw [e, e2, run_split u]
      rfl
theorem runL_no (u : W) : (46 : Nat) ∉ runL u := fun m => by
  have : ∀ c ∈ runL u, isL c = true := fun c hc => List.all_eq_true.mp (List.all_takeWhile) c hc
  have := this 46 m
  revert this
  decide
theorem runL_let (u : W) : ∀ c ∈ runL u, c ∈ lets := fun c hc => of_decide_eq_true (List.all_eq_true.mp (List.all_takeWhile (p := isL)) c hc)
theorem runD_in (u : W) : ∀ c ∈ runD u, c ∈ LD := fun c hc => of_decide_eq_true (List.all_eq_true.mp (List.all_takeWhile (p := isD)) c hc)
/-- what stands behind the first name of a run -/
def tailP : W → List W
  | [] => []
  | _ :: t => spl [46] 0 [] t
theorem rest_dot (u : W) : runD (u.drop (runL u).length) = [] ∨ ∃ t, runD (u.drop (runL u).length) = 46 :: t := by
  rw [show u.drop (runL u).length = u.dropWhile isL from dropW u]
  cases h : u.dropWhile isL with
  | nil => exact .inl rfl
  | cons c r =>
    have nl := dropW_head u c r h
    cases hd : isD c
    · exact .inl (List.takeWhile_cons_of_neg (by simp [hd]))
    · rcases isD_cases hd with z | rfl
      · rw [nl] at z
        cases z
      · exact .inr ⟨runD r, List.takeWhile_cons_of_pos (by decide)⟩
theorem spl_run (u : W) : spl [46] 0 [] (runD u) = runL u :: tailP (runD (u.drop (runL u).length)) := by
  rw [run_split u]
  rcases rest_dot u with e | ⟨t, e⟩
  · rw [e, List.append_nil]
    exact spl_last1 (runL_no u)
  · rw [e]
    exact spl_part1 (S := []) (rest := t) (acc := []) (runL_no u)
def headOk (w : W) : Bool := match spl [46] 0 [] w with | [] => false | k :: ms => isName k && areNames ms
theorem headM_is (srt : List W → List W) (w : W) : headM srt w = none ↔ headOk w = false := by
  unfold headM headOk
  cases spl [46] 0 [] w with
  | nil => simp
  | cons k ms =>
    show (if isName k = true ∧ areNames ms = true then some (k, srt ms) else none) = none ↔ _
    by_cases h : isName k = true ∧ areNames ms = true
    · simp [h.1, h.2]
    · rw [if_neg h]
      refine ⟨fun _ => ?_, fun _ => rfl⟩
      show (isName k && areNames ms) = false
      cases h1 : isName k
      · rfl
      · cases h2 : areNames ms
        · rfl
        · exact absurd ⟨h1, h2⟩ h
theorem areNames_snoc {s : List W} {m : W} (h : areNames s = true) (hm : isName m = true) (n : m ∉ s) : areNames (s ++ [m]) = true := by
  obtain ⟨h1, h2⟩ := areNames_mem h
  unfold areNames
  rw [Bool.and_eq_true, List.all_eq_true, decide_eq_true_eq]
  refine ⟨fun w hw => ?_, List.nodup_append.mpr ⟨h2, by simp, fun a ha b hb e => ?_⟩⟩
  · rcases List.mem_append.mp hw with hw | hw
    · exact h1 w hw
    · rw [List.mem_singleton.mp hw]
      exact hm
  · rw [List.mem_singleton.mp hb] at e
    exact n (e ▸ ha)
theorem areNames_bad {s r : List W} {m : W} (h : isName m = false ∨ m ∈ s) : areNames (s ++ m :: r) = false := by
  refine Bool.eq_false_iff.mpr fun z => ?_
  obtain ⟨h1, h2⟩ := areNames_mem z
  rcases h with h | h
  · have := h1 m (List.mem_append_right _ (List.mem_cons_self ..))
    rw [h] at this
    cases this
  · exact (List.nodup_append.mp h2).2.2 m h m (List.mem_cons_self ..) rfl
theorem runD_dot (r : W) : runD (46 :: r) = 46 :: runD r := List.takeWhile_cons_of_pos (by decide)
theorem no_let_drop (u : W) : ∀ c r, u.drop (runL u).length = c :: r → isL c = false := fun c r e => by
  rw [show u.drop (runL u).length = u.dropWhile isL from dropW u] at e
  exact dropW_head u c r e
theorem mk_end {seen : List W} {v : W} {x : Option W} (h : Mk seen v x) : (∀ c r, v = c :: r → isL c = false) → areNames seen = true →
    (x = none → areNames (seen ++ tailP (runD v)) = false) ∧ ∀ r, x = some r → areNames (seen ++ tailP (runD v)) = true ∧ r = v.drop (runD v).length := by
  induction h with
  | @done seen u h =>
    intro nl g
    have e : runD u = [] := by
      cases u with
      | nil => rfl
      | cons c r =>
        refine List.takeWhile_cons_of_neg fun z => ?_
        rcases isD_cases z with z | rfl
        · rw [nl c r rfl] at z
          cases z
        · exact h r rfl
    rw [e, show tailP [] = [] from rfl, List.append_nil]
    exact ⟨fun z => (nomatch z), fun r e => ⟨g, (Option.some.inj e).symm⟩⟩
  | @bad seen r h =>
    intro _ _
    rw [runD_dot, show tailP (46 :: runD r) = spl [46] 0 [] (runD r) from rfl, spl_run]
    exact ⟨fun _ => areNames_bad h, fun r e => nomatch e⟩
  | @more seen r x h n m ih =>
    intro _ g
    rw [runD_dot, show tailP (46 :: runD r) = spl [46] 0 [] (runD r) from rfl, spl_run]
    have := ih (no_let_drop r) (areNames_snoc g h n)
    rw [List.append_assoc] at this
    refine ⟨this.1, fun q e => ?_⟩
    obtain ⟨e1, e2⟩ := this.2 q e
    refine ⟨e1, ?_⟩
    rw [e2, List.drop_drop, List.length_cons, List.drop_succ_cons]
    have l := congrArg List.length (run_split r)
    rw [List.length_append] at l
    rw [l]
theorem hd_end {u : W} {x : Option W} (h : Hd u x) : (x = none → headOk (runD u) = false) ∧ ∀ r, x = some r → headOk (runD u) = true ∧ r = u.drop (runD u).length := by
  have e : headOk (runD u) = (isName (runL u) && areNames (tailP (runD (u.drop (runL u).length)))) := by
    unfold headOk
    rw [spl_run]
  rw [e]
  cases h with
  | bad h =>
    rw [h]
    exact ⟨fun _ => rfl, fun r e => nomatch e⟩
  | more h m =>
    rw [h, Bool.true_and]
    have := mk_end m (no_let_drop u) (by decide)
    rw [List.nil_append] at this
    refine ⟨this.1, fun r e => ⟨(this.2 r e).1, ?_⟩⟩
    rw [(this.2 r e).2, List.drop_drop]
    have l := congrArg List.length (run_split u)
    rw [List.length_append] at l
    rw [l]
/-! ### all is read, and what is left is shorter -/
theorem mk_suf {seen : List W} {v : W} {x : Option W} (h : Mk seen v x) : ∀ r, x = some r → r <:+ v := by
  induction h with
  | done h =>
    intro r e
    rw [Option.some.inj e]
    exact List.suffix_refl _
  | bad h => exact fun r e => nomatch e
  | @more seen r x h n m ih =>
    intro q e
    exact (ih q e).trans ((List.drop_suffix _ r).trans (List.suffix_cons _ _))
theorem isName_pos {w : W} (h : isName w = true) : 1 ≤ w.length := by
  have := (isName_mem h).1
  cases w with
  | nil => exact absurd rfl this
  | cons _ _ => exact Nat.succ_le_succ (Nat.zero_le _)
theorem hd_suf {u r : W} (h : Hd u (some r)) : r <:+ u ∧ r.length < u.length := by
  cases h with
  | more h m =>
    have s := mk_suf m r rfl
    refine ⟨s.trans (List.drop_suffix _ _), ?_⟩
    have l := s.length_le
    rw [List.length_drop] at l
    have p := isName_pos h
    have q : (runL u).length ≤ u.length := (List.takeWhile_prefix _).length_le
    omega
mutual
theorem rd_suf : ∀ {u : W} {x : Option W}, Rd u x → ∀ r, x = some r → r <:+ u ∧ r.length < u.length
  | _, _, .bad _, _, e => nomatch e
  | _, _, .leaf h _, r, e => by
    obtain rfl := Option.some.inj e
    exact hd_suf h
  | _, _, .node h k, r, e => by
    have h1 := hd_suf h
    have h2 := kd_suf k r e
    have h3 := h1.2
    rw [List.length_cons] at h3
    exact ⟨h2.1.trans ((List.suffix_cons _ _).trans h1.1), by omega⟩
theorem kd_suf : ∀ {u : W} {x : Option W}, Kd u x → ∀ r, x = some r → r <:+ u ∧ r.length < u.length
  | _, _, .bad _, _, e => nomatch e
  | _, _, .comma h k, r, e => by
    have h1 := rd_suf h _ rfl
    have h2 := kd_suf k r e
    have h3 := h1.2
    rw [List.length_cons] at h3
    exact ⟨h2.1.trans ((List.suffix_cons _ _).trans h1.1), by omega⟩
  | _, _, .shut h, r, e => by
    obtain rfl := Option.some.inj e
    have h1 := rd_suf h _ rfl
    have h3 := h1.2
    rw [List.length_cons] at h3
    exact ⟨(List.suffix_cons _ _).trans h1.1, by omega⟩
  | _, _, .no _ _ _, _, e => nomatch e
end
theorem mk_all : ∀ (n : Nat) (seen : List W) (v : W), v.length ≤ n → ∃ x, Mk seen v x
  | 0, seen, v, l => ⟨_, .done fun r e => by rw [e] at l; exact absurd l (by simp)⟩
  | n + 1, seen, v, l => by
    by_cases h : ∃ r, v = 46 :: r
    · obtain ⟨r, rfl⟩ := h
      by_cases h : isName (runL r) = false ∨ runL r ∈ seen
      · exact ⟨_, .bad h⟩
      · have h1 : isName (runL r) = true := by
          cases z : isName (runL r)
          · exact absurd (.inl z) h
          · rfl
        obtain ⟨x, m⟩ := mk_all n (seen ++ [runL r]) (r.drop (runL r).length) (by rw [List.length_drop]; rw [List.length_cons] at l; omega)
        exact ⟨x, .more h1 (fun z => h (.inr z)) m⟩
    · exact ⟨_, .done fun r e => h ⟨r, e⟩⟩
theorem hd_all (u : W) : ∃ x, Hd u x := by
  cases h : isName (runL u)
  · exact ⟨_, .bad h⟩
  · obtain ⟨x, m⟩ := mk_all _ [] (u.drop (runL u).length) (Nat.le_refl _)
    exact ⟨x, .more h m⟩
theorem rd_all : ∀ (n : Nat), (∀ u : W, u.length ≤ n → ∃ x, Rd u x) ∧ ∀ u : W, u.length ≤ n → ∃ x, Kd u x
  | 0 => by
    have a : ∀ u : W, u.length ≤ 0 → Rd u none := fun u l => by
      have : u = [] := List.length_eq_zero_iff.mp (by omega)
      rw [this]
      exact .bad (.bad (by decide))
    exact ⟨fun u l => ⟨_, a u l⟩, fun u l => ⟨_, .bad (a u l)⟩⟩
  | n + 1 => by
    obtain ⟨ih1, ih2⟩ := rd_all n
    have a : ∀ u : W, u.length ≤ n + 1 → ∃ x, Rd u x := fun u l => by
      obtain ⟨x, h⟩ := hd_all u
      cases x with
      | none => exact ⟨_, .bad h⟩
      | some r =>
        by_cases z : ∃ r', r = 40 :: r'
        · obtain ⟨r', rfl⟩ := z
          have := (hd_suf h).2
          rw [List.length_cons] at this
          obtain ⟨x, k⟩ := ih2 r' (by omega)
          exact ⟨x, .node h k⟩
        · exact ⟨_, .leaf h fun r' e => z ⟨r', e⟩⟩
    refine ⟨a, fun u l => ?_⟩
    obtain ⟨x, h⟩ := a u l
    cases x with
    | none => exact ⟨_, .bad h⟩
    | some r =>
      have s := (rd_suf h r rfl).2
      by_cases z : ∃ r', r = 44 :: r'
      · obtain ⟨r', rfl⟩ := z
        rw [List.length_cons] at s
        obtain ⟨x, k⟩ := ih2 r' (by omega)
        exact ⟨x, .comma h k⟩
      · by_cases z2 : ∃ r', r = 41 :: r'
        · obtain ⟨r', rfl⟩ := z2
          exact ⟨_, .shut h⟩
        · exact ⟨_, .no h (fun r' e => z ⟨r', e⟩) fun r' e => z2 ⟨r', e⟩⟩
/-! ### the cut text, from a place on -/
def stepA : Option (Nat × W) → W → Option (Nat × W)
  | none, _ => none
  | some (d, b), p =>
    if b = [40] ∨ b = [44] then (if headOk p = true then some (d, p) else none)
    else if p = [40] ∧ b ≠ [41] then some (d + 1, p)
    else if p = [41] ∧ 0 < d then some (d - 1, p)
    else if p ≠ [44] ∨ d = 0 then none
    else some (d, p)
def finA : Option (Nat × W) → Bool
  | none => false
  | some (d, b) => !decide (0 < d ∨ b = [40] ∨ b = [44])
theorem read_some (srt : List W → List W) (d : Nat) (b : W) (rs : List Row) (p : W) : readStep srt (some (d, b, rs)) p =
    if b = [40] ∨ b = [44] then (match headM srt p with | none => none | some (k, ms) => some (d, p, rs ++ [(d, k, ms)]))
    else if p = [40] ∧ b ≠ [41] then some (d + 1, p, rs)
    else if p = [41] ∧ 0 < d then some (d - 1, p, rs)
    else if p ≠ [44] ∨ d = 0 then none
    else some (d, p, rs) := rfl
theorem stepA_some (d : Nat) (b p : W) : stepA (some (d, b)) p = if b = [40] ∨ b = [44] then (if headOk p = true then some (d, p) else none)
    else if p = [40] ∧ b ≠ [41] then some (d + 1, p)
    else if p = [41] ∧ 0 < d then some (d - 1, p)
    else if p ≠ [44] ∨ d = 0 then none
    else some (d, p) := rfl
theorem step_a (srt : List W → List W) (s : Option (Nat × W × List Row)) (p : W) : (readStep srt s p).map (fun x => (x.1, x.2.1)) = stepA (s.map fun x => (x.1, x.2.1)) p := by
  cases s with
  | none => rfl
  | some s =>
    obtain ⟨d, b, rs⟩ := s
    rw [Option.map_some, stepA_some, read_some]
    by_cases c1 : b = [40] ∨ b = [44]
    · rw [if_pos c1, if_pos c1]
      have := headM_is srt p
      cases h : headM srt p with
      | none =>
        rw [if_neg (by rw [this.mp h]; decide)]
        rfl
      | some x =>
        have h2 : headOk p = true := by
          cases z : headOk p
          · rw [this.mpr z] at h
            cases h
          · rfl
        rw [if_pos h2]
        rfl
    · rw [if_neg c1, if_neg c1]
      by_cases c2 : p = [40] ∧ b ≠ [41]
      · rw [if_pos c2, if_pos c2]
        rfl
      · rw [if_neg c2, if_neg c2]
        by_cases c3 : p = [41] ∧ 0 < d
        · rw [if_pos c3, if_pos c3]
          rfl
        · rw [if_neg c3, if_neg c3]
          by_cases c4 : p ≠ [44] ∨ d = 0
          · rw [if_pos c4, if_pos c4]
            rfl
          · rw [if_neg c4, if_neg c4]
            rfl
theorem fold_a (srt : List W → List W) : ∀ (ps : List W) (s : Option (Nat × W × List Row)), (ps.foldl (readStep srt) s).map (fun x => (x.1, x.2.1)) = ps.foldl stepA (s.map fun x => (x.1, x.2.1))
  | [], s => rfl
  | p :: ps, s => by rw [List.foldl_cons, List.foldl_cons, fold_a srt ps, step_a]
def acc (d : Nat) (b u : W) : Bool := match cutM LD SG u with | none => false | some ps => finA (ps.foldl stepA (some (d, b)))
theorem acc_read (srt : List W → List W) (t : W) : (cutM LD SG t).bind (readM srt) = none ↔ acc 0 [44] t = false := by
  unfold acc
  cases cutM LD SG t with
  | none => simp
  | some ps =>
    show readM srt ps = none ↔ finA (ps.foldl stepA (some (0, [44]))) = false
    have e : ps.foldl stepA (some (0, [44])) = (ps.foldl (readStep srt) (some (0, [44], []))).map fun x => (x.1, x.2.1) := (fold_a srt ps (some (0, [44], []))).symm
    rw [e]
    unfold readM
    cases ps.foldl (readStep srt) (some (0, [44], [])) with
    | none => simp [finA]
    | some x =>
      obtain ⟨d, b, rs⟩ := x
      show (if 0 < d ∨ b = [40] ∨ b = [44] then none else some rs) = none ↔ (!decide (0 < d ∨ b = [40] ∨ b = [44])) = false
      by_cases z : 0 < d ∨ b = [40] ∨ b = [44]
      · rw [if_pos z, decide_eq_true z]
        simp
      · rw [if_neg z, decide_eq_false z]
        simp
/-! ### cutting from a place on -/
theorem cut_shift (L S : List Nat) : ∀ (r : W) (ps ps' : List W) (w : W), r.foldl (cutStep L S) (some (ps ++ ps', w)) = (r.foldl (cutStep L S) (some (ps', w))).map fun x => (ps ++ x.1, x.2)
  | [], ps, ps', w => rfl
  | c :: r, ps, ps', w => by
    rw [List.foldl_cons, List.foldl_cons]
    show r.foldl (cutStep L S) (if c ∈ L then _ else if c ∈ S then (if w = [] then _ else _) else _) = Option.map _ (r.foldl (cutStep L S) (if c ∈ L then _ else if c ∈ S then (if w = [] then _ else _) else _))
    by_cases h1 : c ∈ L
    · rw [if_pos h1, if_pos h1]
      exact cut_shift L S r ps ps' _
    · rw [if_neg h1, if_neg h1]
      by_cases h2 : c ∈ S
      · rw [if_pos h2, if_pos h2]
        by_cases h3 : w = []
        · rw [if_pos h3, if_pos h3, List.append_assoc]
          exact cut_shift L S r ps _ _
        · rw [if_neg h3, if_neg h3, List.append_assoc, List.append_assoc, ← List.append_assoc ps' [w] [[c]]]
          exact cut_shift L S r ps _ _
      · rw [if_neg h2, if_neg h2, cut_none]
        rfl
theorem flush_app (ps ps' : List W) (w : W) : flush (ps ++ ps') w = ps ++ flush ps' w := by
  unfold flush
  split
  · rfl
  · rw [List.append_assoc]
theorem cut_sign_first {c : Nat} (h : c ∈ SG) (r : W) : cutM LD SG (c :: r) = (cutM LD SG r).map fun ps => [c] :: ps := by
  unfold cutM
  rw [List.foldl_cons, cut_sign (sg_no h) h, show flush [] [] ++ [[c]] = [[c]] ++ [] from rfl, cut_shift]
  cases r.foldl (cutStep LD SG) (some ([], [])) with
  | none => rfl
  | some x =>
    show some (flush ([[c]] ++ x.1) x.2) = some ([c] :: flush x.1 x.2)
    rw [flush_app]
    rfl
theorem cut_bad_first {c : Nat} (h1 : c ∉ LD) (h2 : c ∉ SG) (r : W) : cutM LD SG (c :: r) = none := by
  unfold cutM
  rw [List.foldl_cons, show cutStep LD SG (some ([], [])) c = none from by show (if c ∈ LD then _ else if c ∈ SG then _ else _) = _; rw [if_neg h1, if_neg h2], cut_none]
  rfl
theorem cut_word_first {w : W} (n : w ≠ []) (hw : ∀ c ∈ w, c ∈ LD) (r : W) (hr : ∀ c r', r = c :: r' → c ∉ LD) : cutM LD SG (w ++ r) = (cutM LD SG r).map fun ps => w :: ps := by
  cases r with
  | nil =>
    unfold cutM
    rw [cut_word w [] [] [] hw]
    show some (flush [] w) = some (w :: flush [] [])
    unfold flush
    rw [if_neg n]
    rfl
  | cons c r =>
    have c1 := hr c r rfl
    by_cases c2 : c ∈ SG
    · rw [cut_sign_first c2]
      unfold cutM
      rw [cut_word w [] [] (c :: r) hw, List.nil_append, List.foldl_cons, cut_sign c1 c2]
      have e : flush [] w ++ [[c]] = (w :: [[c]]) ++ [] := by
        unfold flush
        rw [if_neg n]
        rfl
      rw [e, cut_shift]
      cases r.foldl (cutStep LD SG) (some ([], [])) with
      | none => rfl
      | some x =>
        show some (flush ((w :: [[c]]) ++ x.1) x.2) = some (w :: ([c] :: flush x.1 x.2))
        rw [flush_app]
        rfl
    · rw [cut_bad_first c1 c2]
      unfold cutM
      rw [cut_word w [] [] (c :: r) hw, List.foldl_cons, show cutStep LD SG (some ([], [] ++ w)) c = none from by show (if c ∈ LD then _ else if c ∈ SG then _ else _) = _; rw [if_neg c1, if_neg c2], cut_none]
      rfl
theorem head_word {w : W} (h : headOk w = true) : w ≠ [] ∧ w ≠ [40] ∧ w ≠ [41] ∧ w ≠ [44] := by
  refine ⟨?_, ?_, ?_, ?_⟩ <;>
  · rintro rfl
    revert h
    decide
theorem fold_none : ∀ ps : List W, ps.foldl stepA none = none
  | [] => rfl
  | _ :: ps => fold_none ps
theorem runD_end (u : W) : ∀ c r, u.drop (runD u).length = c :: r → c ∉ LD := fun c r e => by
  rw [show u.drop (runD u).length = u.dropWhile isD from dropW u] at e
  exact of_decide_eq_false (dropW_head u c r e)
theorem run_app (u : W) : runD u ++ u.drop (runD u).length = u := by
  rw [show u.drop (runD u).length = u.dropWhile isD from dropW u]
  exact List.takeWhile_append_dropWhile
theorem acc_map {u r p : W} (h : cutM LD SG u = (cutM LD SG r).map fun ps => p :: ps) (d : Nat) (b : W) : acc d b u = match stepA (some (d, b)) p with | none => false | some (d', b') => acc d' b' r := by
  unfold acc
  rw [h]
  cases cutM LD SG r with
  | none =>
    cases stepA (some (d, b)) p <;> rfl
  | some ps =>
    show finA ((p :: ps).foldl stepA (some (d, b))) = _
    rw [List.foldl_cons]
    cases stepA (some (d, b)) p with
    | none => rw [fold_none]; rfl
    | some x => rfl
theorem acc_head {d : Nat} {b : W} (hb : b = [40] ∨ b = [44]) (u : W) : acc d b u = if headOk (runD u) = true then acc d (runD u) (u.drop (runD u).length) else false := by
  by_cases n : runD u = []
  · have e : headOk (runD u) = false := by
      rw [n]
      decide
    rw [e]
    cases u with
    | nil =>
      rcases hb with rfl | rfl <;> · show (!decide (0 < d ∨ _)) = false; simp
    | cons c r =>
      have c1 : c ∉ LD := runD_end (c :: r) c r (by rw [n]; rfl)
      by_cases c2 : c ∈ SG
      · rw [acc_map (cut_sign_first c2 r), stepA_some, if_pos hb]
        have : headOk [c] = false := by
          unfold SG at c2
          simp at c2
          rcases c2 with rfl | rfl | rfl <;> decide
        rw [this]
        rfl
      · unfold acc
        rw [cut_bad_first c1 c2]
        rfl
  · have e : cutM LD SG u = (cutM LD SG (u.drop (runD u).length)).map fun ps => runD u :: ps := by
      have := cut_word_first n (runD_in u) (u.drop (runD u).length) (runD_end u)
      rw [run_app] at this
      exact this
    rw [acc_map e, stepA_some, if_pos hb]
    by_cases h : headOk (runD u) = true
    · rw [if_pos h, if_pos h]
    · rw [if_neg h, if_neg h]
/-- behind a node -/
theorem acc_end {d : Nat} {x : W} (h1 : x ≠ [40]) (h2 : x ≠ [44]) : acc d x [] = decide (d = 0) := by
  show (!decide (0 < d ∨ x = [40] ∨ x = [44])) = _
  cases d with
  | zero => simp [h1, h2]
  | succ d => simp
theorem acc_comma {d : Nat} {x : W} (h1 : x ≠ [40]) (h2 : x ≠ [44]) (r : W) : acc d x (44 :: r) = if d = 0 then false else acc d [44] r := by
  rw [acc_map (cut_sign_first (by decide) r), stepA_some, if_neg (fun z => z.elim h1 h2), if_neg (fun z => absurd z.1 (by decide)), if_neg (fun z => absurd z.1 (by decide))]
  by_cases h : d = 0
  · rw [if_pos (.inr h), if_pos h]
  · rw [if_neg (fun z => z.elim (fun q => q rfl) h), if_neg h]
theorem acc_shut {d : Nat} {x : W} (h1 : x ≠ [40]) (h2 : x ≠ [44]) (r : W) : acc d x (41 :: r) = if 0 < d then acc (d - 1) [41] r else false := by
  rw [acc_map (cut_sign_first (by decide) r), stepA_some, if_neg (fun z => z.elim h1 h2), if_neg (fun z => absurd z.1 (by decide))]
  by_cases h : 0 < d
  · rw [if_pos ⟨rfl, h⟩, if_pos h]
  · rw [if_neg (fun z => h z.2), if_pos (.inl (by decide)), if_neg h]
theorem acc_open {d : Nat} {x : W} (h1 : x ≠ [40]) (h2 : x ≠ [44]) (r : W) : acc d x (40 :: r) = if x = [41] then false else acc (d + 1) [40] r := by
  rw [acc_map (cut_sign_first (by decide) r), stepA_some, if_neg (fun z => z.elim h1 h2)]
  by_cases h : x = [41]
  · rw [if_neg (fun z => z.2 h), if_neg (fun z => absurd z.1 (by decide)), if_pos (.inl (by decide)), if_pos h]
  · rw [if_pos ⟨rfl, h⟩, if_neg h]
theorem acc_else {d : Nat} {x : W} (h1 : x ≠ [40]) (h2 : x ≠ [44]) {c : Nat} (hc : c ∉ SG) (r : W) : acc d x (c :: r) = false := by
  by_cases c1 : c ∈ LD
  · have n : runD (c :: r) ≠ [] := by
      rw [show runD (c :: r) = c :: runD r from List.takeWhile_cons_of_pos (decide_eq_true c1)]
      exact fun z => nomatch z
    have e : cutM LD SG (c :: r) = (cutM LD SG ((c :: r).drop (runD (c :: r)).length)).map fun ps => runD (c :: r) :: ps := by
      have := cut_word_first n (runD_in (c :: r)) ((c :: r).drop (runD (c :: r)).length) (runD_end (c :: r))
      rw [run_app] at this
      exact this
    have ne : ∀ {k : Nat}, k ∈ SG → runD (c :: r) ≠ [k] := fun {k} hk z => by
      have := runD_in (c :: r) k (by rw [z]; exact List.mem_cons_self ..)
      exact sg_no hk this
    rw [acc_map e, stepA_some, if_neg (fun z => z.elim h1 h2), if_neg (fun z => ne (by decide) z.1), if_neg (fun z => ne (by decide) z.1), if_pos (.inl (ne (by decide)))]
  · unfold acc
    rw [cut_bad_first c1 hc]
/-- behind a word that is no sign, where no bracket opens, all is as behind a closed bracket -/
theorem acc_word {d : Nat} {w r : W} (h0 : w ≠ [40]) (h2 : w ≠ [44]) (n : ∀ r', r ≠ 40 :: r') : acc d w r = acc d [41] r := by
  have a : ([41] : W) ≠ [40] := by decide
  have b : ([41] : W) ≠ [44] := by decide
  cases r with
  | nil => rw [acc_end h0 h2, acc_end a b]
  | cons c r =>
    by_cases e1 : c = 44
    · subst e1
      rw [acc_comma h0 h2, acc_comma a b]
    · by_cases e2 : c = 41
      · subst e2
        rw [acc_shut h0 h2, acc_shut a b]
      · have : c ∉ SG := fun z => by
          unfold SG at z
          simp at z
          rcases z with rfl | rfl | rfl
          · exact n r rfl
          · exact e2 rfl
          · exact e1 rfl
        rw [acc_else h0 h2 this, acc_else a b this]
theorem acc_no {d : Nat} {r : W} (n1 : ∀ r', r ≠ 44 :: r') (n2 : ∀ r', r ≠ 41 :: r') : acc (d + 1) [41] r = false := by
  have a : ([41] : W) ≠ [40] := by decide
  have b : ([41] : W) ≠ [44] := by decide
  cases r with
  | nil => rw [acc_end a b]; simp
  | cons c r =>
    by_cases e : c = 40
    · subst e
      rw [acc_open a b, if_pos rfl]
    · refine acc_else a b (fun z => ?_) r
      unfold SG at z
      simp at z
      rcases z with rfl | rfl | rfl
      · exact e rfl
      · exact n2 r rfl
      · exact n1 r rfl
def goes (d : Nat) : Option W → Bool
  | none => false
  | some r => acc d [41] r
mutual
theorem rd_acc : ∀ {u : W} {x : Option W}, Rd u x → ∀ (d : Nat) (b : W), b = [40] ∨ b = [44] → acc d b u = goes d x
  | u, _, .bad h, d, b, hb => by
    rw [acc_head hb, (hd_end h).1 rfl]
    rfl
  | u, _, .leaf (r := r) h n, d, b, hb => by
    obtain ⟨h1, h2⟩ := (hd_end h).2 r rfl
    obtain ⟨_, w1, _, w3⟩ := head_word h1
    rw [acc_head hb, if_pos h1, ← h2]
    exact acc_word w1 w3 n
  | u, x, .node (r := r) h k, d, b, hb => by
    obtain ⟨h1, h2⟩ := (hd_end h).2 _ rfl
    obtain ⟨_, w1, w2, w3⟩ := head_word h1
    rw [acc_head hb, if_pos h1, ← h2, acc_open w1 w3, if_neg w2]
    exact kd_acc k d [40] (.inl rfl)
theorem kd_acc : ∀ {u : W} {x : Option W}, Kd u x → ∀ (d : Nat) (b : W), b = [40] ∨ b = [44] → acc (d + 1) b u = goes d x
  | u, _, .bad h, d, b, hb => rd_acc h (d + 1) b hb
  | u, x, .comma (r := r) h k, d, b, hb => by
    rw [rd_acc h (d + 1) b hb]
    show acc (d + 1) [41] (44 :: r) = _
    rw [acc_comma (by decide) (by decide), if_neg (Nat.succ_ne_zero d)]
    exact kd_acc k d [44] (.inr rfl)
  | u, _, .shut (r := r) h, d, b, hb => by
    rw [rd_acc h (d + 1) b hb]
    show acc (d + 1) [41] (41 :: r) = _
    rw [acc_shut (by decide) (by decide), if_pos (Nat.succ_pos d)]
    rfl
  | u, _, .no (r := r) h n1 n2, d, b, hb => by
    rw [rd_acc h (d + 1) b hb]
    exact acc_no n1 n2
end
/-- both take the same texts -/
theorem rd_read (srt : List W → List W) {t : W} {x : Option W} (h : Rd t x) : (cutM LD SG t).bind (readM srt) = none ↔ x ≠ some [] := by
  rw [acc_read, rd_acc h 0 [44] (.inr rfl)]
  cases x with
  | none => simp [goes]
  | some r =>
    show acc 0 [41] r = false ↔ some r ≠ some []
    cases r with
    | nil => rw [acc_end (by decide) (by decide)]; simp
    | cons c r =>
      refine ⟨fun _ z => (nomatch z), fun _ => ?_⟩
      by_cases e1 : c = 44
      · subst e1
        rw [acc_comma (by decide) (by decide), if_pos rfl]
      · by_cases e2 : c = 41
        · subst e2
          rw [acc_shut (by decide) (by decide), if_neg (Nat.lt_irrefl 0)]
        · by_cases e3 : c = 40
          · subst e3
            rw [acc_open (by decide) (by decide), if_pos rfl]
          · refine acc_else (by decide) (by decide) (fun z => ?_) r
            unfold SG at z
            simp at z
            omega
end DM

/-! len(set(xs)) of a list of texts -/
namespace DR
open PySem PySem.Spec PyProof.Rows L2
/-- how many different ones stand among the first -/
def nn (xs : List Str) : Nat → Nat
  | 0 => 0
  | i + 1 => if (xs.take i).any (· == xs.getD i Str.empty) = true then nn xs i else nn xs i + 1
theorem nn_le (xs : List Str) : ∀ i, nn xs i ≤ i
  | 0 => Nat.le_refl _
  | i + 1 => by
    have := nn_le xs i
    unfold nn
    split <;> omega
theorem nn_full {xs : List Str} : ∀ {i}, i ≤ xs.length → (nn xs i = i ↔ (xs.take i).Nodup)
  | 0, _ => by simp [nn]
  | i + 1, h => by
    have ih := nn_full (xs := xs) (i := i) (by omega)
    have le := nn_le xs i
    have hx : xs[i]? = some (xs.getD i Str.empty) := by
      rw [List.getD_eq_getElem?_getD]
      have : i < xs.length := h
      simp [this]
    have ht : xs.take (i + 1) = xs.take i ++ [xs.getD i Str.empty] := by
      rw [List.take_succ, hx]
      rfl
    unfold nn
    rw [ht, List.nodup_append]
    by_cases c : (xs.take i).any (· == xs.getD i Str.empty) = true
    · rw [if_pos c]
      refine ⟨fun e => by omega, fun ⟨_, _, q⟩ => ?_⟩
      obtain ⟨x, hx1, hx2⟩ := List.any_eq_true.mp c
      exact absurd (by simpa using hx2) (q x hx1 _ (List.mem_singleton.mpr rfl))
    · rw [if_neg c]
      have c' : ∀ x ∈ xs.take i, ¬ x = xs.getD i Str.empty := fun x m e => c (List.any_eq_true.mpr ⟨x, m, by simpa using e⟩)
      constructor
      · intro e
        refine ⟨ih.mp (by omega), by simp, fun a ha b hb => ?_⟩
        rw [List.mem_singleton.mp hb]
        exact c' a ha
      · rintro ⟨q, _⟩
        rw [ih.mpr q]
section
variable {prog : Program} {w : World} {A : Around} {R : Result → Shared → Prop} {I : Addr} {fp wr : List Addr} {G : Array GenState → Array GenState → Prop} {n : Nat} {P : Nat → Value → Prop} {St : Nat → Shared → Prop}
/-- the set of the first i texts lies at S -/
def Upto (prog : Program) (w : World) (h : Heap) (S : Addr) (xs : List Str) (i : Nat) : Prop := h.SetOf (strKind prog w) S (fun k => (xs.take i).any (· == k)) (nn xs i)
theorem Upto.keep {h h2 : Heap} {S : Addr} {xs : List Str} {i : Nat} (u : Upto prog w h S xs i) (k : ∀ o, h.get? S = some o → h2.get? S = some o) : Upto prog w h2 S xs i :=
  let ⟨o, es, ep, t, ho, r⟩ := u
  ⟨o, es, ep, t, k o ho, r⟩
theorem Upto.next {h : Heap} {S : Addr} {xs : List Str} {i : Nat} (hi : i < xs.length)
    (u : h.SetOf (strKind prog w) S (fun k => (xs.take i).any (· == k) || decide (k = xs.getD i Str.empty)) (if (xs.take i).any (· == xs.getD i Str.empty) = true then nn xs i else nn xs i + 1)) : Upto prog w h S xs (i + 1) := by
  have hx : xs[i]? = some (xs.getD i Str.empty) := by
    rw [List.getD_eq_getElem?_getD]
    simp [hi]
  refine SetOf_congr u (fun k => ?_) rfl
  rw [List.take_succ, hx, List.any_append]
  show _ = ((xs.take i).any (· == k) || [xs.getD i Str.empty].any (· == k))
  have : decide (k = xs.getD i Str.empty) = [xs.getD i Str.empty].any (· == k) := by
    generalize xs.getD i Str.empty = y
    show decide (k = y) = ((y == k) || false)
    rw [Bool.or_false]
    by_cases e : k = y
    · rw [decide_eq_true e, e]
      exact (beq_self_eq_true y).symm
    · rw [decide_eq_false e]
      exact (beq_eq_false_iff_ne.mpr fun z => e z.symm).symm
  rw [this]
theorem fill_texts (W : WalksS prog w A.in1 I fp wr G n P St) (S : Addr) (out : S ∉ fp) (xs : List Str) (len : xs.length = n) (few : n + 1 < scanBound)
    (item : ∀ i v, P i v → ∃ t, v = .str (xs.getD i Str.empty) t) :
    ∀ (left i : Nat) (s : Shared), n - i = left → i ≤ n → St i s → Upto prog w s.heap S xs i →
      (∀ s2, Moved (S :: wr) G s s2 → Upto prog w s2.heap S xs n → R (.ok (.ret .none)) s2) → codeAny (model prog w) A (.builtin "set.update.loop" ⟨[.ref S, .ref I], []⟩) R s := by
  have outW : S ∉ wr := fun z => out (W.sub _ z)
  intro left
  induction left with
  | zero =>
    intro i s e le st u goal
    obtain rfl : i = n := by omega
    refine codeAny_builtin PyProof.Rows.F.entry_set_update_loop ?_
    rw [Around.under_plainId PyProof.Rows.F.plain_set_update_loop _]
    refine wpAny_bind (W.done s _ _ st fun s2 mv => ?_)
    exact wpAny_pure (goal s2 (mv.mono fun b hb => List.mem_cons_of_mem _ hb) (u.keep fun o q => mv.heap S _ outW q))
  | succ left again =>
    intro i s e le st u goal
    have lt : i < n := by omega
    refine codeAny_builtin PyProof.Rows.F.entry_set_update_loop ?_
    rw [Around.under_plainId PyProof.Rows.F.plain_set_update_loop _]
    refine wpAny_bind (W.item i s _ _ lt st fun v s2 pv st2 mv => ?_)
    obtain ⟨t, rfl⟩ := item i v pv
    have u2 : Upto prog w s2.heap S xs i := u.keep fun o q => mv.heap S _ outW q
    refine wpAny_bind (wpAny_holding ?_)
    unfold setAdd
    refine wpAny_holding (wpAny_bind ((strKind prog w).pyHash (k := xs.getD i Str.empty) (strKind_is _ _ _ _) ?_))
    have le2 := nn_le xs i
    refine wpAny_setAddHashed_of (knd := strKind prog w) (s := { s2 with toks := s2.toks + 1 }) (strKind_is _ _ _ _) rfl u2 (by omega) fun h3 sb u3 => ?_
    have u4 : Upto prog w h3 S xs (i + 1) := Upto.next (by omega) u3
    refine wpAny_pure ⟨plainId_quiet PyProof.Rows.F.plain_set_update_loop _, again (i + 1) _ (by omega) lt (W.frame _ s2 _ _ st2 (Nat.le_succ _) fun b hb o q => ?_) u4 fun s5 mv5 u5 => goal s5 ?_ u5⟩
    · rw [sb.2 b fun z => out (z ▸ hb)]
      exact q
    · refine Moved.trans W.gtrans ((mv.mono fun b hb => List.mem_cons_of_mem _ hb).then_heap (Nat.le_succ _) fun b o hb q => ?_) mv5
      rw [sb.2 b fun z => hb (z ▸ List.mem_cons_self)]
      exact q
end
/-- the set object as it is made -/
abbrev bare (led : Bool) : Obj := { cls := .type "set", dict := none, data := .set #[] 0 (.fresh 0 0 led) }
section
variable {prog : Program} {w : World} {A : Around} {E : Value → Shared → Prop} {s : Shared}
set_option maxHeartbeats 6400000 in
/-- set(xs), xs a list of texts -/
theorem set_of_texts {l : Addr} {items : Array Value} {xs : List Str} {Q : Value → Shared → Prop} (quiet : A.handled = none) (at_l : s.heap.IsList l items) (texts : StrsAre items.toList xs) (few : xs.length + 1 < scanBound)
    (goal : ∀ (h2 : Heap) (tk : Nat), Upto prog w h2 s.heap.objs.size xs xs.length → (∀ b o, s.heap.get? b = some o → h2.get? b = some o) → Q (.ref s.heap.objs.size) { s with heap := h2, toks := tk }) :
    wpAny (model prog w) A (call (.type "set") [.ref l]) Q E s := by
  have len : xs.length = items.size := by rw [← StrsAre.len_eq texts, Array.length_toList]
  obtain ⟨_, _, mro⟩ := PySem.F.called_set.mro
  have made := PySem.F.called_set.made
  have subs := PySem.F.called_set.sub
  have nott := PySem.F.called_set.notType
  have cancr := PySem.F.called_set.canCreate
  have tcall := PySem.F.typeCall_set_1 (.ref l)
  refine wpAny_call (codeAny_of_tree (wpAny_pure ⟨Code.quiet_builtin _ (by decide +kernel), codeAny_builtin PySem.F.entry_type_call ?_⟩))
  rw [Around.under_plain (weight_type_call_type "set" [.ref l] []) rfl]
  repeat (any_goals (first | assumption | wp_step))
  refine codeAny_mono (code_set_new_1 (.ref l) (E := E) (Q₁ := fun ob s1 => ∃ led : Bool, ob = .ref s.heap.objs.size ∧ s1 = { s with heap := s.heap.push (bare led) }) fun led => ⟨led, rfl, rfl⟩) fun r s1 hr => ?_
  match r, hr with
  | .error _, hr => exact hr
  | .ok .next, hr => exact hr.elim
  | .ok .brk, hr => exact hr.elim
  | .ok .cont, hr => exact hr.elim
  | .ok (.ret ob), ⟨led, e1, e2⟩ =>
    subst e1 e2
    have at_S : (s.heap.push (bare led)).get? s.heap.objs.size = some (bare led) := Heap.get?_push_size _ rfl
    have isS : Shared.TypeIs { s with heap := s.heap.push (bare led) } (.ref s.heap.objs.size) "set" := ⟨_, at_S, rfl⟩
    have look := PySem.F.called_set.init.lookup
    have bind := PySem.F.called_set.init.bind (.ref s.heap.objs.size)
    repeat (any_goals (first | assumption | wp_step))
    refine codeAny_mono (codeAny_call_builtin (R := wants (fun r s2 => r = .none ∧ ∃ h2 tk, s2 = { s with heap := h2, toks := tk } ∧ Upto prog w h2 s.heap.objs.size xs xs.length ∧ (∀ b o, s.heap.get? b = some o → h2.get? b = some o)) E)
      PySem.F.called_set.init.plain PySem.F.entry_set_init (check_set_init_1 isS ?_)) fun r2 s2 hr2 => ?_
    · obtain ⟨⟨oc, od, dat, osl⟩, hol, hc, nl, hd⟩ := at_l
      simp only at hc hd
      subst hc hd
      have old : l < s.heap.objs.size := Heap.lt_size hol
      have at_l2 : (s.heap.push (bare led)).get? l = some { cls := .type "list", dict := od, data := .seq items nl, slots := osl } := Heap.get?_push_of_some _ hol
      have s1 := PySem.F.sub_list_set
      have s2 := PySem.F.sub_list_frozenset
      have s3 : (Value.type "list" == Value.type "dict") = false := by decide
      have isl : (s.heap.push (bare led)).IsList l items := ⟨_, at_l2, rfl, nl, rfl⟩
      unfold Builtin.«set.__init__» noKeywords Builtin.Frozenset.updateFrom
      generalize hPI : pyIter = PI
      wp_walk
      subst hPI
      refine wpAny_pyIter_list isl (wpAny_bind (wpAny_runValue ?_))
      have calm3 : A.in1.in1.in1.handled = none := by simp [quiet]
      have sz : (s.heap.push (bare led)).objs.size = s.heap.objs.size + 1 := Heap.size_push ..
      have ne1 : l ≠ (s.heap.push (bare led)).objs.size := by
        rw [sz]
        exact Nat.ne_of_lt (Nat.lt_succ_of_lt old)
      refine fill_texts ((Walks.list calm3 _ l ne1 items).toS) s.heap.objs.size (fun z => ?_) xs len (len ▸ few)
        (fun i v hv => SS.strs_at texts i v (by rw [Array.getElem?_toList]; exact hv)) (items.size - 0) 0 _ (by omega) (Nat.zero_le _) ⟨⟨_, Heap.get?_push_size _ rfl, rfl, rfl⟩, (isl.push _)⟩ ?start ?stop
      · rw [sz] at z
        rcases List.mem_cons.mp z with e | z
        · exact absurd e (Nat.ne_of_lt (Nat.lt_succ_self _))
        · exact absurd (List.mem_singleton.mp z) (Nat.ne_of_gt old)
      case start =>
        exact SetOf_congr ((setObjOf_fresh (knd := strKind prog w) led).setOf (Heap.get?_push_of_some _ at_S) (by unfold scanBound; omega)) (fun _ => rfl) rfl
      case stop =>
        rintro ⟨h2, g2, d2, tk2, os2⟩ mv u
        obtain rfl : g2 = s.gens := mv.gens
        obtain rfl : d2 = s.drawn := mv.drawn
        obtain rfl : os2 = s.os := mv.os
        refine wpAny_pure (wpAny_pure ⟨rfl, h2, tk2, rfl, len ▸ u, fun b o e => ?_⟩)
        have lt := Heap.lt_size e
        refine mv.heap b o (fun z => ?_) (Heap.get?_push_of_some _ (Heap.get?_push_of_some _ e))
        rcases List.mem_cons.mp z with e2 | z
        · exact absurd e2 (Nat.ne_of_lt lt)
        · have z := List.mem_singleton.mp z
          rw [sz] at z
          exact absurd z (Nat.ne_of_lt (Nat.lt_succ_of_lt lt))
    · match r2, hr2 with
      | .error _, hr2 => exact hr2
      | .ok .next, hr2 => exact hr2.elim
      | .ok .brk, hr2 => exact hr2.elim
      | .ok .cont, hr2 => exact hr2.elim
      | .ok (.ret _), ⟨e, h2, tk, e2, u, k⟩ =>
        subst e e2
        repeat (any_goals (first | assumption | wp_step))
        exact goal _ _ u k
end
/-- len(set(xs)) -/
def tLenSetT (K : PySem.W.Frag) (ta : TE) : TE := fun σ H Q => ta σ H fun x H1 => ∃ (l : Addr) (xs : List Str), x = .ref l ∧ SqL K H1 l (xs.map V.str) ∧ xs.length + 1 < scanBound ∧ ∀ c : Nat, (c = xs.length ↔ xs.Nodup) → Q (.int c) H1
section
variable {X : Cx}
theorem pe_lenSetT {a : Expr} {ta : TE} {p p2 q pos : Pos} (calm : X.calm = true) (g1 : Gl X "len") (m1 : X.mg "len" = none) (g2 : Gl X "set") (m2 : X.mg "set" = none) (ha : PE X a ta)
    (na : starEach [a] X.env = (false, eval a X.env) :: starEach [] X.env := by rfl) : PE X (.Call (.Name "len" p) [.Call (.Name "set" p2) [a] [] q] [] pos) (tLenSetT X.K ta) := by
  refine ⟨fun pins s σ H Q I h => Call_ (ld_blt I g1 m1 PySem.boot_len (callWith_builtin1 (args_cons (Call_ (ld_blt I g2 m2 boot_set
    (callWith_type1 (args_cons (thn (ha.run pins s σ H _ I h) fun v s1 ⟨x, H1, I1, r1, q1⟩ => args_nil ?_) na) na rfl))) rfl) rfl rfl))⟩
  obtain ⟨l, xs, rfl, hq, few, goal⟩ := q1
  cases r1
  obtain ⟨its, rv, pl, _⟩ := I1.list hq
  refine set_of_texts (I1.ok.hd calm) pl.isList (by simpa using strsAre_of rv) few fun h2 tk ⟨o, es, ep, t, ho, ex, hd, _, _, _, hf, hn⟩ k => args_nil ?_
  have le := nn_le xs xs.length
  have I2 : Inv X pins σ H1 { s1 with heap := h2, toks := tk } := I1.kept fun b o e => k b o e
  refine call_len_set ho ex hd hf (by rw [hn]; unfold scanBound at few; omega) ⟨.int (nn xs xs.length), H1, I2.tok _, ⟨_, by rw [hn]⟩, goal _ ?_⟩
  have := nn_full (xs := xs) (Nat.le_refl _)
  rwa [List.take_length] at this
end
end DR

/-! enumerate(t), t a tuple -/
namespace DR
open PySem PySem.Spec PyProof.Rows L2
abbrev itT (t : Addr) : Obj := { cls := .type "tuple_iterator", data := .fields #[.ref t, .int 0 0] }
abbrev enT (it : Addr) : Obj := { cls := .type "enumerate", data := .fields #[.none, .bool false, .ref it, rawInt 0, .none, .none] }
theorem meets_enum_tup (t : Addr) (xs : Array Value) (n : Nat) (dd : Option Addr) (sl : Array (Option Value)) :
    Meets (Builtin.«enumerate.__new__» ⟨[.type "enumerate", .ref t], []⟩) (fun _ R s => s.heap.get? t = some { cls := .type "tuple", dict := dd, data := .seq xs n, slots := sl } ∧
      R (.ok (.ret (.ref (s.heap.push (itT t)).objs.size))) { s with heap := (s.heap.push (itT t)).push (enT s.heap.objs.size) }) :=
  .of_wp fun prog w A R s h => by
    obtain ⟨hp, g, d, tk, os⟩ := s
    obtain ⟨at_t, h⟩ := h
    have sb := sub_enumerate
    have isT : Heap.IsTuple (Shared.heap ⟨hp, g, d, tk, os⟩) t xs := ⟨_, at_t, rfl, n, rfl⟩
    wp_walk using AutoSeq1.wpAny_loadPart' at_t
    refine wpAny_stack_any fun st => wpAny_pure ?_
    split
    · rename_i c _ _ _ _ _
      cases (c == Value.type "enumerate") <;>
      · wp_walk using AutoSeq1.wpAny_loadPart' at_t, wpAny_pyIter_tuple isT
        exact ⟨_, rfl, h⟩
    · wp_walk using AutoSeq1.wpAny_loadPart' at_t, wpAny_pyIter_tuple isT
      exact ⟨_, rfl, h⟩
section
variable {prog : Program} {w : World} {A : Around} {E : Value → Shared → Prop} {s : Shared}
theorem call_enum_tup {t : Addr} {xs : Array Value} {Q : Value → Shared → Prop} (isT : s.heap.IsTuple t xs)
    (h : ∀ h2, IsEnum h2 (s.heap.objs.size + 1) s.heap.objs.size 0 .none → h2.IsTupleIter s.heap.objs.size t 0 → (∀ b o, s.heap.get? b = some o → h2.get? b = some o) → Q (.ref (s.heap.objs.size + 1)) { s with heap := h2 }) :
    wpAny (model prog w) A (call (.type "enumerate") [.ref t]) Q E s := by
  obtain ⟨⟨c, dd, dt, sl⟩, ht, hc, n, hd⟩ := isT
  have hc : c = .type "tuple" := hc
  have hd : dt = .seq xs n := hd
  subst hc hd
  refine callType_new F.called_enumerate (by decide) (F.typeCall_enumerate_1 _) (F.newCall_enumerate_1 _) (fun ob => F.args_object_init_2 ob _) F.entry_enumerate_new (meets_enum_tup t xs n dd sl) ⟨ht, ?_⟩
  have sz : (s.heap.push (itT t)).objs.size = s.heap.objs.size + 1 := Heap.size_push ..
  show _ ∧ _
  rw [sz]
  have en : IsEnum ((s.heap.push (itT t)).push (enT s.heap.objs.size)) (s.heap.objs.size + 1) s.heap.objs.size 0 .none := by
    have q := Heap.get?_push_size (s.heap.push (itT t)) (o := enT s.heap.objs.size) rfl
    rw [sz] at q
    exact q
  exact ⟨⟨_, en, rfl⟩, h _ en ⟨_, Heap.get?_push_of_some _ (Heap.get?_push_size _ rfl), rfl, rfl⟩ fun b o q => Heap.get?_push_of_some _ (Heap.get?_push_of_some _ q)⟩
end
theorem apart {h : Heap} {e it a : Addr} {i : Int} {old : Value} {xs : Array Value} (he : IsEnum h e it i old) (t : h.IsTuple a xs) : e ≠ a := fun z => by
  obtain ⟨o, h1, h2, _⟩ := t
  rw [← z, show h.get? e = some _ from he] at h1
  cases h1
  exact absurd (show Value.type "enumerate" = Value.type "tuple" from h2) (by decide)
/-- the tuple at a at each turn, each item in a new pair -/
def Etp (K : PySem.W.Frag) (a : Addr) : It :=
  ⟨fun i H => ∃ (xs : List V) (x : V), SqT K H a xs ∧ xs[i]? = some x, fun i H v H' => ∃ T x, v = .ref T ∧ H T = none ∧ H' = upd H T (.tup [.int (i : Nat), x]) ∧ ∀ xs, SqT K H a xs → xs[i]? = some x, fun i H => ∃ xs : List V, SqT K H a xs ∧ xs.length = i⟩
theorem turn_etp {P : Program} {w : World} {K : PySem.W.Frag} {elts : List Expr} {kk : Nat} {tpos : Pos} (a e it : Addr) (na : a ≠ it) :
    Turn P w K (.Tuple elts kk tpos) (Etp K a) [e, it] e (fun i h => (∃ old, IsEnum h e it ((i : Nat) : Int) old) ∧ h.IsTupleIter it a i ∧ e ≠ it) where
  mem := by simp
  obj := fun i h st b hb => by
    obtain ⟨⟨old, he⟩, ⟨o, ho, hc, hd⟩, _⟩ := st
    rcases List.mem_cons.mp hb with z | hb
    · rw [z]
      exact ⟨_, he, fun v q => nomatch q⟩
    · rw [List.mem_singleton.mp hb]
      exact ⟨o, ho, fun v q => by rw [hd] at q; cases q⟩
  keep := fun i h h' st k => by
    obtain ⟨⟨old, he⟩, ⟨o, ho, r⟩, ne⟩ := st
    exact ⟨⟨old, k e (by simp) _ he⟩, ⟨o, k it (by simp) _ ho, r⟩, ne⟩
  item := by
    intro X hP hw hK hc i pins s σ H E I hf st hg
    subst hP hw hK
    obtain ⟨⟨old, he⟩, hit, ne⟩ := st
    obtain ⟨xs, x, hq, hx⟩ := hg
    obtain ⟨its, rv, isT, hz⟩ := I.tuple hq
    obtain ⟨u, hu, ru⟩ := rv.get hx
    have le : e < s.heap.objs.size := Heap.lt_size he
    have li : it < s.heap.objs.size := by
      obtain ⟨_, q, _⟩ := hit
      exact Heap.lt_size q
    have calm1 : X.A.in1.handled = none := by simp [I.ok.hd hc]
    have ea : e ≠ a := apart he isT
    have bound : i < its.toArray.size := by
      have := (List.getElem?_eq_some_iff.mp hu).1
      simpa using this
    refine wpAny_pyNext_enum_itemD (Draws.tuple calm1 it a na its.toArray) he ⟨hit, isT⟩ bound ne (by simp [ne, ea]) fun u2 h2 tk hu2 out2 st2 new2 size2 keep2 => ?_
    obtain rfl : u2 = u := by
      have q : its.toArray[i]? = some u := by simpa using hu
      exact Option.some.inj (hu2.symm.trans q)
    refine ⟨_, rfl, wpAny_letOwnedTupleGo_enum (s := { s with heap := h2, toks := tk + 1 }) out2 fun h3 he3 sb => ?_⟩
    have new3 : h3.get? s.heap.objs.size = some { cls := .type "tuple", data := .seq #[.int i tk, u2] } := (sb.2 _ (Nat.ne_of_gt le)).trans new2
    have laid : ObjOk X.prog X.w (upd H s.heap.objs.size (.tup [.int (i : Nat), x])) h3 s.heap.objs.size (.tup [.int (i : Nat), x]) :=
      ⟨by show 2 ≤ sizeLine; decide, [.int i tk, u2], .cons ⟨_, rfl⟩ (.cons ru .nil), ⟨_, new3, rfl, _, rfl⟩⟩
    have I2 : Inv X pins σ (upd H s.heap.objs.size (.tup [.int (i : Nat), x])) { s with heap := h3, toks := tk + 1 } :=
      I.turnedNew (ch := [e, it]) (fun b ob out q => (sb.2 b fun z => out (by simp [z])).trans (keep2 b ob (fun z => out (by simp [z])) (fun z => out (by simp [z])) q)) hf (Nat.le_refl _) laid
    refine ⟨.ref s.heap.objs.size, _, I2, rfl, ⟨_, x, rfl, I.hok.fresh (Nat.le_refl _), rfl, fun ys hy => ?_⟩, ⟨⟨u2, ?_⟩, ?_, ne⟩, fun b hb => ?_⟩
    · rw [I.tuple_inj hy hq]
      exact hx
    · rw [show ((i + 1 : Nat) : Int) = (i : Int) + 1 by omega]
      exact he3
    · obtain ⟨o, ho, r⟩ := st2.1
      exact ⟨o, (sb.2 it (Ne.symm ne)).trans ho, r⟩
    · have lb : b < s.heap.objs.size := by
        rcases List.mem_cons.mp hb with z | z
        · rw [z]
          exact le
        · rw [List.mem_singleton.mp z]
          exact li
      rw [upd_ne (Nat.ne_of_lt lb)]
      exact (hf b hb).1
  done := by
    intro X hP hw hK hc i pins s σ H E I hf st hg
    subst hP hw hK
    obtain ⟨⟨old, he⟩, hit, ne⟩ := st
    obtain ⟨xs, hq, hx⟩ := hg
    obtain ⟨its, rv, isT, hz⟩ := I.tuple hq
    have calm1 : X.A.in1.handled = none := by simp [I.ok.hd hc]
    obtain ⟨f0, f1, f2, f3, f4, f5⟩ := hf it (by simp)
    have len : its.toArray.size = i := by
      rw [List.size_toArray, ← rv.length]
      exact hx
    subst len
    exact wpAny_pyNext_enum_endD (Draws.tuple calm1 it a na its.toArray) he ⟨hit, isT⟩ fun h2 eb => ⟨rfl, I.turned (t' := s.toks) (fun b o out q => eb b o out q) f0 f1 f3 f4 f5⟩
  self := fun A i s Q E st h => let ⟨⟨_, he⟩, _⟩ := st; wpAny_pyIter_enum he h
def iEnumT (K : PySem.W.Frag) (ta : TA) : TI := fun σ H R => ta σ H fun vs H1 => ∃ a xs, vs = [.ref a] ∧ SqT K H1 a xs ∧ R (Etp K a) H1
theorem pi_enumT {X : Cx} {e : Expr} {ta : TA} {p pos tpos : Pos} {elts : List Expr} {kk : Nat} (hg : Gl X "enumerate") (hm : X.mg "enumerate" = none) (ha : PA X [e] ta) (hs : starEach [e] X.env = [(false, eval e X.env)] := by rfl) :
    PI X (.Tuple elts kk tpos) (.Call (.Name "enumerate" p) [e] [] pos) (iEnumT X.K ta) := by
  refine ⟨fun pins s σ H R I h => ?_⟩
  refine Call_ (ld_blt I hg hm boot_enumerate (PyProof.Rows.callWith_type1 (thn (ha.run pos pins s σ H _ I h) fun us s1 ⟨vs, H1, I1, r1, q1⟩ => ?_) hs rfl))
  obtain ⟨a, xs, ex, hq, q⟩ := q1
  subst ex
  obtain ⟨u, rfl, r⟩ := vals1 r1
  cases r
  obtain ⟨its, rv, isT, _⟩ := I1.tuple hq
  have old : a < s1.heap.objs.size := by
    obtain ⟨o, q, _⟩ := isT
    exact Heap.lt_size q
  refine call_enum_tup isT fun h2 he hit keep => wpAny_pyIter_enum he ?_
  have I2 : Inv X pins σ H1 { s1 with heap := h2 } := I1.kept (t' := s1.toks) keep
  refine ⟨s1.heap.objs.size + 1, [s1.heap.objs.size + 1, s1.heap.objs.size], _, _, H1, rfl, I2, turn_etp a (s1.heap.objs.size + 1) s1.heap.objs.size (Nat.ne_of_lt old), ⟨⟨.none, he⟩, hit, Nat.succ_ne_self _⟩, fun b hb => ?_, q⟩
  have above : s1.heap.objs.size ≤ b := by
    rcases List.mem_cons.mp hb with z | z
    · rw [z]
      exact Nat.le_succ _
    · exact Nat.le_of_eq (List.mem_singleton.mp z).symm
  exact I1.fpOk above (I1.hok.fresh above)
theorem walk_enumT {K : PySem.W.Frag} {a : Addr} {xs : List V} : Walk (Etp K a) xs.length (fun H => SqT K H a xs) (YPair (fun i => some (.int (i : Nat))) (fun i => xs[i]?)) :=
  by
  refine ⟨fun i _ hi q => ⟨xs, xs[i], q, by simp [hi]⟩, fun _ q => ⟨xs, q, rfl⟩, fun i H v H' _ q y => ?_⟩
  obtain ⟨T, x, h1, h2, h3, h4⟩ := y
  exact ⟨T, .int (i : Nat), x, h1, h2, h3, rfl, h4 xs q⟩
end DR

/-! {k: v for ..}, the keys tuples of ints and texts -/
namespace DR
open PySem PySem.Spec PyProof.Rows L2
/-- what a comprehension does at one item -/
theorem dictSet_tup {X : Cx} {pins : List (Addr × Obj)} {σ : L2.St} {H : Hp} {s : Shared} {E : Value → Shared → Prop} {D b : Addr} {kvs : List (List Key × V)} {k : List Key} {v : V} {r : Value} {Q : Unit → Shared → Prop} (few : X.A.units < cLine)
    (I : Inv X pins σ H s) (hD : H D = some (.dT kvs)) (hb : H b = some (.tup (k.map kV))) (len : kvs.length < sizeLine) (rv : RelV v r) (goal : ∀ s', Inv X pins σ (upd H D (.dT (putK kvs k v))) s' → Q () s') :
    wpAny (model X.prog X.w) X.A (dictSet D (.ref b) r) Q E s := by
  obtain ⟨_, sm, xs, rel, dd⟩ := dt_of I.hok hD
  have xl : xs.length ≤ sizeLine := by
    rw [← Paired.length rel]
    omega
  have pl : (putK kvs k v).length ≤ sizeLine := by
    have := length_putK kvs k v
    omega
  refine wpAny_dictSet_heap (hsz := xl) (knd := tupleKind (mixKind X.prog X.w)) few (key_of I.hok hb) dd fun h2 d2 sb => goal _ ?_
  obtain ⟨o, es, ep, at2, c2, c3, c4, _, c5⟩ := d2
  refine d_write I (by rw [hD]; exact True.intro) sb ⟨o, at2⟩ ⟨pl, sm, _, (rel.put k hb rv).keeps fun c ys ec => ?_, o, es, ep, at2, c2, c3, c4, c5⟩
  rw [upd_ne (ne_of ec hD (fun z => nomatch z))]
  exact ec
def tDcT (wi : TI) (g : TG) (tt : TT) (tk tv : TE) (vs : List Nat) : TE := fun σ H Q => wi σ H fun J H1 => ∀ D, H1 D = none → ∃ W : Nat → Nat → Hp → Prop, (∃ m, W 0 m (upd H1 D (.dT []))) ∧ ∀ i m H, W i m H →
  (J.stop i H ∧ Q (.ref D) H) ∨ (J.go i H ∧ ∃ Nx : Hp → Prop, (∀ H', Nx H' → ∃ m', m' < m ∧ W (i + 1) m' H') ∧ ∀ x H', J.yld i H x H' → g x (wipe σ vs) H' fun σ2 H2 => wipe σ2 vs = wipe σ vs ∧ tt σ2 H2 fun b H3 =>
    if b = true then tk σ2 H3 fun y H4 => tv σ2 H4 fun z H5 => ∃ a kvs k, y = .ref a ∧ H5 a = some (.tup (k.map kV)) ∧ H5 D = some (.dT kvs) ∧ kvs.length < sizeLine ∧ Nx (upd H5 D (.dT (putK kvs k z))) else Nx H3)
section
variable {X : Cx}
abbrev AtBlk (X : Cx) (scope : Scope) (p : Cx → Prop) : Prop := ∀ (s : Shared) (H : Hp) (C : Addr) (cl : List (Str × Addr)) (fp : List Addr), p (X.blk s H scope (compEnvC scope cl C X.env) fp)
theorem pe_dcT {kx vx tg iter : Expr} {ifs : List Expr} {scope : Scope} {own : List (Str × Nat)} {pos : Pos} {wi : TI} {g : TG} {tt : TT} {tk tv : TE} (few : X.A.units < cLine) (calm : X.calm = true) (nd : X.N.Nodup) (hi : PI X tg iter wi) (ok : BlkOk X.N X.env.scope scope own)
    (hg : AtBlk X scope fun Y => PG Y tg g) (ht : AtBlk X scope fun Y => PTs Y ifs tt) (hk : AtBlk X scope fun Y => PE Y kx tk) (hv : AtBlk X scope fun Y => PE Y vx tv) (fold : ∀ x, foldedSetIterable iter X.env x = pure x := by intro _; rfl) :
    PE X (.DictComp kx vx [⟨tg, iter, ifs, 0⟩] scope pos) (tDcT wi g tt tk tv (own.map (·.2))) := by
  refine ⟨fun pins s σ H Q I h => ?_⟩
  rw [arm_eval_DictComp]
  have isfree : ∀ y ∈ scope.names, y.2 = .free → ∃ c, X.env.cells.lookup y.1 = some c := fun y hy e => (ok.free y hy e).elim (fun k => I.ok.has _ (.inl k)) fun k => I.ok.has _ (.inr k)
  refine wpAny_comprehension_free rfl fold (closure_ok isfree) ok.kind (fun y hy e => by rw [ok.uniq y hy, e]) (thn (hi.run pins s σ H _ I h) fun xv s1 hx => thn hx fun itv s2 ⟨it, fp, tn, J, H2, e, I2, T, st2, f2, q⟩ => ?_)
  subst e
  refine wpAny_newObj_type (newEnv_comp ?_)
  generalize eD : s2.heap.objs.size = D
  obtain ⟨W, ⟨m0, w0⟩, turn⟩ := q D (I2.hok.fresh (Nat.le_of_eq eD))
  generalize e3 : ({ s2 with heap := s2.heap.push { cls := .type "dict", data := .dict #[] } } : Shared) = s3
  have p3 : s3.heap = s2.heap.push { cls := .type "dict", data := .dict #[] } := by rw [← e3]
  have below : ∀ b ∈ fp, b < s2.heap.objs.size := fun b hb => let ⟨o, q, _⟩ := T.obj _ _ st2 b hb; Heap.lt_size q
  generalize eH : upd H2 D (.dT []) = H3 at w0
  have I3 : Inv X pins σ H3 s3 := by
    rw [← eH, ← e3]
    refine I2.laid (t' := s2.toks) (fun b o q => Heap.get?_push_of_some _ q) (Nat.le_of_eq eD) ?_
    rw [← eD]
    exact dt_empty s2.heap I2.big
  have ok3 : ∀ b ∈ fp, FpOk X pins H3 b ∧ b < s3.heap.objs.size := fun b hb => by
    have lt := below b hb
    refine ⟨⟨?_, (f2 b hb).2⟩, ?_⟩
    · rw [← eH, upd_ne (by rw [← eD]; exact Nat.ne_of_lt lt)]
      exact (f2 b hb).1
    · rw [p3, Heap.size_push]
      exact Nat.lt_succ_of_lt lt
  have st3 : tn 0 s3.heap := T.keep _ _ _ st2 fun b _ o q => by
    rw [p3]
    exact Heap.get?_push_of_some _ q
  have I4 := block_start I3 ok nd ok3
  generalize eC : cellsFrom (s3.heap.objs.size + 1) scope.names (cloFrom X.env.cells scope.names []) = cl at I4
  have rg := hg s3 H3 s3.heap.objs.size cl fp
  have rt := ht s3 H3 s3.heap.objs.size cl fp
  have rk := hk s3 H3 s3.heap.objs.size cl fp
  have rv := hv s3 H3 s3.heap.objs.size cl fp
  show codeAny _ _ (.compStart (.DictComp kx vx [⟨tg, iter, ifs, 0⟩] scope pos) 0 (.ref it) (.ref D) (compEnvC scope cl s3.heap.objs.size X.env)) (compPost (model X.prog X.w) X.A X.xe none (EP X pins σ Q) (.ref D) s3.heap.objs.size)
    { s3 with heap := pushCells (s3.heap.push { cls := .type "dict", data := .dict #[] }) scope.names }
  generalize eE : compEnvC scope cl s3.heap.objs.size X.env = env at I4 rg rt rk rv ⊢
  have loc : env.locals = s3.heap.objs.size := by
    rw [← eE]
    rfl
  generalize e4 : ({ s3 with heap := pushCells (s3.heap.push { cls := .type "dict", data := .dict #[] }) scope.names } : Shared) = s4 at I4 ⊢
  have st4 : tn 0 s4.heap := T.keep _ _ _ st3 fun b _ o q => by
    rw [← e4]
    exact pushCells_keeps _ _ _ _ (Heap.get?_push_of_some _ q)
  have free3 : ∀ b ∈ fp, H3 b = none := fun b hb => (ok3 b hb).1.1
  have held : ∀ {σ' : L2.St} {H' : Hp} {s' : Shared}, Inv (X.blk s3 H3 scope env fp) [] σ' H' s' → (∀ b ∈ fp, H' b = none) → ∀ b ∈ fp, FpOk (X.blk s3 H3 scope env fp) [] H' b := fun {σ' H' s'} J' fr b hb =>
    ⟨fr b hb, (J'.ok.exf b hb).1, J'.ok.exfs b hb, .inl hb, fun x c e => (J'.ok.exf b hb).2 x c e, fun p hp => absurd (show p ∈ ([] : List (Addr × Obj)) ++ [] from hp) (by simp)⟩
  have loop : codeAny (model X.prog X.w) X.A (.compLoop (.DictComp kx vx [⟨tg, iter, ifs, 0⟩] scope pos) 0 (.ref it) (.ref D) env) (compPost (model X.prog X.w) X.A X.xe none (EP X pins σ Q) (.ref D) s3.heap.objs.size) s4 := by
    refine compLoop_anyD (fun n s' => ∃ i H', Inv (X.blk s3 H3 scope env fp) [] (wipe σ (own.map (·.2))) H' s' ∧ tn i s'.heap ∧ (∀ b ∈ fp, H' b = none) ∧ W i n H') ?_ m0 ⟨0, H3, I4, st4, free3, w0⟩
    rintro n s5 ⟨i, H5, I5, st5, fr5, w5⟩
    rcases turn i n H5 w5 with ⟨stop, end_⟩ | ⟨go, Nx, goes, step⟩
    · refine thnF (T.done (X.blk s3 H3 scope env fp) rfl rfl rfl calm i [] s5 _ H5 (fun _ _ => False) I5 (held I5 fr5) st5 stop) fun r s6 ⟨hr, I6⟩ => ?_
      subst hr
      have back : Inv X pins σ H5 s6 := I3.call' (ch := fp) I6.os I6.base I6.hok I6.bare fun b hb => ⟨(ok3 b hb).1.2.2.2.1, (ok3 b hb).1.2.1, (ok3 b hb).1.2.2.2.2.1, (ok3 b hb).1.2.2.2.2.2⟩
      have noC : H5 s3.heap.objs.size = none := loc ▸ (show H5 env.locals = none from I6.free)
      obtain ⟨m, ns, _⟩ := I6.loc
      have ns : s6.heap.Ns s3.heap.objs.size m := loc ▸ (show s6.heap.Ns env.locals m from ns)
      obtain ⟨a0, a1, a2, a3, a4, a5⟩ := I3.fpOk (Nat.le_refl _) noC
      exact ⟨m, ns, fun h2 sb => ⟨.ref D, H5, back.turned (t' := s6.toks) (fun b o hb q => (sb.2 b hb).trans q) a0 a1 a3 a4 a5, rfl, end_⟩⟩
    · refine thnF (T.item (X.blk s3 H3 scope env fp) rfl rfl rfl calm i [] s5 _ H5 (fun _ _ => False) I5 (held I5 fr5) st5 go) fun r s6 ⟨u, hr, h6⟩ => ?_
      subst hr
      refine thnF h6 fun _ s7 ⟨x, H7, I7, r7, y7, st7, fr7⟩ => ?_
      refine thnF (rg.run _ s7 _ H7 x u _ (I7.pinned (held I7 fr7) (T.obj _ _ st7)) r7 (step x H7 y7)) fun _ s8 ⟨σ8, H8, I8, same8, q8⟩ => ?_
      refine thnF (rt.run _ s8 σ8 H8 _ I8 q8) fun b s9 ⟨H9, I9, q9⟩ => ?_
      have fin : ∀ {s' : Shared} {H' : Hp}, Inv (X.blk s3 H3 scope env fp) ([] ++ pinsAt fp s7.heap) σ8 H' s' → Nx H' → ∃ m, m < n ∧ ∃ i H', Inv (X.blk s3 H3 scope env fp) [] (wipe σ (own.map (·.2))) H' s' ∧ tn i s'.heap ∧ (∀ b ∈ fp, H' b = none) ∧ W i m H' := fun {s' H'} J' nx => by
        obtain ⟨m', less, w'⟩ := goes H' nx
        have pinned : ∀ b ∈ fp, ∀ o, s7.heap.get? b = some o → s'.heap.get? b = some o ∧ H' b = none := fun b hb o e =>
          let z := J'.pin (b, o) (List.mem_append_right _ (List.mem_append_right _ (mem_pinsAt hb e)))
          ⟨z.1, z.2.1⟩
        refine ⟨m', less, i + 1, H', (J'.unpinned (pins := [])).weak (by rw [← same8, wipe_length]) (fun j v e => (wipe_some (same8 ▸ e)).1), T.keep _ _ _ st7 fun b hb o e => (pinned b hb o e).1, fun b hb => ?_, w'⟩
        obtain ⟨o, e, _⟩ := T.obj _ _ st7 b hb
        exact (pinned b hb o e).2
      cases b with
      | false =>
        rw [if_neg (by decide)] at q9
        rw [if_neg (by decide)]
        exact fin I9 q9
      | true =>
        rw [if_pos rfl] at q9
        rw [if_pos rfl]
        refine thnF (rk.run _ s9 σ8 H9 _ I9 q9) fun z s10 ⟨yk, H10, I10, r10, q10⟩ => ?_
        refine thnF (rv.run _ s10 σ8 H10 _ I10 q10) fun z2 s11 ⟨yv, H11, I11, r11, a, kvs, k, ek, ha, hD, len, nx⟩ => ?_
        subst ek
        cases r10
        exact dictSet_tup (X := X.blk s3 H3 scope env fp) few I11 hD ha len r11 fun s12 I12 => fin I12 nx
  exact codeAny_compStart_dict loop (T.self X.A 0 _ _ _ st4 loop)
/-- over any walk -/
theorem dcT_it {J : It} {n : Nat} {G : Hp → Prop} {Y : Nat → Hp → V → Hp → Prop} (w : Walk J n G Y) {g : TG} {tt : TT} {tk tv : TE} {vs : List Nat} {σ : L2.St} {H1 : Hp} {D : Addr} {Qd : Hp → Prop} (Pv : Nat → Hp → Prop) (h0 : Pv 0 (upd H1 D (.dT []))) (hG : ∀ i H, i ≤ n → Pv i H → G H)
    (hs : ∀ i x H H', i < n → Pv i H → Y i H x H' → g x (wipe σ vs) H' fun σ2 H2 => wipe σ2 vs = wipe σ vs ∧ tt σ2 H2 fun b H3 =>
      if b = true then tk σ2 H3 fun y H4 => tv σ2 H4 fun z H5 => ∃ a kvs k, y = .ref a ∧ H5 a = some (.tup (k.map kV)) ∧ H5 D = some (.dT kvs) ∧ kvs.length < sizeLine ∧ Pv (i + 1) (upd H5 D (.dT (putK kvs k z))) else Pv (i + 1) H3) (hd : ∀ H, Pv n H → Qd H) :
    ∃ W : Nat → Nat → Hp → Prop, (∃ m, W 0 m (upd H1 D (.dT []))) ∧ ∀ i m H, W i m H →
      (J.stop i H ∧ Qd H) ∨ (J.go i H ∧ ∃ Nx : Hp → Prop, (∀ H', Nx H' → ∃ m', m' < m ∧ W (i + 1) m' H') ∧ ∀ x H', J.yld i H x H' → g x (wipe σ vs) H' fun σ2 H2 => wipe σ2 vs = wipe σ vs ∧ tt σ2 H2 fun b H3 =>
        if b = true then tk σ2 H3 fun y H4 => tv σ2 H4 fun z H5 => ∃ a kvs k, y = .ref a ∧ H5 a = some (.tup (k.map kV)) ∧ H5 D = some (.dT kvs) ∧ kvs.length < sizeLine ∧ Nx (upd H5 D (.dT (putK kvs k z))) else Nx H3) := by
  refine ⟨fun i m H => m + i = n ∧ Pv i H, ⟨n, rfl, h0⟩, ?_⟩
  rintro i m H ⟨e, p⟩
  have g0 := hG i H (by omega) p
  cases m with
  | zero =>
    obtain rfl : i = n := by omega
    exact .inl ⟨w.stops H g0, hd H p⟩
  | succ m => exact .inr ⟨w.goes i H (by omega) g0, Pv (i + 1), fun H' p' => ⟨m, Nat.lt_succ_self m, by omega, p'⟩, fun x H' y => hs i x H H' (by omega) p (w.yields i H x H' (by omega) g0 y)⟩
end
end DR

namespace K02
open PySem L2 DR DM TL
def top (i : Nat) : Stmt := PySem.Challenge.pw_deadrules_k02_document_texts_refused.main.body.getD i (.Pass ⟨0, 0, 0, 0⟩)
def toS (w : W) : Str := ⟨w.toArray⟩
def sv (w : W) : V := .str (toS w)
theorem tl_toS (w : W) : tl (toS w) = w := rfl
theorem toS_len (w : W) : (toS w).length = w.length := by rw [len_tl, tl_toS]
theorem toS_tl (x : Str) : toS (tl x) = x := mk_tl x
theorem toS_app (a b : W) : toS a ++ toS b = toS (a ++ b) := ext_tl (by rw [tl_append, tl_toS, tl_toS, tl_toS])
theorem toS_one (c : Nat) : (⟨#[c]⟩ : Str) = toS [c] := rfl
theorem same_new {H : Hp} {p : Addr} {o : HO} (h : H p = none) : Same H (upd H p o) := fun b u e => by
  rw [upd_ne (ne_of_none e h), e]
/-- what was tracked ahead of p stays where p alone is written -/
theorem same_put {H H' : Hp} {p : Addr} {o : HO} (s : Same H H') (h : H p = none) : Same H (upd H' p o) := fun b u e => by
  rw [upd_ne (ne_of_none e h)]
  exact s b u e
/-! ### cut -/
abbrev sCut : Stmt := top 7
def spCut : Sp := fun vs H Q _ => ∃ (t L S : Str), vs = [.str t, .str L, .str S] ∧ (tl t).length ≤ 30000 ∧ (cutM (tl L) (tl S) (tl t) = none → ∀ H', Same H H' → Q .non H') ∧
  ∀ ps p H', cutM (tl L) (tl S) (tl t) = some ps → H p = none → Same H H' → H' p = some (.lst (ps.map sv)) → Q (.ref p) H'
theorem big : 200000 < sizeLine := by decide
section
variable {P : Program} {w : World} {K : PySem.W.Frag} {mg : Str → Option Value} {base : Heap}
theorem scCut : FnScope ["text", "letters", "signs", "pieces", "word", "sign"] ["text", "letters", "signs"] (defScope sCut) := ⟨rfl, rfl, rfl, by decide +kernel, rfl, by decide +kernel, by decide +kernel⟩
theorem flush_nil (ps : List W) : flush ps [] = ps := rfl
theorem cut_step {L S : List Nat} {t : W} {i c : Nat} {x : Option (List W × W)} (h : t[i]? = some c) (e : (t.take i).foldl (cutStep L S) (some ([], [])) = x) : (t.take (i + 1)).foldl (cutStep L S) (some ([], [])) = cutStep L S x c := by
  have hi : i < t.length := (List.getElem?_eq_some_iff.mp h).1
  rw [List.take_succ, h, List.foldl_append, e]
  rfl
theorem cut_bad {L S : List Nat} {t : W} {i : Nat} (e : (t.take i).foldl (cutStep L S) (some ([], [])) = none) : cutM L S t = none := by
  unfold cutM
  rw [← List.take_append_drop i t, List.foldl_append, e, cut_none]
  rfl
theorem append_rule {X : Cx} {o e : Expr} {to : TE} {ta : TA} {apos cpos pos : Pos} (ho : PE X o to) (ha : PA X [e] ta)
    (h1 : attributeBase o "append" X.env (eval o X.env) = eval o X.env := by rfl) (h2 : ((backTo cpos (starEach [e] X.env)).all (fun x => !x.1) && (backToKw cpos (keywordEach [] X.env)).all (fun x => x.1.isSome) && decide (([e] : List Expr).length + ([] : List Keyword).length + (if ([] : List Keyword).isEmpty then 0 else 1) < 30)) = true := by rfl)
    (h3 : (apos.endLine == cpos.line) = true := by rfl) (h4 : starEach [e] X.env = (false, eval e X.env) :: starEach [] X.env := by rfl) (h5 : (backTo cpos (starEach [] X.env)).any (·.1) = false := by rfl)
    (hs : swapsWith (.Call (.Attribute o "append" apos) [e] [] cpos) none pos.line X.env = pure false := by rfl) :
    PS X (.Expr (.Call (.Attribute o "append" apos) [e] [] cpos) pos) (tDrop (tBM X.K "list" rAppend to ta)) :=
  ps_expr (pe_bm PySem.F.plainAttrs_list PySem.F.slot_list_append PySem.F.type_list_append mt_append ho ha h1 h2 h3 h4 h5) hs
theorem ok_cut {f : Addr} {fd : FuncData} (F : Fun K "cut" "cut" sCut f fd) : FnOk P w K mg base CX0 1 f fd ["text", "letters", "signs"] spCut := by
  refine F.ok scCut (fun vs H Q E h => ?_) (fun cdv A outer s H vs Q E hr h => ?_)
  · obtain ⟨_, _, _, rfl, _⟩ := h
    rfl
  · obtain ⟨t, L, S, rfl, len, no, yes⟩ := h
    refine ⟨_, pss_cons (ps_set (i := 3) scCut.nd rfl (Or.inl rfl) (pe_lst pa_nil))
      (pss_cons (ps_set (i := 4) scCut.nd rfl (Or.inl rfl) pe_str)
      (pss_cons (ps_for PassesOwn.never rfl (pi_str (pv 0)) (pg_name (i := 5) scCut.nd rfl (Or.inl rfl))
        (pss_cons (ps_if (pt_cmpR op_in_sign (pv 5) (pv 1) rfl) (pss_cons (ps_aug (i := 4) scCut.nd rfl (Or.inl rfl) (pv 5) iop_add_str) (pss_one ps_continue)) pss_nil)
        (pss_cons (ps_if (pt_cmpR op_notIn_sign (pv 5) (pv 2) rfl) (pss_one (ps_ret pe_non)) pss_nil)
        (pss_cons (ps_if (pt_truth (pv 4) (by intro _; rfl)) (pss_cons (append_rule (pv 3) (pa_cons (pv 4) pa_nil)) (pss_one (ps_set (i := 4) scCut.nd rfl (Or.inl rfl) pe_str))) pss_nil)
        (pss_one (append_rule (pv 3) (pa_cons (pv 5) pa_nil)))))))
      (pss_cons (ps_if (pt_truth (pv 4) (by intro _; rfl)) (pss_one (append_rule (pv 3) (pa_cons (pv 4) pa_nil))) pss_nil)
      (pss_one (ps_ret (pv 3)))))), ?_⟩
    refine ⟨by show 0 ≤ sizeLine; decide, fun p hp => ?_⟩
    have len' : t.cps.size = (tl t).length := by simp
    refine ⟨_, rfl, t, rfl, for_it walk_str (fun i σ H' => ∃ ps u o5, ((tl t).take i).foldl (cutStep (tl L) (tl S)) (some ([], [])) = some (ps, u) ∧ σ = [some (.str t), some (.str L), some (.str S), some (.ref p), some (sv u), o5] ∧ Same H H' ∧ H' p = some (.lst (ps.map sv)) ∧ u.length ≤ i ∧ ps.length ≤ 2 * i)
      ⟨[], [], none, rfl, rfl, same_new hp, upd_same, Nat.le_refl _, Nat.le_refl _⟩ (fun _ _ _ _ _ => trivial) ?_ ?_⟩
    · rintro i x σ H1 H2 hi ⟨ps, u, o5, ef, rfl, s1, m1, l1, l2⟩ ⟨rfl, c, hc, rfl⟩
      have hi' : i < 30000 := by omega
      have hc' : (tl t)[i]? = some c := by simpa using hc
      have st := cut_step hc' ef
      have B := big
      refine ⟨_, rfl, _, rfl, c, L, rfl, rfl, _, rfl, ?_⟩
      refine ite2 (fun c1 => ?_) (fun c1 => ?_)
      · have c1' : c ∈ tl L := of_decide_eq_true c1
        refine ⟨_, rfl, _, rfl, _, _, rfl, rfl, ?_, ?_⟩
        · rw [toS_len]
          show u.length + 1 ≤ _
          omega
        · refine ⟨ps, u ++ [c], some (.str ⟨#[c]⟩), ?_, ?_, s1, m1, ?_, ?_⟩
          · rw [st]
            exact if_pos c1'
          · have e : toS u ++ (⟨#[c]⟩ : Str) = toS (u ++ [c]) := by rw [toS_one, toS_app]
            show [some (V.str t), some (V.str L), some (V.str S), some (V.ref p), some (V.str (toS u ++ ⟨#[c]⟩)), some (V.str ⟨#[c]⟩)] = _
            rw [e]
            rfl
          · rw [List.length_append]
            show u.length + 1 ≤ _
            omega
          · omega
      · have c1' : c ∉ tl L := fun q => c1 (decide_eq_true q)
        refine ⟨_, rfl, _, rfl, c, S, rfl, rfl, _, rfl, ?_⟩
        by_cases c2 : c ∈ tl S
        · refine if_eq (decide_eq_true c2) ?_
          refine ⟨_, rfl, _, ⟨by rw [toS_len]; omega, rfl⟩, ?_⟩
          have e2 : cutStep (tl L) (tl S) (some (ps, u)) c = some (flush ps u ++ [[c]], []) := cut_sign c1' c2 ps u
          rw [e2] at st
          by_cases c3 : u = []
          · subst c3
            refine iteF ?_
            refine ⟨_, rfl, .inl ⟨rfl, _, .inl (.inl m1)⟩, _, rfl, p, _, _, rfl, rfl, m1, ?_, ?_⟩
            · rw [List.length_map]
              omega
            · refine ⟨_, [], _, st, rfl, same_put s1 hp, ?_, Nat.zero_le _, ?_⟩
              · rw [upd_same, flush_nil, List.map_append]
                rfl
              · rw [flush_nil, List.length_append]
                show ps.length + 1 ≤ _
                omega
          · have c4 : (((toS u).length : Int) != 0) = true := by
              rw [toS_len]
              have : u.length ≠ 0 := fun z => c3 (List.length_eq_zero_iff.mp z)
              simp
              omega
            rw [c4]
            refine iteT ?_
            have ef' : flush ps u = ps ++ [u] := if_neg c3
            rw [ef'] at st
            refine ⟨_, rfl, .inl ⟨rfl, _, .inl (.inl m1)⟩, _, rfl, p, _, _, rfl, rfl, m1, (by rw [List.length_map]; omega), ?_⟩
            have m2 : upd H2 p (.lst (List.map sv ps ++ [.str (toS u)])) p = some (.lst (List.map sv (ps ++ [u]))) := by
              rw [upd_same, List.map_append]
              rfl
            have s2 : Same H (upd H2 p (.lst (List.map sv ps ++ [.str (toS u)]))) := same_put s1 hp
            refine ⟨_, rfl, .inl ⟨rfl, _, .inl (.inl m2)⟩, _, rfl, p, _, _, rfl, rfl, m2, ?_, ?_⟩
            · rw [List.length_map, List.length_append]
              show ps.length + 1 < _
              omega
            · refine ⟨_, [], _, st, rfl, same_put s2 hp, ?_, Nat.zero_le _, ?_⟩
              · rw [upd_same, List.map_append (l₁ := ps ++ [u])]
                rfl
              · rw [List.length_append, List.length_append]
                show ps.length + 1 + 1 ≤ _
                omega
        · have bad : cutM (tl L) (tl S) (tl t) = none := by
            refine cut_bad (i := i + 1) ?_
            rw [st]
            show (if c ∈ tl L then _ else if c ∈ tl S then _ else _) = _
            rw [if_neg c1', if_neg c2]
          rw [decide_eq_false c2]
          exact iteT (no bad _ s1)
    · rintro σ H1 ⟨ps, u, o5, ef, rfl, s1, m1, l1, l2⟩
      have B := big
      have lt : t.cps.size ≤ 30000 := by omega
      have all : (tl t).foldl (cutStep (tl L) (tl S)) (some ([], [])) = some (ps, u) := by
        rw [List.take_of_length_le (Nat.le_of_eq len'.symm)] at ef
        exact ef
      have cm : cutM (tl L) (tl S) (tl t) = some (flush ps u) := by
        unfold cutM
        rw [all]
        rfl
      refine ⟨_, rfl, _, ⟨by rw [toS_len]; omega, rfl⟩, ?_⟩
      by_cases c3 : u = []
      · subst c3
        exact iteF ⟨_, rfl, yes _ p _ cm hp s1 m1⟩
      · have c4 : (((toS u).length : Int) != 0) = true := by
          rw [toS_len]
          have : u.length ≠ 0 := fun z => c3 (List.length_eq_zero_iff.mp z)
          simp
          omega
        rw [c4]
        refine iteT ?_
        have ef' : flush ps u = ps ++ [u] := if_neg c3
        rw [ef'] at cm
        refine ⟨_, rfl, .inl ⟨rfl, _, .inl (.inl m1)⟩, _, rfl, p, _, _, rfl, rfl, m1, (by rw [List.length_map]; omega), ?_⟩
        refine ⟨_, rfl, yes _ p _ cm hp (same_put s1 hp) ?_⟩
        rw [upd_same, List.map_append]
        rfl
end
end K02

namespace K02
open PySem L2 DR DM TL
/-- what the top leaves of the names that are called -/
structure Txt (mg : Str → Option Value) : Prop where
  int : mg "int" = none
  bool : mg "bool" = none
  str : mg "str" = none
  list : mg "list" = none
  tuple : mg "tuple" = none
  set : mg "set" = none
  len : mg "len" = none
  all : mg "all" = none
  sorted : mg "sorted" = none
  isi : mg "isinstance" = none
  enum : mg "enumerate" = none
  range : mg "range" = none
  max : mg "max" = none
  min : mg "min" = none
  lets : ∃ u, mg "LETTERS" = some u ∧ RelV (.str (toS lets)) u
  longest : ∃ u, mg "LONGEST_NAME" = some u ∧ RelV (.int 8) u
  most : ∃ u, mg "MOST_NODES" = some u ∧ RelV (.int 200) u
/-- one def as it is called -/
def Has (P : Program) (w : World) (K : PySem.W.Frag) (mg : Str → Option Value) (base : Heap) (k : Nat) (x : Str) (ps : List Str) (sp : Sp) : Prop :=
  ∃ f fd, FnOk P w K mg base CX0 k f fd ps sp ∧ mg x = some (.ref f) ∧ PySem.W.keepIn K (.ref f) = true ∧ Binds K fd ps []
abbrev sInt : Stmt := top 4
abbrev sName : Stmt := top 5
abbrev sNames : Stmt := top 6
abbrev sIsPath : Stmt := top 20
def spInt (K : PySem.W.Frag) : Sp := fun vs H Q _ => ∃ (x : V) (t : Value) (b1 b2 : Bool), vs = [x] ∧ TyX K H x t ∧ PySem.W.kitOne K t (.type "int") = some b1 ∧ PySem.W.kitOne K t (.type "bool") = some b2 ∧ Q (.bl (b1 && !b2)) H
def spName : Sp := fun vs H Q _ => ∃ t : Str, vs = [.str t] ∧ (tl t).length ≤ 30000 ∧ ∀ H', Same H H' → Q (.bl (isName (tl t))) H'
def spNames (K : PySem.W.Frag) : Sp := fun vs H Q _ => ∃ (p : Addr) (ts : List Str), vs = [.ref p] ∧ H p = some (.lst (ts.map V.str)) ∧ ts.length ≤ 1000 ∧ (∀ t ∈ ts, (tl t).length ≤ 30000) ∧ ∀ H', Same H H' → Q (.bl (areNames (ts.map tl))) H'
theorem nodup_tl {ts : List Str} : ts.Nodup ↔ (ts.map tl).Nodup := by
  induction ts with
  | nil => simp
  | cons t ts ih =>
    rw [List.map_cons, List.nodup_cons, List.nodup_cons, ih]
    refine and_congr_left fun _ => not_congr ⟨fun h => List.mem_map.mpr ⟨t, h, rfl⟩, fun h => ?_⟩
    obtain ⟨z, h1, h2⟩ := List.mem_map.mp h
    exact ext_tl h2 ▸ h1
section
variable {P : Program} {w : World} {K : PySem.W.Frag} {mg : Str → Option Value} {base : Heap}
theorem scInt : FnScope ["value"] ["value"] (defScope sInt) := ⟨rfl, rfl, rfl, by decide +kernel, rfl, by decide +kernel, by decide +kernel⟩
theorem ok_int {f : Addr} {fd : FuncData} (F : Fun K "is_integer" "is_integer" sInt f fd) (T : Txt mg) : FnOk P w K mg base CX0 1 f fd ["value"] (spInt K) := by
  refine F.ok scInt (fun vs H Q E h => ?_) (fun cdv A outer s H vs Q E hr h => ?_)
  · obtain ⟨_, _, _, _, rfl, _⟩ := h
    rfl
  · obtain ⟨x, t, b1, b2, rfl, ty, h1, h2, fin⟩ := h
    refine ⟨_, pss_one (ps_ret (pe_and (pe_callB call_isi (by rfl) T.isi PyProof.Rows.boot_isinstance (pa_cons (pv 0) (pa_cons (pe_bltn (v := .ty "int") (by rfl) T.int (by decide +kernel) rfl) pa_nil)))
      (pe_one (pe_not (pe_callB call_isi (by rfl) T.isi PyProof.Rows.boot_isinstance (pa_cons (pv 0) (pa_cons (pe_bltn (v := .ty "bool") (by rfl) T.bool (by decide +kernel) rfl) pa_nil))))))), ?_⟩
    refine ⟨_, rfl, x, _, t, _, b1, rfl, .ty _, ty, h1, b1, rfl, ?_⟩
    cases b1 with
    | false => exact iteF fin
    | true => exact iteT ⟨_, rfl, x, _, t, _, b2, rfl, .ty _, ty, h2, b2, rfl, fin⟩
theorem scName : FnScope ["value", "sign"] ["value"] (defScope sName) := ⟨rfl, rfl, rfl, by decide +kernel, rfl, by decide +kernel, by decide +kernel⟩
theorem ok_name {f : Addr} {fd : FuncData} (F : Fun K "is_name" "is_name" sName f fd) (T : Txt mg) : FnOk P w K mg base CX0 1 f fd ["value"] spName := by
  obtain ⟨uL, mL, rL⟩ := T.lets
  obtain ⟨uN, mN, rN⟩ := T.longest
  refine F.ok scName (fun vs H Q E h => ?_) (fun cdv A outer s H vs Q E hr h => ?_)
  · obtain ⟨_, rfl, _⟩ := h
    rfl
  · obtain ⟨t, rfl, len, fin⟩ := h
    refine ⟨_, pss_cons (ps_if (PW.pt (pw_or (pt_not (pt_val (pe_callB call_isi (by rfl) T.isi PyProof.Rows.boot_isinstance (pa_cons (pv 0) (pa_cons (pe_bltn (v := .ty "str") (by rfl) T.str (by decide +kernel) rfl) pa_nil)))))
        (pw_or1 (pt_not (pt_chain op_le op_le pe_int (pe_callB call_len_str (by rfl) T.len PySem.boot_len (pa_cons (pv 0) pa_nil)) (pe_glob (v := .int 8) (by rfl) mN rN)))))) (pss_one (ps_ret pe_bl)) pss_nil)
      (pss_one (ps_ret (pe_callB (cr_all rfl) (by rfl) T.all PyProof.Rows.boot_all (pa_cons (pe_lc (own := [("sign", 1)]) (g := gName 1) (tt := tYes) rfl scName.nd (pi_str (pv 0))
        (blkOk_by (N := ["value", "sign"]) (sc := defScope sName) (by decide +kernel)) (fun _ _ _ _ _ => pg_name (i := 1) scName.nd rfl (Or.inl rfl)) (fun _ _ _ _ _ => pts_nil)
        (fun _ _ _ _ _ => pe_cmpR op_in_sign (pv 1) (pe_glob (v := .str (toS lets)) (by rfl) mL rL) rfl)) pa_nil)))), ?_⟩
    have B := big
    have len' : t.cps.size = (tl t).length := by simp
    have tlen : t.length = (tl t).length := len_tl t
    refine ⟨_, rfl, .str t, _, .type "str", _, true, rfl, .ty _, .base (.str t), by rfl, true, rfl, ?_⟩
    refine iteF ⟨_, rfl, t, rfl, by omega, _, _, rfl, rfl, _, rfl, ?_⟩
    have short : ¬ (1 ≤ (tl t).length ∧ (tl t).length ≤ 8) → isName (tl t) = false := fun n => by
      unfold isName
      cases e : (decide (1 ≤ (tl t).length) && decide ((tl t).length ≤ 8)) with
      | false => rfl
      | true =>
        simp only [Bool.and_eq_true, decide_eq_true_eq] at e
        exact absurd e n
    refine ite2 (fun c1 => ?_) (fun c1 => ?_)
    · have c1' := of_decide_eq_true c1
      refine ⟨_, _, rfl, rfl, _, rfl, ?_⟩
      by_cases c2 : ((t.length : Nat) : Int) ≤ 8
      · refine if_eq (decide_eq_true c2) ?_
        refine ⟨_, rfl, t, rfl, fun D hD => lc_it walk_str (fun i H' => H' = upd H D (.lst (((tl t).take i).map fun c => V.bl (decide (c ∈ lets))))) rfl (fun _ _ _ _ => trivial) ?_ ?_⟩
        · rintro i x H1 H2 hi rfl ⟨rfl, c, hc, rfl⟩
          refine ⟨rfl, ?_⟩
          unfold tYes
          refine iteT ⟨_, rfl, c, toS lets, rfl, rfl, _, upd_same, ?_, ?_⟩
          · rw [List.length_map]
            exact Nat.lt_of_le_of_lt (List.length_take_le _ _) (by omega)
          · have hc' : (tl t)[i]? = some c := by simpa using hc
            rw [upd_upd, List.take_succ, hc', List.map_append]
            rfl
        · rintro H1 rfl
          refine ⟨D, (tl t).map fun c => decide (c ∈ lets), rfl, SqL.of ?_, ?_⟩
          · rw [upd_same, List.map_map, len', List.take_length]
            rfl
          · have : isName (tl t) = ((tl t).map fun c => decide (c ∈ lets)).all id := by
              unfold isName
              rw [decide_eq_true (show 1 ≤ (tl t).length by omega), decide_eq_true (show (tl t).length ≤ 8 by omega), List.all_map]
              rfl
            rw [← this]
            exact fin _ (same_new hD)
      · rw [decide_eq_false c2]
        refine iteT ?_
        have e := short fun q => c2 (by omega)
        rw [e] at fin
        exact fin _ (Same.refl _)
    · have c1' : ¬ (1 : Int) ≤ ((t.length : Nat) : Int) := fun q => c1 (decide_eq_true q)
      have e := short fun q => c1' (by omega)
      rw [e] at fin
      exact ⟨_, rfl, iteT (fin _ (Same.refl _))⟩
theorem scNames : FnScope ["values", "value"] ["values"] (defScope sNames) := ⟨rfl, rfl, rfl, by decide +kernel, rfl, by decide +kernel, by decide +kernel⟩
theorem ok_names {f : Addr} {fd : FuncData} (F : Fun K "are_names" "are_names" sNames f fd) (T : Txt mg) (D : Has P w K mg base 1 "is_name" ["value"] spName) : FnOk P w K mg base CX0 2 f fd ["values"] (spNames K) := by
  obtain ⟨fN, fdN, GN, mN, kN, bN⟩ := D
  refine F.ok scNames (fun vs H Q E h => ?_) (fun cdv A outer s H vs Q E hr h => ?_)
  · obtain ⟨_, _, rfl, _⟩ := h
    rfl
  · obtain ⟨p, ts, rfl, hp, few, len, fin⟩ := h
    have hr1 : Room 1 _ := hr.mono (by decide)
    refine ⟨_, pss_cons (ps_if (pt_not (pt_val (pe_callB call_isiT (by rfl) T.isi PyProof.Rows.boot_isinstance (pa_cons (pv 0) (pa_cons (pe_tup (pa_cons (pe_bltn (v := .ty "list") (by rfl) T.list (by decide +kernel) rfl) (pa_cons (pe_bltn (v := .ty "tuple") (by rfl) T.tuple (by decide +kernel) rfl) pa_nil))) pa_nil))))) (pss_one (ps_ret pe_bl)) pss_nil)
      (pss_one (ps_ret (pe_and (pe_callB (cr_all rfl) (by rfl) T.all PyProof.Rows.boot_all (pa_cons (pe_lc (own := [("value", 1)]) (g := gName 1) (tt := tYes) rfl scNames.nd (pi_list (pv 0))
        (blkOk_by (N := ["values", "value"]) (sc := defScope sNames) (by decide +kernel)) (fun _ _ _ _ _ => pg_name (i := 1) scNames.nd rfl (Or.inl rfl)) (fun _ _ _ _ _ => pts_nil)
        (fun _ _ _ _ _ => pe_call GN hr1 (by rfl) mN kN bN .nil pass0 (pa_cons (pv 1) pa_nil))) pa_nil))
        (pe_one (pe_cmpR op_eq (pe_lenSetT rfl (by rfl) T.len (by rfl) T.set (pv 0)) (pe_callB call_len_seq (by rfl) T.len PySem.boot_len (pa_cons (pv 0) pa_nil)) rfl))))), ?_⟩
    have B := big
    refine ⟨_, rfl, by show 2 ≤ sizeLine; decide, fun q hq => ?_⟩
    generalize g1 : upd H q _ = H1
    have s1 : Same H H1 := g1 ▸ same_new hq
    have m1 : H1 q = some (.tup [.ty "list", .ty "tuple"]) := g1 ▸ upd_same
    refine ⟨.ref p, q, _, .type "list", _, true, rfl, m1, .cons (.ty _) (.cons (.ty _) .nil), .base (.lst (s1 _ _ hp)), by rfl, true, rfl, ?_⟩
    refine iteF ⟨_, rfl, p, rfl, ⟨_, SqL.of (s1 _ _ hp)⟩, fun D hD => lc_it (walk_list (K := K) (a := p) (xs := ts.map V.str)) (fun i H' => Same H1 H' ∧ H' D = some (.lst ((ts.take i).map fun t => V.bl (isName (tl t)))))
      ⟨same_new hD, upd_same⟩ (fun i H' _ ⟨s, _⟩ => s.seq (SqL.of (s1 _ _ hp))) ?_ ?_⟩
    · rintro i x H2 H3 hi ⟨s2, m2⟩ ⟨rfl, hx⟩
      rw [List.getElem?_map] at hx
      obtain ⟨t, ht, rfl⟩ := Option.map_eq_some_iff.mp hx
      refine ⟨rfl, ?_⟩
      unfold tYes
      refine iteT ⟨_, rfl, t, rfl, len t (List.mem_of_getElem? ht), fun H4 s4 => ⟨_, s4 _ _ m2, ?_, ?_, ?_⟩⟩
      · rw [List.length_map]
        exact Nat.lt_of_le_of_lt (List.length_take_le _ _) (by rw [List.length_map] at hi; omega)
      · exact same_put (s2.trans s4) hD
      · rw [upd_same, List.take_succ, ht, List.map_append]
        rfl
    · rintro H2 ⟨s2, m2⟩
      rw [List.length_map, List.take_length] at m2
      refine ⟨D, ts.map fun t => isName (tl t), rfl, SqL.of (by rw [m2, List.map_map]; rfl), _, rfl, ?_⟩
      have all : (ts.map fun t => isName (tl t)).all id = (ts.map tl).all isName := by
        rw [List.all_map, List.all_map]
        rfl
      rw [all]
      refine ite2 (fun c1 => ?_) (fun c1 => ?_)
      · refine ⟨_, rfl, p, ts, rfl, SqL.of (s2 _ _ (s1 _ _ hp)), by unfold PySem.scanBound; omega, fun c hc => ⟨_, rfl, p, _, rfl, .inl (SqL.of (s2 _ _ (s1 _ _ hp))), ?_⟩⟩
        have e : areNames (ts.map tl) = decide (V.int (c : Int) = V.int (((ts.map V.str).length : Nat) : Int)) := by
          unfold areNames
          rw [c1, Bool.true_and, List.length_map, decide_eq_decide, ← nodup_tl, ← hc]
          exact ⟨fun q => by rw [q], fun q => by injection q with q; omega⟩
        rw [e] at fin
        exact ⟨rfl, fin _ (s1.trans s2)⟩
      · have e : areNames (ts.map tl) = false := by
          unfold areNames
          rw [Bool.eq_false_iff.mpr c1]
          rfl
        rw [e] at fin
        exact fin _ (s1.trans s2)
end
end K02

namespace K02
open PySem L2 DR DM TL
theorem cut_from (xs : List V) (k : Nat) : cutV xs (some (k : Int)) none = xs.drop k := by
  unfold cutV
  rw [HT.sIx_nat, HT.sIx_none]
  by_cases h : k ≤ xs.length
  · rw [Nat.min_eq_left h, List.take_of_length_le]
    rw [List.length_drop]
    exact Nat.le_refl _
  · rw [Nat.min_eq_right (by omega), Nat.sub_self, List.take_zero, List.drop_eq_nil_iff.mpr (by omega)]
theorem spl_len (S : List Nat) : ∀ (l : List Nat) (k : Nat) (acc : List Nat), ∀ w ∈ spl S k acc l, w.length ≤ acc.length + l.length
  | [], k, acc, w, h => by
    rw [spl_nil] at h
    rw [List.mem_singleton.mp h]
    exact Nat.le_add_right _ _
  | c :: r, 0, acc, w, h => by
    by_cases p : pre S (c :: r) = true
    · rw [spl_hit p] at h
      rcases List.mem_cons.mp h with rfl | h
      · exact Nat.le_add_right _ _
      · have := spl_len S r _ [] w h
        simp only [List.length_nil, List.length_cons] at this ⊢
        omega
    · rw [spl_miss (Bool.eq_false_iff.mpr p)] at h
      have := spl_len S r _ _ w h
      simp only [List.length_append, List.length_cons, List.length_nil] at this ⊢
      omega
  | c :: r, k + 1, acc, w, h => by
    have := spl_len S r k acc w h
    simp only [List.length_cons]
    omega
theorem spl_ne (S : List Nat) : ∀ (l : List Nat) (k : Nat) (acc : List Nat), spl S k acc l ≠ []
  | [], k, acc => by
    rw [spl_nil]
    exact fun z => nomatch z
  | c :: r, 0, acc => by
    by_cases p : pre S (c :: r) = true
    · rw [spl_hit p]
      exact fun z => nomatch z
    · rw [spl_miss (Bool.eq_false_iff.mpr p)]
      exact spl_ne S r _ _
  | c :: r, k + 1, acc => spl_ne S r k acc
theorem split_dot (t : Str) : (Txt.split t ".").map tl = spl [46] 0 [] (tl t) := by
  refine split_spl t "." (by decide) ?_
  have h1 : Builtin.Str.strKind "." = 1 := by decide +kernel
  rw [h1]
  unfold Builtin.Str.strKind
  split
  · decide
  · split <;> decide
abbrev sHead : Stmt := top 17
def spHead : Sp := fun vs H Q _ => ∃ t : Str, vs = [.str t] ∧ (tl t).length ≤ 30000 ∧ (spl [46] 0 [] (tl t)).length < 64 ∧ (headM srt (tl t) = none → ∀ H', Same H H' → Q .non H') ∧
  ∀ k ms p m H', headM srt (tl t) = some (k, ms) → H p = none → Same H H' → H' p = some (.tup [sv k, .ref m]) → H' m = some (.tup (ms.map sv)) → Q (.ref p) H'
section
variable {P : Program} {w : World} {K : PySem.W.Frag} {mg : Str → Option Value} {base : Heap}
theorem scHead : FnScope ["text", "names", "marks"] ["text"] (defScope sHead) := ⟨rfl, rfl, rfl, by decide +kernel, rfl, by decide +kernel, by decide +kernel⟩
theorem ok_head {f : Addr} {fd : FuncData} (F : Fun K "read_head" "read_head" sHead f fd) (T : Txt mg) (D1 : Has P w K mg base 1 "is_name" ["value"] spName) (D2 : Has P w K mg base 2 "are_names" ["values"] (spNames K)) :
    FnOk P w K mg base CX0 3 f fd ["text"] spHead := by
  obtain ⟨fN, fdN, GN, mN, kN, bN⟩ := D1
  obtain ⟨fA, fdA, GA, mA, kA, bA⟩ := D2
  refine F.ok scHead (fun vs H Q E h => ?_) (fun cdv A outer s H vs Q E hr h => ?_)
  · obtain ⟨_, rfl, _⟩ := h
    rfl
  · obtain ⟨t, rfl, len, few, no, yes⟩ := h
    have hr1 : Room 1 _ := hr.mono (by decide)
    refine ⟨_, pss_cons (ps_set (i := 1) scHead.nd rfl (Or.inl rfl) (pe_split (pv 0) pe_str))
      (pss_cons (ps_set (i := 2) scHead.nd rfl (Or.inl rfl) (pe_slice sl_list (pv 1) (po_some pe_int) po_none))
      (pss_cons (ps_if (PW.pt (pw_or (pt_not (pt_val (pe_call GN hr1 (by rfl) mN kN bN .nil pass0 (pa_cons (pe_ix ix_list (pv 1) pe_int (fun _ _ => rfl)) pa_nil))))
        (pw_or1 (pt_not (pt_val (pe_call GA hr (by rfl) mA kA bA .nil pass0 (pa_cons (pv 2) pa_nil))))))) (pss_one (ps_ret pe_non)) pss_nil)
      (pss_one (ps_ret (pe_tup (pa_cons (pe_ix ix_list (pv 1) pe_int (fun _ _ => rfl)) (pa_cons (pe_callTy call_tuple_of (by rfl) T.tuple (by decide +kernel)
        (pa_cons (pe_callB cr_sortedS (by rfl) T.sorted PyProof.Rows.boot_sorted (pa_cons (pv 2) pa_nil)) pa_nil)) pa_nil))))))), ?_⟩
    have B := big
    have tlen : t.length = (tl t).length := len_tl t
    have sd := split_dot t
    obtain ⟨k, ms, ek⟩ : ∃ k ms, Txt.split t "." = k :: ms := by
      cases e : Txt.split t "." with
      | nil =>
        rw [e] at sd
        exact absurd sd.symm (spl_ne _ _ _ _)
      | cons k ms => exact ⟨k, ms, rfl⟩
    rw [ek, List.map_cons] at sd
    have small : ∀ w ∈ tl k :: ms.map tl, w.length ≤ 30000 := fun w h => by
      have := spl_len [46] (tl t) 0 [] w (sd ▸ h)
      rw [List.length_nil] at this
      omega
    have hM : headM srt (tl t) = if isName (tl k) = true ∧ areNames (ms.map tl) = true then some (tl k, srt (ms.map tl)) else none := by
      unfold headM
      rw [← sd]
    have few' : ms.length + 1 < 64 := by
      rw [← sd, List.length_cons, List.length_map] at few
      exact few
    refine ⟨_, rfl, ⟨t, rfl⟩, t, ".", rfl, rfl, by decide, by omega, fun p hp => ?_⟩
    rw [ek]
    generalize g1 : upd H p _ = H1
    have s1 : Same H H1 := g1 ▸ same_new hp
    have m1 : H1 p = some (.lst ((k :: ms).map V.str)) := g1 ▸ upd_same
    refine ⟨_, rfl, _, rfl, p, _, rfl, SqL.of m1, fun q hq => ?_⟩
    have ct : cutV ((k :: ms).map V.str) (some 1) none = ms.map V.str := cut_from ((k :: ms).map V.str) 1
    rw [ct]
    generalize g2 : upd H1 q _ = H2
    have s2 : Same H1 H2 := g2 ▸ same_new hq
    have m2 : H2 q = some (.lst (ms.map V.str)) := g2 ▸ upd_same
    refine ⟨_, rfl, p, _, 0, _, rfl, rfl, SqL.of (s2 _ _ m1), atI_nat (j := 0) rfl, k, rfl, small _ (List.mem_cons_self ..), fun H3 s3 => ⟨_, rfl, ?_⟩⟩
    have no' : ¬ (isName (tl k) = true ∧ areNames (ms.map tl) = true) → ∀ H', Same H2 H' → Q .non H' := fun c H' s => no (by rw [hM, if_neg c]) _ (s1.trans (s2.trans s))
    refine ite2 (fun c1 => ?_) (fun c1 => ?_)
    · exact iteT (no' (fun c => by rw [c.1] at c1; exact absurd c1 (by decide)) _ s3)
    · have c1' : isName (tl k) = true := by simpa using c1
      refine ⟨_, rfl, q, ms, rfl, s3 _ _ m2, by omega, fun u hu => small _ (List.mem_cons_of_mem _ (List.mem_map.mpr ⟨u, hu, rfl⟩)), fun H4 s4 => ⟨_, rfl, ?_⟩⟩
      refine ite2 (fun c2 => ?_) (fun c2 => ?_)
      · exact no' (fun c => by rw [c.2] at c2; exact absurd c2 (by decide)) _ (s3.trans s4)
      · have c2' : areNames (ms.map tl) = true := by simpa using c2
        have s5 := s3.trans s4
        refine ⟨_, rfl, p, _, 0, _, rfl, rfl, SqL.of (s5 _ _ (s2 _ _ m1)), atI_nat (j := 0) rfl, _, rfl, q, ms, rfl, SqL.of (s5 _ _ m2), by omega, fun ys a pe so ha => ?_⟩
        refine ⟨a, _, rfl, .inl ⟨SqL.of upd_same, fun b hb => ⟨by show 2 ≤ sizeLine; decide, fun c hc => ?_⟩⟩⟩
        have es : (srt (ms.map tl)).map sv = ys.map V.str := by
          rw [srt_eq (pe.map tl) (rises_of so), List.map_map]
          refine List.map_congr_left fun y _ => ?_
          show V.str (toS (tl y)) = V.str y
          rw [toS_tl]
        refine yes (tl k) (srt (ms.map tl)) c b _ (by rw [hM, if_pos ⟨c1', c2'⟩]) ?_ ?_ ?_ ?_
        · exact (s1.trans (s2.trans s5)).free ((same_new ha).free ((same_new hb).free hc))
        · exact (s1.trans (s2.trans s5)).trans ((same_new ha).trans ((same_new hb).trans (same_new hc)))
        · rw [upd_same, show sv (tl k) = V.str k from congrArg V.str (toS_tl k)]
        · rw [upd_ne (ne_of_none upd_same hc), upd_same, es]
end
end K02

namespace K02
open PySem L2 DR DM TL
/-- a node's row: the tuple of the depth, the kind and the marks -/
def RowAt (H : Hp) (v : V) (r : Row) : Prop := ∃ a m, v = .ref a ∧ H a = some (.tup [.int (r.1 : Nat), sv r.2.1, .ref m]) ∧ H m = some (.tup (r.2.2.map sv))
theorem RowAt.same {H H' : Hp} {v : V} {r : Row} (s : Same H H') (h : RowAt H v r) : RowAt H' v r :=
  let ⟨a, m, e, h1, h2⟩ := h
  ⟨a, m, e, s _ _ h1, s _ _ h2⟩
theorem RowAt.put {H : Hp} {k : Addr} {xs : List V} {o : HO} {v : V} {r : Row} (hk : H k = some (.lst xs)) (h : RowAt H v r) : RowAt (upd H k o) v r :=
  let ⟨a, m, e, h1, h2⟩ := h
  ⟨a, m, e, by rw [upd_ne (ne_of h1 hk (fun z => by cases z))]; exact h1, by rw [upd_ne (ne_of h2 hk (fun z => by cases z))]; exact h2⟩
abbrev RowsAt (H : Hp) (vs : List V) (rs : List Row) : Prop := Paired (RowAt H) vs rs
theorem RowsAt.same {H H' : Hp} {vs : List V} {rs : List Row} (s : Same H H') (h : RowsAt H vs rs) : RowsAt H' vs rs := Paired.mapP h fun _ _ q => q.same s
theorem RowsAt.put {H : Hp} {k : Addr} {xs : List V} {o : HO} {vs : List V} {rs : List Row} (hk : H k = some (.lst xs)) (h : RowsAt H vs rs) : RowsAt (upd H k o) vs rs := Paired.mapP h fun _ _ q => q.put hk
theorem cut_flat {L S : List Nat} : ∀ (t : W) (ps0 ps : List W) (w0 w : W), t.foldl (cutStep L S) (some (ps0, w0)) = some (ps, w) → ps.flatten ++ w = ps0.flatten ++ w0 ++ t ∧ ps.length ≤ ps0.length + 2 * t.length
  | [], ps0, ps, w0, w, h => by
    injection h with h
    injection h with h1 h2
    subst h1 h2
    simp
  | c :: t, ps0, ps, w0, w, h => by
    rw [List.foldl_cons] at h
    by_cases c1 : c ∈ L
    · rw [show cutStep L S (some (ps0, w0)) c = some (ps0, w0 ++ [c]) from if_pos c1] at h
      obtain ⟨h1, h2⟩ := cut_flat t _ _ _ _ h
      refine ⟨by rw [h1]; simp, ?_⟩
      rw [List.length_cons]
      omega
    · by_cases c2 : c ∈ S
      · rw [cut_sign c1 c2] at h
        obtain ⟨h1, h2⟩ := cut_flat t _ _ _ _ h
        unfold flush at h1 h2
        split at h1
        · rename_i e
          subst e
          refine ⟨by rw [h1]; simp, ?_⟩
          simp at h2 ⊢
          omega
        · rename_i e
          rw [if_neg e] at h2
          refine ⟨by rw [h1]; simp, ?_⟩
          simp at h2 ⊢
          omega
      · rw [show cutStep L S (some (ps0, w0)) c = none from by show (if c ∈ L then _ else if c ∈ S then _ else _) = _; rw [if_neg c1, if_neg c2], cut_none] at h
        cases h
theorem cut_small {L S : List Nat} {t : W} {ps : List W} (h : cutM L S t = some ps) : (∀ p ∈ ps, p.length ≤ t.length) ∧ ps.length ≤ 2 * t.length + 1 := by
  unfold cutM at h
  cases e : t.foldl (cutStep L S) (some ([], [])) with
  | none =>
    rw [e] at h
    cases h
  | some x =>
    rw [e] at h
    injection h with h
    have h : flush x.1 x.2 = ps := h
    obtain ⟨h1, h2⟩ := cut_flat t [] x.1 [] x.2 e
    have fl : ps.flatten = t := by
      rw [← h]
      unfold flush
      split
      · rename_i e2
        rw [e2] at h1
        simpa using h1
      · simpa using h1
    refine ⟨fun p hp => ?_, ?_⟩
    · rw [← fl]
      exact List.Sublist.length_le (List.sublist_flatten_of_mem hp)
    · rw [← h]
      unfold flush
      split
      · simp at h2
        omega
      · simp at h2 ⊢
        omega
theorem toS_inj {u v : W} (h : toS u = toS v) : u = v := by
  have := congrArg tl h
  exact this
theorem sv_is (u v : W) : decide (sv u = sv v) = decide (u = v) := by
  rw [decide_eq_decide]
  exact ⟨fun h => toS_inj (by injection h), fun h => by rw [h]⟩
theorem s_open : V.str "(" = sv [40] := by decide +kernel
theorem s_shut : V.str ")" = sv [41] := by decide +kernel
theorem s_comma : V.str "," = sv [44] := by decide +kernel
theorem eqV_sv (u v : W) : eqV (sv u) (sv v) = decide (u = v) := by
  show (toS u == toS v) = _
  by_cases h : u = v
  · rw [h, decide_eq_true rfl]
    exact beq_self_eq_true _
  · rw [decide_eq_false h]
    exact beq_eq_false_iff_ne.mpr fun z => h (toS_inj z)
theorem in_two (b : W) : (if false = true then !inV (sv b) [.str "(", .str ","] else inV (sv b) [.str "(", .str ","]) = decide (b = [40] ∨ b = [44]) := by
  rw [if_neg (by decide), s_open, s_comma]
  unfold inV
  rw [List.any_cons, List.any_cons, List.any_nil, eqV_sv, eqV_sv, Bool.or_false]
  by_cases h1 : b = [40]
  · subst h1
    decide
  · by_cases h2 : b = [44]
    · subst h2
      decide
    · rw [decide_eq_false (fun z => h1 z.symm), decide_eq_false (fun z => h2 z.symm), decide_eq_false (fun z => z.elim h1 h2)]
      rfl
theorem read_none : ∀ l : List W, l.foldl (readStep srt) none = none
  | [] => rfl
  | _ :: l => read_none l
abbrev sRows : Stmt := top 16
def spRows : Sp := fun vs H Q _ => ∃ t : Str, vs = [.str t] ∧ (tl t).length ≤ 30000 ∧ (∀ ps, cutM LD SG (tl t) = some ps → ∀ p ∈ ps, (spl [46] 0 [] p).length < 64) ∧
  ((cutM LD SG (tl t)).bind (readM srt) = none → ∀ H', Same H H' → Q .non H') ∧
  ∀ rs p vs H', (cutM LD SG (tl t)).bind (readM srt) = some rs → rs.length ≤ 60001 → H p = none → Same H H' → H' p = some (.lst vs) → RowsAt H' vs rs → Q (.ref p) H'
section
variable {P : Program} {w : World} {K : PySem.W.Frag} {mg : Str → Option Value} {base : Heap}
theorem scRows : FnScope ["text", "pieces", "rows", "depth", "before", "piece", "head"] ["text"] (defScope sRows) := ⟨rfl, rfl, rfl, by decide +kernel, rfl, by decide +kernel, by decide +kernel⟩
theorem ok_rows {f : Addr} {fd : FuncData} (F : Fun K "read_rows" "read_rows" sRows f fd) (T : Txt mg) (D1 : Has P w K mg base 1 "cut" ["text", "letters", "signs"] spCut) (D2 : Has P w K mg base 3 "read_head" ["text"] spHead) :
    FnOk P w K mg base CX0 4 f fd ["text"] spRows := by
  obtain ⟨uL, mL, rL⟩ := T.lets
  obtain ⟨fC, fdC, GC, mC, kC, bC⟩ := D1
  obtain ⟨fH, fdH, GH, mH, kH, bH⟩ := D2
  refine F.ok scRows (fun vs H Q E h => ?_) (fun cdv A outer s H vs Q E hr h => ?_)
  · obtain ⟨_, rfl, _⟩ := h
    rfl
  · obtain ⟨t, rfl, len, few, no, yes⟩ := h
    have hr1 : Room 1 _ := hr.mono (by decide)
    refine ⟨_, pss_cons (ps_set (i := 1) scRows.nd rfl (Or.inl rfl) (pe_call GC hr1 (by rfl) mC kC bC .nil pass0 (pa_cons (pv 0) (pa_cons (pe_op op_add_str (pe_glob (v := .str (toS lets)) (by rfl) mL rL) pe_str) (pa_cons pe_str pa_nil)))))
      (pss_cons (ps_if (pt_cmpR op_isN (pv 1) pe_non rfl) (pss_one (ps_ret pe_non)) pss_nil)
      (pss_cons (ps_set (i := 2) scRows.nd rfl (Or.inl rfl) (pe_lst pa_nil))
      (pss_cons (ps_set (i := 3) scRows.nd rfl (Or.inl rfl) pe_int)
      (pss_cons (ps_set (i := 4) scRows.nd rfl (Or.inl rfl) pe_str)
      (pss_cons (ps_for PassesOwn.never rfl (pi_list (pv 1)) (pg_name (i := 5) scRows.nd rfl (Or.inl rfl))
        (pss_cons (ps_if (pt_cmpR op_in_seq (pv 4) (pe_tup (pa_cons pe_str (pa_cons pe_str pa_nil))) rfl)
            (pss_cons (ps_set (i := 6) scRows.nd rfl (Or.inl rfl) (pe_call GH hr (by rfl) mH kH bH .nil pass0 (pa_cons (pv 5) pa_nil)))
            (pss_cons (ps_if (pt_cmpR op_isN (pv 6) pe_non rfl) (pss_one (ps_ret pe_non)) pss_nil)
            (pss_one (append_rule (pv 2) (pa_cons (pe_tup (pa_cons (pv 3) (StX.pa_star (pv 6) pa_nil))) pa_nil)))))
            (pss_one (ps_if (PW.pt (pw_and (pt_cmpR op_eq (pv 5) pe_str rfl) (pw_and1 (pt_cmpR op_ne (pv 4) pe_str rfl)))) (pss_one (ps_aug (i := 3) scRows.nd rfl (Or.inl rfl) pe_int iop_add))
            (pss_one (ps_if (PW.pt (pw_and (pt_cmpR op_eq (pv 5) pe_str rfl) (pw_and1 (pt_cmpR op_gt (pv 3) pe_int rfl)))) (pss_one (ps_aug (i := 3) scRows.nd rfl (Or.inl rfl) pe_int iop_sub))
            (pss_one (ps_if (PW.pt (pw_or (pt_cmpR op_ne (pv 5) pe_str rfl) (pw_or1 (pt_cmpR op_eq (pv 3) pe_int rfl)))) (pss_one (ps_ret pe_non)) pss_nil)))))))
        (pss_one (ps_set (i := 4) scRows.nd rfl (Or.inl rfl) (pv 5)))))
      (pss_cons (ps_if (PW.pt (pw_or (pt_cmpR op_gt (pv 3) pe_int rfl) (pw_or1 (pt_cmpR op_in_seq (pv 4) (pe_tup (pa_cons pe_str (pa_cons pe_str pa_nil))) rfl)))) (pss_one (ps_ret pe_non)) pss_nil)
      (pss_one (ps_ret (pv 2))))))))), ?_⟩
    have B := big
    have e1 : tl (toS lets ++ ".") = LD := by decide +kernel
    have e2 : tl ("(),") = SG := by decide +kernel
    refine ⟨_, rfl, _, _, rfl, rfl, by decide +kernel, t, _, _, rfl, len, ?_, ?_⟩
    · rw [e1, e2]
      intro e H1 s1
      rw [e] at no
      refine ⟨_, rfl, rfl, true, rfl, iteT ?_⟩
      exact no rfl _ s1
    rw [e1, e2]
    intro ps p H1 e hp s1 m1
    rw [e] at no yes
    obtain ⟨cs1, cs2⟩ := cut_small e
    refine ⟨_, rfl, rfl, false, rfl, iteF ?_⟩
    refine ⟨by show 0 ≤ sizeLine; decide, fun r hr0 => ?_⟩
    generalize g2 : upd H1 r _ = H2
    have s2 : Same H1 H2 := g2 ▸ same_new hr0
    have m2 : H2 r = some (.lst []) := g2 ▸ upd_same
    have pp : H2 p = some (.lst (ps.map sv)) := s2 _ _ m1
    refine ⟨_, rfl, p, rfl, ⟨_, SqL.of pp⟩, for_it (walk_list (K := K) (a := p) (xs := ps.map sv)) (fun i σ H' => ∃ d b rs vs o6 o7, (ps.take i).foldl (readStep srt) (some (0, [44], [])) = some (d, b, rs) ∧
        σ = [some (.str t), some (.ref p), some (.ref r), some (.int (d : Nat)), some (sv b), o6, o7] ∧ Same H1 H' ∧ H' r = some (.lst vs) ∧ RowsAt H' vs rs ∧ rs.length ≤ i ∧ d ≤ i)
      ⟨0, [44], [], [], none, none, rfl, rfl, s2, m2, .nil, Nat.le_refl _, Nat.le_refl _⟩ ?_ ?_ ?_⟩
    · rintro i σ H' _ ⟨_, _, _, _, _, _, _, _, s, _⟩
      exact s.seq (SqL.of m1)
    · rintro i x σ H0 H3 hi ⟨d, b, rs, vs, o6, o7, ef, rfl, s3, m3, ra, l1, l2⟩ ⟨rfl, hx⟩
      rw [List.getElem?_map] at hx
      obtain ⟨u, hu, rfl⟩ := Option.map_eq_some_iff.mp hx
      rw [List.length_map] at hi
      have st : (ps.take (i + 1)).foldl (readStep srt) (some (0, [44], [])) = readStep srt (some (d, b, rs)) u := by
        rw [List.take_succ, hu, List.foldl_append, ef]
        rfl
      have mu := List.mem_of_getElem? hu
      have bad : readStep srt (some (d, b, rs)) u = none → readM srt ps = none := fun z => by
        have : ps.foldl (readStep srt) (some (0, [44], [])) = none := by
          rw [← List.take_append_drop (i + 1) ps, List.foldl_append, st, z, read_none]
        unfold readM
        rw [this]
      refine ⟨_, rfl, by show 2 ≤ sizeLine; decide, fun q hq => ?_⟩
      generalize g4 : upd H3 q _ = H4
      have s4 : Same H3 H4 := g4 ▸ same_new hq
      have m4 : H4 q = some (.tup [.str "(", .str ","]) := g4 ▸ upd_same
      have r4 := s4 _ _ m3
      have a4 := ra.same s4
      refine ⟨q, _, rfl, .inr (.inl (.inl m4)), rfl, rfl, _, congrArg V.bl (in_two b), ?_⟩
      refine ite2 (fun c1 => ?_) (fun c1 => ?_)
      · -- a node is asked for
        have c1' := of_decide_eq_true c1
        have rs1 : readStep srt (some (d, b, rs)) u = match headM srt u with | none => none | some (k, ms) => some (d, u, rs ++ [(d, k, ms)]) := if_pos c1'
        refine ⟨_, rfl, toS u, rfl, Nat.le_trans (cs1 u mu) len, few _ e u mu, fun z H5 s5 => ?_, fun k ms p5 m5 H5 z n5 s5 t5 k5 => ?_⟩
        · refine ⟨_, rfl, rfl, true, rfl, iteT ?_⟩
          exact no (bad (by rw [rs1, show headM srt u = none from z])) _ (s1.trans (s3.trans (s4.trans s5)))
        · refine ⟨_, rfl, rfl, false, rfl, iteF ?_⟩
          refine ⟨_, rfl, .inl ⟨rfl, _, .inl (.inl (s5 _ _ r4))⟩, _, rfl, _, rfl, p5, _, rfl, .inl (.inl (.inl t5)), by show 3 ≤ sizeLine; decide, fun p6 n6 => ?_⟩
          generalize g6 : upd H5 p6 _ = H6
          have s6 : Same H5 H6 := g6 ▸ same_new n6
          have m6 : H6 p6 = some (.tup [.int (d : Nat), sv k, .ref m5]) := g6 ▸ upd_same
          have r6 := s6 _ _ (s5 _ _ r4)
          refine ⟨r, _, _, rfl, rfl, r6, ?_, ?_⟩
          · rw [a4.length]
            omega
          · refine ⟨_, rfl, ?_⟩
            refine ⟨d, u, rs ++ [(d, k, ms)], vs ++ [.ref p6], some (sv u), some (.ref p5), ?_, rfl, ?_, upd_same, ?_, ?_, by omega⟩
            · rw [st, rs1, show headM srt u = some (k, ms) from z]
            · exact same_put (s3.trans (s4.trans (s5.trans s6))) hr0
            · refine RowsAt.put r6 (Paired.snoc ((a4.same s5).same s6) ⟨p6, m5, rfl, m6, s6 _ _ k5⟩)
            · rw [List.length_append]
              show rs.length + 1 ≤ _
              omega
      · have c1' : ¬ (b = [40] ∨ b = [44]) := fun z => c1 (decide_eq_true z)
        have rs1 : readStep srt (some (d, b, rs)) u = if u = [40] ∧ b ≠ [41] then some (d + 1, u, rs) else if u = [41] ∧ 0 < d then some (d - 1, u, rs) else if u ≠ [44] ∨ d = 0 then none else some (d, u, rs) := if_neg c1'
        have q40 : decide (sv u = V.str "(") = decide (u = [40]) := by rw [s_open, sv_is]
        have q41 : decide (sv u = V.str ")") = decide (u = [41]) := by rw [s_shut, sv_is]
        have q44 : (!decide (sv u = V.str ",")) = !decide (u = [44]) := by rw [s_comma, sv_is]
        have b41 : (!decide (sv b = V.str ")")) = !decide (b = [41]) := by rw [s_shut, sv_is]
        have s14 := s3.trans s4
        have stop : readStep srt (some (d, b, rs)) u = none → Q .non H4 := fun z => no (bad z) _ (s1.trans s14)
        have nx : ∀ d', d' ≤ i + 1 → readStep srt (some (d, b, rs)) u = some (d', u, rs) → ∃ d1 b1 rs1 vs1 o61 o71, (ps.take (i + 1)).foldl (readStep srt) (some (0, [44], [])) = some (d1, b1, rs1) ∧
            [some (V.str t), some (V.ref p), some (V.ref r), some (V.int (d' : Nat)), some (sv u), some (sv u), o7] = [some (V.str t), some (V.ref p), some (V.ref r), some (V.int (d1 : Nat)), some (sv b1), o61, o71] ∧ Same H1 H4 ∧ H4 r = some (.lst vs1) ∧ RowsAt H4 vs1 rs1 ∧ rs1.length ≤ i + 1 ∧ d1 ≤ i + 1 :=
          fun d' l z => ⟨d', u, rs, vs, _, _, st.trans z, rfl, s14, r4, a4, by omega, l⟩
        refine ⟨_, rfl, rfl, _, congrArg V.bl q40, ?_⟩
        by_cases u40 : u = [40]
        · rw [decide_eq_true u40]
          refine iteT ⟨_, rfl, rfl, _, congrArg V.bl b41, ?_⟩
          by_cases bb : b = [41]
          · rw [decide_eq_true bb]
            refine iteF ⟨_, rfl, rfl, _, congrArg V.bl q41, ?_⟩
            rw [decide_eq_false (fun z => by rw [u40] at z; exact absurd z (by decide) : ¬ u = [41])]
            refine iteF (iteF ⟨_, rfl, rfl, _, congrArg V.bl q44, ?_⟩)
            have u44 : ¬ u = [44] := fun z => by rw [u40] at z; exact absurd z (by decide)
            rw [decide_eq_false u44]
            refine iteT (iteT (stop ?_))
            rw [rs1, if_neg (fun z => z.2 bb), if_neg (fun z => by rw [u40] at z; exact absurd z.1 (by decide)), if_pos (.inl u44)]
          · rw [decide_eq_false bb]
            refine iteT ⟨_, rfl, _, _, rfl, rfl, ⟨_, rfl, ?_⟩⟩
            exact nx (d + 1) (by omega) (by rw [rs1, if_pos ⟨u40, bb⟩])
        · rw [decide_eq_false u40]
          refine iteF (iteF ⟨_, rfl, rfl, _, congrArg V.bl q41, ?_⟩)
          have n1 : ¬ (u = [40] ∧ b ≠ [41]) := fun z => u40 z.1
          by_cases u41 : u = [41]
          · rw [decide_eq_true u41]
            refine iteT ⟨_, rfl, _, _, rfl, rfl, _, rfl, ?_⟩
            by_cases d0 : 0 < d
            · have d0' : (0 : Int) < ((d : Nat) : Int) := by omega
              rw [decide_eq_true d0']
              have e3 : ((d : Nat) : Int) - 1 = ((d - 1 : Nat) : Int) := by omega
              refine iteT ⟨_, rfl, _, _, rfl, rfl, ⟨_, rfl, ?_⟩⟩
              show ∃ d1 b1 rs1 vs1 o61 o71, _ ∧ [some (V.str t), some (V.ref p), some (V.ref r), some (V.int (((d : Nat) : Int) - 1)), some (sv u), some (sv u), o7] = _ ∧ _
              rw [e3]
              exact nx (d - 1) (by omega) (by rw [rs1, if_neg n1, if_pos ⟨u41, d0⟩])
            · have d0' : ¬ (0 : Int) < ((d : Nat) : Int) := by omega
              rw [decide_eq_false d0']
              refine iteF ⟨_, rfl, rfl, _, congrArg V.bl q44, ?_⟩
              have u44 : ¬ u = [44] := fun z => by rw [u41] at z; exact absurd z (by decide)
              rw [decide_eq_false u44]
              refine iteT (iteT (stop ?_))
              rw [rs1, if_neg n1, if_neg (fun z => d0 z.2), if_pos (.inl u44)]
          · rw [decide_eq_false u41]
            refine iteF (iteF ⟨_, rfl, rfl, _, congrArg V.bl q44, ?_⟩)
            by_cases u44 : u = [44]
            · rw [decide_eq_true u44]
              refine iteF ⟨_, rfl, rfl, _, rfl, ?_⟩
              by_cases d0 : d = 0
              · subst d0
                refine iteT (stop ?_)
                rw [rs1, if_neg n1, if_neg (fun z => u41 z.1), if_pos (.inr rfl)]
              · have d0' : ¬ V.int ((d : Nat) : Int) = V.int 0 := fun z => by injection z with z; omega
                rw [decide_eq_false d0']
                refine iteF ⟨_, rfl, ?_⟩
                exact nx d (by omega) (by rw [rs1, if_neg n1, if_neg (fun z => u41 z.1), if_neg (fun z => z.elim (fun z => z u44) d0)])
            · rw [decide_eq_false u44]
              refine iteT (iteT (stop ?_))
              rw [rs1, if_neg n1, if_neg (fun z => u41 z.1), if_pos (.inl u44)]
    · rintro σ H3 ⟨d, b, rs, vs, o6, o7, ef, rfl, s3, m3, ra, l1, l2⟩
      rw [List.length_map] at ef l1 l2
      have full : ps.foldl (readStep srt) (some (0, [44], [])) = some (d, b, rs) := by
        rw [List.take_length] at ef
        exact ef
      have hM : readM srt ps = if 0 < d ∨ b = [40] ∨ b = [44] then none else some rs := by
        unfold readM
        rw [full]
      refine ⟨_, rfl, _, _, rfl, rfl, _, rfl, ?_⟩
      by_cases d0 : 0 < d
      · have d0' : (0 : Int) < ((d : Nat) : Int) := by omega
        rw [decide_eq_true d0']
        refine iteT (iteT ?_)
        exact no (show readM srt ps = none by rw [hM, if_pos (.inl d0)]) _ (s1.trans s3)
      · have d0' : ¬ (0 : Int) < ((d : Nat) : Int) := by omega
        rw [decide_eq_false d0']
        refine iteF ⟨_, rfl, by show 2 ≤ sizeLine; decide, fun q hq => ?_⟩
        generalize g4 : upd H3 q _ = H4
        have s4 : Same H3 H4 := g4 ▸ same_new hq
        have m4 : H4 q = some (.tup [.str "(", .str ","]) := g4 ▸ upd_same
        refine ⟨q, _, rfl, .inr (.inl (.inl m4)), rfl, rfl, _, congrArg V.bl (in_two b), ?_⟩
        refine ite2 (fun c1 => ?_) (fun c1 => ?_)
        · exact no (show readM srt ps = none by rw [hM, if_pos (.inr (of_decide_eq_true c1))]) _ (s1.trans (s3.trans s4))
        · refine ⟨_, rfl, ?_⟩
          refine yes rs r vs _ (show readM srt ps = some rs by rw [hM, if_neg (fun z => z.elim d0 fun z => c1 (decide_eq_true z))]) (by omega) (s1.free hr0) (s1.trans (s3.trans s4)) (s4 _ _ m3) (ra.same s4)
end
end K02

namespace K02
open PySem L2 DR DM TL
theorem fold_cat (c : Nat) : ∀ (k : Nat) (a : Array Nat), ((List.replicate k (#[c] : Array Nat)).foldl (· ++ ·) a).toList = a.toList ++ List.replicate k c
  | 0, a => by simp
  | k + 1, a => by
    rw [List.replicate_succ, List.foldl_cons, fold_cat c k, List.replicate_succ]
    simp
theorem mul_one_sign (c : Nat) (n : Int) : Txt.mul ⟨#[c]⟩ n = toS (List.replicate n.toNat c) := by
  refine ext_tl ?_
  rw [tl_toS]
  unfold Txt.mul
  by_cases h : n < 1
  · rw [if_pos h, show n.toNat = 0 by omega]
    rfl
  · rw [if_neg h]
    by_cases h1 : n = 1
    · subst h1
      rfl
    · have : (n == 1 || (⟨#[c]⟩ : Str).length == 0) = false := by
        rw [beq_eq_false_iff_ne.mpr h1]
        rfl
      rw [if_neg (by rw [this]; decide)]
      show ((List.replicate n.toNat (#[c] : Array Nat)).foldl (· ++ ·) #[]).toList = _
      rw [fold_cat]
      simp
section
variable {X : Cx}
theorem op_mul_sign : OpR X (binaryOp .Mult) (fun x y H Q => ∃ (c : Nat) (n : Int), x = .str ⟨#[c]⟩ ∧ y = .int n ∧ n ≤ 1000 ∧ -1000 ≤ n ∧ Q (.str (toS (List.replicate n.toNat c))) H) := by
  intro pins s σ H x y v u Q I rx ry h
  obtain ⟨c, n, rfl, rfl, h1, h2, q⟩ := h
  obtain ⟨t, rfl⟩ := rx
  obtain ⟨t', rfl⟩ := ry
  refine SB.mul ⟨by simp; omega, fun g _ => ?_, fun g _ => ?_⟩ fun t' k => ⟨.str (toS (List.replicate n.toNat c)), H, I.tok _, ⟨_, by rw [mul_one_sign]⟩, q⟩
  · show ¬ (((1 : Nat) : Int) > (2 ^ 63 - 1) / n)
    have : 1 ≤ (2 ^ 63 - 1) / n := (Int.le_ediv_iff_mul_le (by omega)).mpr (by omega)
    omega
  · have : (⟨#[c]⟩ : Str).length * n.toNat ≤ 1000 := by
      show 1 * n.toNat ≤ 1000
      omega
    have B := big
    unfold Builtin.Str.tooLong
    simp
    omega
end
theorem join_head (k : W) : ∀ ms : List W, joinL [46] (k :: ms) = headL k ms
  | [] => by simp [joinL, headL]
  | m :: ms => by
    have ih := join_head m ms
    show k ++ ([46] ++ joinL [46] (m :: ms)) = _
    rw [ih]
    simp [headL]
theorem join_nil : ∀ l : List W, joinL [] l = l.flatten
  | [] => rfl
  | [p] => by simp [joinL]
  | p :: q :: r => by
    show p ++ ([] ++ joinL [] (q :: r)) = _
    rw [join_nil (q :: r)]
    simp
theorem sum_len : ∀ l : List W, ((l.map toS).map (·.length)).sum = l.flatten.length
  | [] => rfl
  | p :: l => by
    have ih := sum_len l
    rw [List.map_cons, List.map_cons, List.sum_cons, ih, toS_len]
    simp
theorem head_len (k : W) (ms : List W) : (headL k ms).length = (k :: ms).flatten.length + ms.length := by
  unfold headL
  induction ms generalizing k with
  | nil => simp
  | cons m ms ih =>
    have := ih k
    simp at this ⊢
    omega
theorem join_text (y : W) (l : List W) : Txt.join (toS y) (l.map toS) = toS (joinL y l) := by
  rw [join_eq]
  refine ext_tl ?_
  rw [tl_join, tl_toS, tl_toS, List.map_map]
  congr 1
  exact (List.map_congr_left fun x _ => tl_toS x).trans (List.map_id _)
theorem row_get {H : Hp} : ∀ {us : List V} {rs : List Row}, RowsAt H us rs → ∀ {i : Nat} {x : V}, us[i]? = some x → ∃ r, rs[i]? = some r ∧ RowAt H x r
  | _, _, .cons r _, 0, x, h => by
    injection h with h
    exact ⟨_, rfl, h ▸ r⟩
  | _, _, .cons _ t, i + 1, x, h => row_get t (i := i) h
  | _, _, .nil, i, x, h => by simp at h
abbrev sText : Stmt := top 18
/-- bounds that each row keeps -/
def Few (rs : List Row) : Prop := rs.length ≤ 200 ∧ ∀ r ∈ rs, r.1 ≤ 200 ∧ (headL r.2.1 r.2.2).length ≤ 5000
def spText : Sp := fun vs H Q _ => ∃ (p : Addr) (us : List V) (rs : List Row), vs = [.ref p] ∧ H p = some (.tup us) ∧ RowsAt H us rs ∧ Few rs ∧ ∀ H', Same H H' → Q (sv (outM rs)) H'
section
variable {P : Program} {w : World} {K : PySem.W.Frag} {mg : Str → Option Value} {base : Heap}
theorem scText : FnScope ["rows", "pieces", "before", "depth", "kind", "marks"] ["rows"] (defScope sText) := ⟨rfl, rfl, rfl, by decide +kernel, rfl, by decide +kernel, by decide +kernel⟩
theorem ok_text {f : Addr} {fd : FuncData} (F : Fun K "text_of" "text_of" sText f fd) : FnOk P w K mg base CX0 1 f fd ["rows"] spText := by
  refine F.ok scText (fun vs H Q E h => ?_) (fun cdv A outer s H vs Q E hr h => ?_)
  · obtain ⟨_, _, _, rfl, _⟩ := h
    rfl
  · obtain ⟨p, us, rs, rfl, hp, ra, ⟨few, small⟩, fin⟩ := h
    refine ⟨_, pss_cons (ps_set (i := 1) scText.nd rfl (Or.inl rfl) (pe_lst pa_nil))
      (pss_cons (ps_set (i := 2) scText.nd rfl (Or.inl rfl) (pe_un un_neg pe_int))
      (pss_cons (ps_for PassesOwn.never rfl (pi_tup (pv 0)) (pg_tup rfl (pgs_cons (pg_name (i := 3) scText.nd rfl (Or.inl rfl)) (pgs_cons (pg_name (i := 4) scText.nd rfl (Or.inl rfl)) (pgs_cons (pg_name (i := 5) scText.nd rfl (Or.inl rfl)) pgs_nil))))
        (pss_cons (ps_if (pt_chain op_gt op_gt (pv 3) (pv 2) (pe_un un_neg pe_int)) (pss_one (append_rule (pv 1) (pa_cons pe_str pa_nil)))
          (pss_one (ps_if (pt_cmpR op_le (pv 3) (pv 2) rfl) (pss_one (append_rule (pv 1) (pa_cons (pe_op op_add_str (pe_op op_mul_sign pe_str (pe_op op_sub (pv 2) (pv 3))) pe_str) pa_nil))) pss_nil)))
        (pss_cons (append_rule (pv 1) (pa_cons (pe_join pe_str (pe_lst (pa_cons (pv 4) (StX.pa_star (pv 5) pa_nil)))) pa_nil))
        (pss_one (ps_set (i := 2) scText.nd rfl (Or.inl rfl) (pv 3))))))
      (pss_cons (append_rule (pv 1) (pa_cons (pe_op op_mul_sign pe_str (pv 2)) pa_nil))
      (pss_one (ps_ret (pe_join pe_str (pv 1))))))), ?_⟩
    have B := big
    refine ⟨by show 0 ≤ sizeLine; decide, fun q hq => ?_⟩
    generalize g1 : upd H q _ = H1
    have s1 : Same H H1 := g1 ▸ same_new hq
    have m1 : H1 q = some (.lst []) := g1 ▸ upd_same
    refine ⟨_, rfl, _, rfl, p, rfl, ⟨_, .inl (.inl (s1 _ _ hp))⟩, for_it (walk_tup (K := K) (a := p) (xs := us)) (fun i σ H' => ∃ (b : Int) (o3 o4 o5 : Option V) (ys : List W), σ = [some (.ref p), some (.ref q), some (.int b), o3, o4, o5] ∧ Same H H' ∧ H' q = some (.lst (ys.map sv)) ∧
        (rs.take i).foldl outStep ([], -1) = (ys.flatten, b) ∧ ys.length ≤ 2 * i ∧ ys.flatten.length ≤ 5300 * i ∧ b ≤ 200 ∧ -1 ≤ b) ⟨-1, none, none, none, [], rfl, s1, m1, rfl, Nat.le_refl _, Nat.le_refl _, by decide, by decide⟩ ?_ ?_ ?_⟩
    · rintro i σ H' _ ⟨_, _, _, _, _, _, s, _⟩
      exact .inl (.inl (s _ _ hp))
    · rintro i x σ H0 H2 hi ⟨b, o3, o4, o5, ys, rfl, s2, m2, ef, l1, l2, b1, b2⟩ ⟨rfl, hx⟩
      have hi' : i < 200 := by
        have := ra.length
        omega
      obtain ⟨r, hr1, a, m, rfl, ha, hm⟩ : ∃ r, rs[i]? = some r ∧ RowAt H x r := by
        have hl : i < rs.length := by
          have := ra.length
          omega
        obtain ⟨y, hy, z⟩ := row_get ra hx
        exact ⟨y, hy, z⟩
      obtain ⟨d, k, ms⟩ := r
      obtain ⟨d1, lenH⟩ := small _ (List.mem_of_getElem? hr1)
      have hl := head_len k ms
      have st : (rs.take (i + 1)).foldl outStep ([], -1) = outStep ((rs.take i).foldl outStep ([], -1)) (d, k, ms) := by
        rw [List.take_succ, hr1, List.foldl_append]
        rfl
      have mk : H2 m = some (.tup (ms.map sv)) := s2 _ _ hm
      have lenk : ((sv k) :: (ms.map sv ++ [])).length ≤ sizeLine := by
        simp
        have : (headL k ms).length ≤ 5000 := lenH
        omega
      have lenH' : (headL k ms).length ≤ 5000 := lenH
      have lenj : (((k :: ms).map toS).map (·.length)).sum + ((k :: ms).map toS).length * Str.length "." = (headL k ms).length + 1 := by
        rw [sum_len, hl, List.length_map]
        show _ + (ms.length + 1) * 1 = _
        omega
      have headj : V.str (Txt.join "." ((k :: ms).map toS)) = sv (headL k ms) := by
        rw [show (("." : Str)) = toS [46] by decide +kernel, join_text, join_head]
        rfl
      refine ⟨a, _, rfl, .inl (.inl (s2 _ _ ha)), rfl, _, _, rfl, _, _, rfl, _, _, rfl, rfl, ?_⟩
      refine ⟨_, rfl, _, rfl, _, _, rfl, rfl, _, rfl, ?_⟩
      by_cases h1 : b < (d : Int)
      · rw [decide_eq_true h1]
        refine iteT ⟨_, rfl, _, _, rfl, rfl, _, rfl, ?_⟩
        by_cases h2 : -1 < b
        · rw [decide_eq_true h2]
          refine iteT ?_
          refine ⟨_, rfl, .inl ⟨rfl, _, .inl (.inl m2)⟩, q, _, _, rfl, rfl, m2, by rw [List.length_map]; omega, ?_⟩
          generalize g3 : upd H2 q _ = H3
          have s3 : Same H H3 := g3 ▸ same_put s2 hq
          have m3 : H3 q = some (.lst ((ys ++ [[40]]).map sv)) := g3 ▸ (upd_same.trans (by rw [List.map_append, s_open]; rfl))
          have pd : pad b d = [40] := if_pos ⟨by omega, by omega⟩
          have ly : (ys ++ [[40]]).length ≤ 2 * i + 1 := by simp; omega
          have lf : (ys ++ [[40]]).flatten.length ≤ 5300 * i + 1 := by simp at l2 ⊢; omega
          refine ⟨_, rfl, .inl ⟨rfl, _, .inl (.inl m3)⟩, ⟨".", rfl⟩, _, rfl, _, rfl, m, _, rfl, .inl (.inl (.inl (s3 _ _ hm))), lenk, fun j hj => ?_⟩
          generalize gj : upd H3 j _ = Hj
          have sj : Same H3 Hj := gj ▸ same_new hj
          have mj : Hj j = some (.lst ((k :: ms).map sv)) := gj ▸ (upd_same.trans (by rw [List.append_nil]; rfl))
          have lj := sj _ _ m3
          refine ⟨".", j, (k :: ms).map toS, rfl, rfl, .inl (SqL.of (by rw [mj, List.map_map]; rfl)), by rw [lenj]; omega, q, _, _, rfl, rfl, lj, by rw [List.length_map]; omega, ⟨_, rfl, ?_⟩⟩
          rw [headj]
          refine ⟨(d : Nat), _, _, _, (ys ++ [[40]]) ++ [headL k ms], rfl, ?_, ?_, ?_, ?_, ?_, by omega, by omega⟩
          · exact same_put (s3.trans sj) hq
          · rw [upd_same, List.map_append (l₁ := (ys ++ [[40]]))]
            rfl
          · rw [st, ef]
            show (ys.flatten ++ (pad b d ++ headL k ms), ((d : Nat) : Int)) = _
            rw [pd]
            simp
          · rw [List.length_append]
            show _ + 1 ≤ _
            omega
          · rw [List.flatten_append, List.length_append]
            simp only [List.flatten_cons, List.flatten_nil, List.append_nil]
            omega
        · rw [decide_eq_false h2]
          have pd : pad b d = [] := by
            unfold pad
            rw [if_neg (fun z => h2 (by omega)), if_neg (by omega)]
          have ly : ys.length ≤ 2 * i + 1 := by omega
          have lf : ys.flatten.length ≤ 5300 * i + 1 := by omega
          refine iteF ?_
          refine ⟨_, rfl, _, rfl, _, _, rfl, rfl, _, rfl, ?_⟩
          rw [decide_eq_false (show ¬ ((d : Nat) : Int) ≤ b by omega)]
          refine iteF ?_
          refine ⟨_, rfl, .inl ⟨rfl, _, .inl (.inl m2)⟩, ⟨".", rfl⟩, _, rfl, _, rfl, m, _, rfl, .inl (.inl (.inl (s2 _ _ hm))), lenk, fun j hj => ?_⟩
          generalize gj : upd H2 j _ = Hj
          have sj : Same H2 Hj := gj ▸ same_new hj
          have mj : Hj j = some (.lst ((k :: ms).map sv)) := gj ▸ (upd_same.trans (by rw [List.append_nil]; rfl))
          have lj := sj _ _ m2
          refine ⟨".", j, (k :: ms).map toS, rfl, rfl, .inl (SqL.of (by rw [mj, List.map_map]; rfl)), by rw [lenj]; omega, q, _, _, rfl, rfl, lj, by rw [List.length_map]; omega, ⟨_, rfl, ?_⟩⟩
          rw [headj]
          refine ⟨(d : Nat), _, _, _, ys ++ [headL k ms], rfl, ?_, ?_, ?_, ?_, ?_, by omega, by omega⟩
          · exact same_put (s2.trans sj) hq
          · rw [upd_same, List.map_append (l₁ := ys)]
            rfl
          · rw [st, ef]
            show (ys.flatten ++ (pad b d ++ headL k ms), ((d : Nat) : Int)) = _
            rw [pd]
            simp
          · rw [List.length_append]
            show _ + 1 ≤ _
            omega
          · rw [List.flatten_append, List.length_append]
            simp only [List.flatten_cons, List.flatten_nil, List.append_nil]
            omega
      · rw [decide_eq_false h1]
        refine iteF ⟨_, rfl, ?_⟩
        refine iteF ?_
        refine ⟨_, rfl, _, rfl, _, _, rfl, rfl, _, rfl, ?_⟩
        rw [decide_eq_true (show ((d : Nat) : Int) ≤ b by omega)]
        have cnt : (b - ((d : Nat) : Int)).toNat ≤ 200 := by omega
        refine iteT ⟨_, rfl, .inl ⟨rfl, _, .inl (.inl m2)⟩, _, rfl, _, rfl, _, _, rfl, rfl, 41, _, s_shut, rfl, by omega, by omega, _, _, rfl, rfl, ?_, q, _, _, rfl, rfl, m2, by rw [List.length_map]; omega, ?_⟩
        · rw [toS_len, List.length_replicate]
          show _ + 1 ≤ _
          omega
        generalize g3 : upd H2 q _ = H3
        have s3 : Same H H3 := g3 ▸ same_put s2 hq
        have e3 : toS (List.replicate (b - ((d : Nat) : Int)).toNat 41) ++ "," = toS (List.replicate (b - ((d : Nat) : Int)).toNat 41 ++ [44]) := by
          rw [show (("," : Str)) = toS [44] by decide +kernel, toS_app]
        have m3 : H3 q = some (.lst ((ys ++ [List.replicate (b - ((d : Nat) : Int)).toNat 41 ++ [44]]).map sv)) := g3 ▸ (upd_same.trans (by rw [List.map_append, e3]; rfl))
        have pd : pad b d = List.replicate (b - ((d : Nat) : Int)).toNat 41 ++ [44] := by
          unfold pad
          rw [if_neg (fun z => h1 (by omega)), if_pos (by omega)]
        have ly : (ys ++ [List.replicate (b - ((d : Nat) : Int)).toNat 41 ++ [44]]).length ≤ 2 * i + 1 := by simp; omega
        have lf : (ys ++ [List.replicate (b - ((d : Nat) : Int)).toNat 41 ++ [44]]).flatten.length ≤ 5300 * i + 201 := by
          simp at l2 ⊢
          omega
        refine ⟨_, rfl, .inl ⟨rfl, _, .inl (.inl m3)⟩, ⟨".", rfl⟩, _, rfl, _, rfl, m, _, rfl, .inl (.inl (.inl (s3 _ _ hm))), lenk, fun j hj => ?_⟩
        generalize gj : upd H3 j _ = Hj
        have sj : Same H3 Hj := gj ▸ same_new hj
        have mj : Hj j = some (.lst ((k :: ms).map sv)) := gj ▸ (upd_same.trans (by rw [List.append_nil]; rfl))
        have lj := sj _ _ m3
        refine ⟨".", j, (k :: ms).map toS, rfl, rfl, .inl (SqL.of (by rw [mj, List.map_map]; rfl)), by rw [lenj]; omega, q, _, _, rfl, rfl, lj, by rw [List.length_map]; omega, ⟨_, rfl, ?_⟩⟩
        rw [headj]
        refine ⟨(d : Nat), _, _, _, (ys ++ [List.replicate (b - ((d : Nat) : Int)).toNat 41 ++ [44]]) ++ [headL k ms], rfl, ?_, ?_, ?_, ?_, ?_, by omega, by omega⟩
        · exact same_put (s3.trans sj) hq
        · rw [upd_same, List.map_append (l₁ := (ys ++ [List.replicate (b - ((d : Nat) : Int)).toNat 41 ++ [44]]))]
          rfl
        · rw [st, ef]
          show (ys.flatten ++ (pad b d ++ headL k ms), ((d : Nat) : Int)) = _
          rw [pd]
          simp
        · rw [List.length_append]
          show _ + 1 ≤ _
          omega
        · rw [List.flatten_append, List.length_append]
          simp only [List.flatten_cons, List.flatten_nil, List.append_nil]
          omega

    · rintro σ H2 ⟨b, o3, o4, o5, ys, rfl, s2, m2, ef, l1, l2, b1, b2⟩
      have ul := ra.length
      rw [ul, List.take_length] at ef
      rw [ul] at l1 l2
      refine ⟨_, rfl, .inl ⟨rfl, _, .inl (.inl m2)⟩, _, rfl, 41, _, s_shut, rfl, by omega, by omega, q, _, _, rfl, rfl, m2, by rw [List.length_map]; omega, ?_⟩
      generalize g3 : upd H2 q _ = H3
      have s3 : Same H H3 := g3 ▸ same_put s2 hq
      have m3 : H3 q = some (.lst ((ys ++ [List.replicate b.toNat 41]).map sv)) := g3 ▸ (upd_same.trans (by rw [List.map_append]; rfl))
      refine ⟨⟨"", rfl⟩, _, rfl, "", q, (ys ++ [List.replicate b.toNat 41]).map toS, rfl, rfl, .inl (SqL.of (by rw [m3, List.map_map]; rfl)), ?_, ?_⟩
      · rw [sum_len, List.flatten_append, List.length_append]
        show _ + _ * 0 ≤ _
        simp only [List.flatten_cons, List.flatten_nil, List.append_nil, List.length_replicate]
        omega
      · rw [show (("" : Str)) = toS [] by decide +kernel, join_text, join_nil]
        have e : outM rs = (ys ++ [List.replicate b.toNat 41]).flatten := by
          unfold outM shut
          rw [ef]
          simp
        rw [e] at fin
        exact fin _ s3
end
end K02

namespace K02
open PySem L2 DR DM TL
def nv (n : Nat) : V := .int (n : Int)
def PthAt (H : Hp) (v : V) (q : Pth) : Prop := ∃ a, v = .ref a ∧ H a = some (.tup (q.map nv))
theorem PthAt.same {H H' : Hp} {v : V} {q : Pth} (s : Same H H') (h : PthAt H v q) : PthAt H' v q :=
  let ⟨a, e, h1⟩ := h
  ⟨a, e, s _ _ h1⟩
theorem PthAt.put {H : Hp} {k : Addr} {xs : List V} {o : HO} {v : V} {q : Pth} (hk : H k = some (.lst xs)) (h : PthAt H v q) : PthAt (upd H k o) v q :=
  let ⟨a, e, h1⟩ := h
  ⟨a, e, by rw [upd_ne (ne_of h1 hk (fun z => by cases z))]; exact h1⟩
abbrev PthsAt (H : Hp) (vs : List V) (qs : List Pth) : Prop := Paired (PthAt H) vs qs
theorem PthsAt.same {H H' : Hp} {vs : List V} {qs : List Pth} (s : Same H H') (h : PthsAt H vs qs) : PthsAt H' vs qs := Paired.mapP h fun _ _ q => q.same s
theorem PthsAt.put {H : Hp} {k : Addr} {xs : List V} {o : HO} {vs : List V} {qs : List Pth} (hk : H k = some (.lst xs)) (h : PthsAt H vs qs) : PthsAt (upd H k o) vs qs := Paired.mapP h fun _ _ q => q.put hk
theorem cut_to (xs : List V) (k : Nat) : cutV xs none (some (k : Int)) = xs.take k := by
  unfold cutV
  rw [HT.sIx_nat, HT.sIx_none, List.drop_zero, Nat.sub_zero]
  by_cases h : k ≤ xs.length
  · rw [Nat.min_eq_left h]
  · rw [Nat.min_eq_right (by omega), List.take_length, List.take_of_length_le (by omega)]
abbrev sPaths : Stmt := top 19
def spPaths : Sp := fun vs H Q _ => ∃ (p : Addr) (us : List V) (rs : List Row), vs = [.ref p] ∧ H p = some (.tup us) ∧ RowsAt H us rs ∧ rs.length ≤ 200 ∧
  ∀ q ws H', H q = none → Same H H' → H' q = some (.lst ws) → PthsAt H' ws (pathsM rs) → Q (.ref q) H'
def up (by_ : Int) (r : Row) : Row := (((r.1 : Int) + by_).toNat, r.2)
def pthInv (H : Hp) (p l : Addr) (rs : List Row) (i : Nat) (σ : L2.St) (H' : Hp) : Prop := ∃ (o3 o4 : Option V) (a : Addr) (ws : List V) (pl : List Pth) (q : Pth), σ = [some (.ref p), some (.ref l), some (.ref a), o3, o4] ∧ Same H H' ∧ H' l = some (.lst ws) ∧ PthsAt H' ws pl ∧ H' a = some (.tup (q.map nv)) ∧ (rs.take i).foldl pathStep ([], []) = (pl, q) ∧ q.length ≤ i ∧ pl.length ≤ i
def spMoved : Sp := fun vs H Q _ => ∃ (p : Addr) (us : List V) (rs : List Row) (b : Int), vs = [.ref p, .int b] ∧ H p = some (.tup us) ∧ RowsAt H us rs ∧ rs.length ≤ 200 ∧ (∀ r ∈ rs, 0 ≤ (r.1 : Int) + b) ∧
  ∀ q ws H', H q = none → Same H H' → H' q = some (.tup ws) → RowsAt H' ws (rs.map (up b)) → Q (.ref q) H'
def intV : V → Bool
  | .int _ => true
  | _ => false
def plainV : V → Bool
  | .int _ => true
  | .bl _ => true
  | .non => true
  | .str _ => true
  | _ => false
def spIsPath (K : PySem.W.Frag) : Sp := fun vs H Q _ => ∃ x : V, vs = [x] ∧ ((∃ t, TyX K H x t ∧ PySem.W.kitOne K t (.type "tuple") = some false ∧ ∀ H', Same H H' → Q (.bl false) H') ∨
  ∃ a us, x = .ref a ∧ H a = some (.tup us) ∧ us.all plainV = true ∧ us.length ≤ 1000 ∧ ∀ H', Same H H' → Q (.bl (us.all intV)) H')
section
variable {P : Program} {w : World} {K : PySem.W.Frag} {mg : Str → Option Value} {base : Heap}
theorem scPaths : FnScope ["rows", "paths", "path", "row", "depth"] ["rows"] (defScope sPaths) := ⟨rfl, rfl, rfl, by decide +kernel, rfl, by decide +kernel, by decide +kernel⟩
theorem ok_paths {f : Addr} {fd : FuncData} (F : Fun K "paths_of" "paths_of" sPaths f fd) (T : Txt mg) : FnOk P w K mg base CX0 1 f fd ["rows"] spPaths := by
  refine F.ok scPaths (fun vs H Q E h => ?_) (fun cdv A outer s H vs Q E hr h => ?_)
  · obtain ⟨_, _, _, rfl, _⟩ := h
    rfl
  · obtain ⟨p, us, rs, rfl, hp, ra, few, fin⟩ := h
    refine ⟨_, pss_cons (ps_set (i := 1) scPaths.nd rfl (Or.inl rfl) (pe_lst pa_nil))
      (pss_cons (ps_set (i := 2) scPaths.nd rfl (Or.inl rfl) (pe_tup pa_nil))
      (pss_cons (ps_for PassesOwn.never rfl (pi_tup (pv 0)) (pg_name (i := 3) scPaths.nd rfl (Or.inl rfl))
        (pss_cons (ps_set (i := 4) scPaths.nd rfl (Or.inl rfl) (pe_ix ix_tup (pv 3) pe_int (fun _ _ => rfl)))
        (pss_cons (ps_if (pt_cmpR op_gt (pv 4) (pe_callB call_len_seq (by rfl) T.len PySem.boot_len (pa_cons (pv 2) pa_nil)) rfl) (pss_one (ps_set (i := 2) scPaths.nd rfl (Or.inl rfl) (pe_tup (StX.pa_star (pv 2) (pa_cons pe_int pa_nil)))))
          (pss_one (ps_if (pt_cmpR op_gt (pv 4) pe_int rfl) (pss_one (ps_set (i := 2) scPaths.nd rfl (Or.inl rfl) (pe_tup (StX.pa_star (pe_slice sl_tupA (pv 2) po_none (po_some (pe_op op_sub (pv 4) pe_int)))
            (pa_cons (pe_op op_add (pe_ix ix_tup (pv 2) (pe_op op_sub (pv 4) pe_int) (fun _ _ => rfl)) pe_int) pa_nil))))) pss_nil)))
        (pss_one (append_rule (pv 1) (pa_cons (pv 2) pa_nil))))))
      (pss_one (ps_ret (pv 1))))), ?_⟩
    have B := big
    refine ⟨by show 0 ≤ sizeLine; decide, fun l hl => ?_⟩
    generalize g1 : upd H l _ = H1
    have s1 : Same H H1 := g1 ▸ same_new hl
    have m1 : H1 l = some (.lst []) := g1 ▸ upd_same
    refine ⟨by show 0 ≤ sizeLine; decide, fun a0 ha0 => ?_⟩
    generalize g2 : upd H1 a0 _ = H2
    have s2 : Same H1 H2 := g2 ▸ same_new ha0
    have m2 : H2 a0 = some (.tup []) := g2 ▸ upd_same
    refine ⟨_, rfl, p, rfl, ⟨_, .inl (.inl (s2 _ _ (s1 _ _ hp)))⟩, for_it (walk_tup (K := K) (a := p) (xs := us)) (pthInv H p l rs) ⟨none, none, a0, [], [], [], rfl, s1.trans s2, s2 _ _ m1, .nil, m2, rfl, Nat.le_refl _, Nat.le_refl _⟩ ?_ ?_ ?_⟩
    · rintro i σ H' _ ⟨_, _, _, _, _, _, _, s, _⟩
      exact .inl (.inl (s _ _ hp))
    · rintro i x σ H0 H3 hi ⟨o3, o4, a, ws, pl, q, rfl, s3, m3, pa, ma, ef, l1, l2⟩ ⟨rfl, hx⟩
      obtain ⟨r, hr1, ra1, rm, rfl, hra, hrm⟩ := row_get ra hx
      have ul := ra.length
      have st : (rs.take (i + 1)).foldl pathStep ([], []) = (pl ++ [next q r.1], next q r.1) := by
        rw [List.take_succ, hr1, List.foldl_append, ef]
        rfl
      have fl : H3 ra1 = some (.tup [.int (r.1 : Nat), sv r.2.1, .ref rm]) := s3 _ _ hra
      have fin1 : ∀ (D : Ends) (H4 : Hp) (b : Addr), (∀ σ H', pthInv H p l rs (i + 1) σ H' → D.nx σ H') → Same H3 H4 → H4 b = some (.tup ((next q r.1).map nv)) → (next q r.1).length ≤ i + 1 →
          tDrop (tBM K "list" rAppend (tVar 1) (tCons (tVar 2) tNil)) D [some (.ref p), some (.ref l), some (.ref b), some (.ref ra1), some (.int (r.1 : Nat))] H4 := fun D H4 b dn s4 mb lq => by
        have ml := s4 _ _ m3
        refine ⟨_, rfl, .inl ⟨rfl, _, .inl (.inl ml)⟩, _, rfl, l, _, _, rfl, rfl, ml, ?_, ?_⟩
        · rw [pa.length]
          omega
        · refine dn _ _ ⟨_, _, b, _, pl ++ [next q r.1], next q r.1, rfl, same_put (s3.trans s4) hl, upd_same, ?_, ?_, st, lq, ?_⟩
          · exact PthsAt.put ml (Paired.snoc (pa.same s4) ⟨b, rfl, mb⟩)
          · rw [upd_ne (ne_of mb ml (fun z => by cases z))]
            exact mb
          · rw [List.length_append]
            show _ + 1 ≤ _
            omega
      refine ⟨_, rfl, ra1, _, 0, _, rfl, rfl, .inl (.inl fl), atI_nat (j := 0) rfl, _, rfl, _, rfl, a, _, rfl, .inr (.inl (.inl ma)), _, _, rfl, rfl, _, rfl, ?_⟩
      rw [List.length_map]
      by_cases h1 : ((q.length : Nat) : Int) < ((r.1 : Nat) : Int)
      · rw [decide_eq_true h1]
        have nx : next q r.1 = q ++ [0] := if_pos (by omega)
        refine iteT ?_
        refine ⟨_, rfl, a, _, rfl, .inl (.inl (.inl ma)), ?_, fun b hb => ?_⟩
        · simp
          omega
        · refine fin1 _ _ b (fun _ _ z => z) (same_new hb) ?_ ?_
          · rw [upd_same, nx, List.map_append]
            rfl
          · rw [nx, List.length_append]
            show _ + 1 ≤ _
            omega
      · rw [decide_eq_false h1]
        refine iteF ?_
        refine ⟨_, rfl, _, _, rfl, rfl, _, rfl, ?_⟩
        by_cases h2 : (0 : Int) < ((r.1 : Nat) : Int)
        · rw [decide_eq_true h2]
          have nx : next q r.1 = q.take (r.1 - 1) ++ [q.getD (r.1 - 1) 0 + 1] := by
            unfold next
            rw [if_neg (by omega), if_pos (by omega)]
          have e3 : ((r.1 : Nat) : Int) - 1 = ((r.1 - 1 : Nat) : Int) := by omega
          refine iteT ?_
          have lq : (q.map nv).length = q.length := List.length_map ..
          refine ⟨_, rfl, _, rfl, _, _, rfl, rfl, _, rfl, a, _, rfl, .inl (.inl ma), fun z => ?_, fun _ b hb => ?_⟩
          · have z2 := z.2
            rw [e3, HT.sIx_nat, lq] at z2
            omega
          · rw [e3, cut_to]
            generalize g4 : upd H3 b _ = H4
            have s4 : Same H3 H4 := g4 ▸ same_new hb
            have m4 : H4 b = some (.tup ((q.map nv).take (r.1 - 1))) := g4 ▸ upd_same
            have hlt : r.1 - 1 < q.length := by omega
            refine ⟨b, _, rfl, .inl (.inl (.inl m4)), _, rfl, _, rfl, _, _, rfl, rfl, a, _, _, nv (q.getD (r.1 - 1) 0), rfl, rfl, .inl (.inl (s4 _ _ ma)), ?_, _, _, rfl, rfl, ?_, fun c hc => ?_⟩
            · rw [e3]
              refine atI_nat ?_
              rw [List.getElem?_map, List.getD_eq_getElem?_getD, List.getElem?_eq_getElem hlt]
              rfl
            · simp
              omega
            · refine fin1 _ _ c (fun _ _ z => z) (s4.trans (same_new hc)) ?_ ?_
              · rw [upd_same, nx, List.map_append, List.map_take]
                rfl
              · rw [nx, List.length_append, List.length_take]
                show _ + 1 ≤ _
                omega
        · rw [decide_eq_false h2]
          refine iteF ?_
          have nx : next q r.1 = q := by
            unfold next
            rw [if_neg (by omega), if_neg (by omega)]
          refine fin1 _ _ a (fun _ _ z => z) (Same.refl _) ?_ ?_
          · rw [nx]
            exact ma
          · rw [nx]
            omega
    · rintro σ H3 ⟨o3, o4, a, ws, pl, q, rfl, s3, m3, pa, ma, ef, l1, l2⟩
      have ul := ra.length
      rw [ul, List.take_length] at ef
      refine ⟨_, rfl, fin l ws _ hl s3 m3 ?_⟩
      unfold pathsM
      rw [ef]
      exact pa
theorem scIsPath : FnScope ["value", "index"] ["value"] (defScope sIsPath) := ⟨rfl, rfl, rfl, by decide +kernel, rfl, by decide +kernel, by decide +kernel⟩
theorem kit_plain {H : Hp} {x : V} (h : plainV x = true) : ∃ t b1 b2, TyX K H x t ∧ PySem.W.kitOne K t (.type "int") = some b1 ∧ PySem.W.kitOne K t (.type "bool") = some b2 ∧ (b1 && !b2) = intV x := by
  cases x with
  | int i => exact ⟨_, true, false, .base (.int i), by rfl, by rfl, rfl⟩
  | bl i => exact ⟨_, true, true, .base (.bl i), by rfl, by rfl, rfl⟩
  | non => exact ⟨_, false, false, .base .non, by rfl, by rfl, rfl⟩
  | str i => exact ⟨_, false, false, .base (.str i), by rfl, by rfl, rfl⟩
  | _ => exact absurd h (by simp [plainV])
theorem ok_isPath {f : Addr} {fd : FuncData} (F : Fun K "is_path" "is_path" sIsPath f fd) (T : Txt mg) (D1 : Has P w K mg base 1 "is_integer" ["value"] (spInt K)) : FnOk P w K mg base CX0 2 f fd ["value"] (spIsPath K) := by
  obtain ⟨fI, fdI, GI, mI, kI, bI⟩ := D1
  refine F.ok scIsPath (fun vs H Q E h => ?_) (fun cdv A outer s H vs Q E hr h => ?_)
  · obtain ⟨_, rfl, _⟩ := h
    rfl
  · obtain ⟨x, rfl, h⟩ := h
    refine ⟨_, pss_one (ps_ret (pe_and (pe_callB call_isi (by rfl) T.isi PyProof.Rows.boot_isinstance (pa_cons (pv 0) (pa_cons (pe_bltn (v := .ty "tuple") (by rfl) T.tuple (by decide +kernel) rfl) pa_nil)))
      (pe_one (pe_callB (cr_all rfl) (by rfl) T.all PyProof.Rows.boot_all (pa_cons (pe_lc (own := [("index", 1)]) (g := gName 1) (tt := tYes) rfl scIsPath.nd (pi_tup (pv 0))
        (blkOk_by (N := ["value", "index"]) (sc := defScope sIsPath) (by decide +kernel)) (fun _ _ _ _ _ => pg_name (i := 1) scIsPath.nd rfl (Or.inl rfl)) (fun _ _ _ _ _ => pts_nil)
        (fun _ _ _ _ _ => pe_call GI hr (by rfl) mI kI bI .nil pass0 (pa_cons (pv 1) pa_nil))) pa_nil))))), ?_⟩
    rcases h with ⟨t, ty, kt, fin⟩ | ⟨a, us, rfl, ha, pl, few, fin⟩
    · exact ⟨_, rfl, x, _, t, _, false, rfl, .ty _, ty, kt, false, rfl, iteF (fin _ (Same.refl _))⟩
    · have B := big
      refine ⟨_, rfl, .ref a, _, .type "tuple", _, true, rfl, .ty _, .base (.tup ha), by rfl, true, rfl, iteT ?_⟩
      refine ⟨_, rfl, a, rfl, ⟨_, .inl (.inl ha)⟩, fun D hD => lc_it (walk_tup (K := K) (a := a) (xs := us)) (fun i H' => Same H H' ∧ H' D = some (.lst ((us.take i).map fun u => V.bl (intV u))))
        ⟨same_new hD, upd_same⟩ (fun i H' _ ⟨s, _⟩ => .inl (.inl (s _ _ ha))) ?_ ?_⟩
      · rintro i u H0 H1 hi ⟨s1, m1⟩ ⟨rfl, hx⟩
        refine ⟨rfl, ?_⟩
        unfold tYes
        obtain ⟨t, b1, b2, ty, k1, k2, e⟩ := kit_plain (K := K) (H := H1) (List.all_eq_true.mp pl u (List.mem_of_getElem? hx))
        refine iteT ⟨_, rfl, u, t, b1, b2, rfl, ty, k1, k2, _, m1, ?_, same_put s1 hD, ?_⟩
        · rw [List.length_map, List.length_take]
          omega
        · rw [upd_same, List.take_succ, hx, List.map_append, e]
          rfl
      · rintro H1 ⟨s1, m1⟩
        rw [List.take_length] at m1
        refine ⟨D, us.map intV, rfl, SqL.of (by rw [m1, List.map_map]; rfl), ?_⟩
        rw [List.all_map]
        exact fin _ s1
end
end K02

namespace K02
open PySem L2 DR DM TL
def pk (q : Pth) : List Key := q.map fun (n : Nat) => (Sum.inl (n : Int) : Key)
theorem pk_v (q : Pth) : (pk q).map kV = q.map nv := by
  unfold pk
  rw [List.map_map]
  rfl
theorem pk_inj {p q : Pth} (h : pk p = pk q) : p = q := by
  unfold pk at h
  induction p generalizing q with
  | nil =>
    cases q with
    | nil => rfl
    | cons b q => cases h
  | cons a p ih =>
    cases q with
    | nil => cases h
    | cons b q =>
      rw [List.map_cons, List.map_cons] at h
      injection h with h1 h2
      injection h1 with h1
      rw [ih h2, show a = b by omega]
/-- the dict of the places of the first i paths -/
def plc : List Pth → Nat → List (List Key × V)
  | _, 0 => []
  | qs, i + 1 => match qs[i]? with
    | some q => putK (plc qs i) (pk q) (nv i)
    | none => plc qs i
theorem putK_len {κ : Type} [DecidableEq κ] (kvs : List (κ × V)) (k : κ) (v : V) : (putK kvs k v).length ≤ kvs.length + 1 := length_putK kvs k v
theorem plc_len (qs : List Pth) : ∀ i, (plc qs i).length ≤ i
  | 0 => Nat.le_refl _
  | i + 1 => by
    have ih := plc_len qs i
    show (match qs[i]? with | some q => putK (plc qs i) (pk q) (nv i) | none => plc qs i).length ≤ _
    split
    · have := putK_len (plc qs i) (pk ‹Pth›) (nv i)
      omega
    · omega
abbrev cDoc (i : Nat) : Stmt := inClass (top 21) i
/-- a document that lies at a -/
def DocAt (C : Addr) (H : Hp) (a : Addr) (rs : List Row) : Prop := ∃ dx r p d us ws, H a = some (.ins C dx [("_rows", .ref r), ("_paths", .ref p), ("_places", .ref d), ("_text", sv (outM rs))]) ∧ H r = some (.tup us) ∧ RowsAt H us rs ∧
  H p = some (.tup ws) ∧ PthsAt H ws (pathsM rs) ∧ H d = some (.dT (plc (pathsM rs) rs.length)) ∧ Few rs
theorem DocAt.same {C a : Addr} {H H' : Hp} {rs : List Row} (s : Same H H') (h : DocAt C H a rs) : DocAt C H' a rs :=
  let ⟨dx, r, p, d, us, ws, h1, h2, h3, h4, h5, h6, h7⟩ := h
  ⟨dx, r, p, d, us, ws, s _ _ h1, s _ _ h2, h3.same s, s _ _ h4, h5.same s, s _ _ h6, h7⟩
theorem paths_len (rs : List Row) : (pathsM rs).length = rs.length := by
  have gen : ∀ (rs : List Row) (x : List Pth × Pth), (rs.foldl pathStep x).1.length = x.1.length + rs.length := fun rs => by
    induction rs with
    | nil => exact fun _ => rfl
    | cons r rs ih =>
      intro x
      rw [List.foldl_cons, ih]
      unfold pathStep
      simp
      omega
  unfold pathsM
  rw [gen]
  simp
/-- all but a stays -/
def Off (a : Addr) (H H' : Hp) : Prop := ∀ b u, b ≠ a → H b = some u → H' b = some u
theorem Off.put {a : Addr} {H : Hp} {o : HO} : Off a H (upd H a o) := fun b u n e => by rw [upd_ne n]; exact e
theorem apart_ins {H : Hp} {a b C dx : Addr} {xs : List V} {fs : List (Str × V)} (hb : H b = some (.tup xs)) (ha : H a = some (.ins C dx fs)) : b ≠ a := fun z => by
  rw [z, ha] at hb
  cases hb
theorem _root_.K02.RowAt.off {H H' : Hp} {a C dx : Addr} {fs : List (Str × V)} {v : V} {r : Row} (ha : H a = some (.ins C dx fs)) (o : Off a H H') (h : RowAt H v r) : RowAt H' v r :=
  let ⟨b, m, e, h1, h2⟩ := h
  ⟨b, m, e, o _ _ (apart_ins h1 ha) h1, o _ _ (apart_ins h2 ha) h2⟩
theorem RowsAt.off {H H' : Hp} {a C dx : Addr} {fs : List (Str × V)} {vs : List V} {rs : List Row} (h : RowsAt H vs rs) (ha : H a = some (.ins C dx fs)) (o : Off a H H') : RowsAt H' vs rs := Paired.mapP h fun _ _ q => q.off ha o
theorem PthsAt.off {H H' : Hp} {a C dx : Addr} {fs : List (Str × V)} {vs : List V} {qs : List Pth} (h : PthsAt H vs qs) (ha : H a = some (.ins C dx fs)) (o : Off a H H') : PthsAt H' vs qs :=
  Paired.mapP h fun _ _ ⟨b, e, h1⟩ => ⟨b, e, o _ _ (apart_ins h1 ha) h1⟩
theorem pth_get {H : Hp} : ∀ {us : List V} {qs : List Pth}, PthsAt H us qs → ∀ {i : Nat} {x : V}, us[i]? = some x → ∃ q, qs[i]? = some q ∧ PthAt H x q
  | _, _, .cons r _, 0, x, h => by
    injection h with h
    exact ⟨_, rfl, h ▸ r⟩
  | _, _, .cons _ t, i + 1, x, h => pth_get t (i := i) h
  | _, _, .nil, i, x, h => by simp at h
/-- what is known of the class -/
structure DCls (K : PySem.W.Frag) (mg : Str → Option Value) (C : Addr) : Prop where
  cls : Cls K C
  rows : NoAttr K C "_rows"
  paths : NoAttr K C "_paths"
  places : NoAttr K C "_places"
  text : NoAttr K C "_text"
def spInit (C : Addr) : Sp := fun vs H Q _ => ∃ (a dx p : Addr) (us : List V) (rs : List Row), vs = [.ref a, .ref p] ∧ H a = some (.ins C dx []) ∧ (H p = some (.tup us) ∨ H p = some (.lst us)) ∧ RowsAt H us rs ∧ Few rs ∧
  ∀ H', (∀ b u, b ≠ a → H b = some u → H' b = some u) → DocAt C H' a rs → Q .non H'
section
variable {P : Program} {w : World} {K : PySem.W.Frag} {mg : Str → Option Value} {base : Heap}
theorem scInit : FnScope ["self", "rows", "at", "path"] ["self", "rows"] (defScope (cDoc 0)) := ⟨rfl, rfl, rfl, by decide +kernel, rfl, by decide +kernel, by decide +kernel⟩
theorem ok_init {f C : Addr} {fd : FuncData} (F : Fun K "__init__" "Document.__init__" (cDoc 0) f fd) (T : Txt mg) (DC : DCls K mg C) (D1 : Has P w K mg base 1 "paths_of" ["rows"] spPaths) (D2 : Has P w K mg base 1 "text_of" ["rows"] spText) :
    FnOk P w K mg base CX0 2 f fd ["self", "rows"] (spInit C) := by
  obtain ⟨fP, fdP, GP, mP, kP, bP⟩ := D1
  obtain ⟨fT, fdT, GT, mT, kT, bT⟩ := D2
  refine F.ok scInit (fun vs H Q E h => ?_) (fun cdv A outer s H vs Q E hr h => ?_)
  · obtain ⟨_, _, _, _, _, rfl, _⟩ := h
    rfl
  · obtain ⟨a, dx, p, us, rs, rfl, ha, hp, ra, few, fin⟩ := h
    have hu := hr.units0
    have B := big
    refine ⟨_, pss_cons (ps_fld (pv 0) (pe_callTy call_tuple_of (by rfl) T.tuple (by decide +kernel) (pa_cons (pv 1) pa_nil)) rfl)
      (pss_cons (ps_fld (pv 0) (pe_callTy call_tuple_of (by rfl) T.tuple (by decide +kernel) (pa_cons (pe_call GP hr (by rfl) mP kP bP .nil pass0 (pa_cons (pe_fld (pv 0) rfl) pa_nil)) pa_nil)) rfl)
      (pss_cons (ps_fld (pv 0) (pe_dcT (own := [("at", 2), ("path", 3)]) (g := gTup K 2 (gCons (gName 2) (gCons (gName 3) gNil))) (tt := tYes) hu rfl scInit.nd (pi_enumT (by rfl) T.enum (pa_cons (pe_fld (pv 0) rfl) pa_nil))
          (blkOk_by (N := ["self", "rows", "at", "path"]) (sc := defScope (cDoc 0)) (by decide +kernel)) (fun _ _ _ _ _ => pg_tup rfl (pgs_cons (pg_name (i := 2) scInit.nd rfl (Or.inl rfl)) (pgs_cons (pg_name (i := 3) scInit.nd rfl (Or.inl rfl)) pgs_nil)))
          (fun _ _ _ _ _ => pts_nil) (fun _ _ _ _ _ => pv 3) (fun _ _ _ _ _ => pv 2)) rfl)
      (pss_one (ps_fld (pv 0) (pe_call GT hr (by rfl) mT kT bT .nil pass0 (pa_cons (pe_fld (pv 0) rfl) pa_nil)) rfl)))), ?_⟩
    refine ⟨_, rfl, p, us, rfl, ?_⟩
    rcases hp with m1 | hl1
    · refine .inr ⟨.inl (.inl m1), ?_⟩
      have s1 : Same H H := Same.refl H
      have a1 := s1 _ _ ha
      refine ⟨_, rfl, a, C, dx, [], rfl, a1, DC.cls, DC.rows, by simp, ?_⟩
      generalize g2 : upd H a _ = H2
      have o2 : Off a H H2 := g2 ▸ Off.put
      have a2 : H2 a = some (.ins C dx [("_rows", .ref p)]) := g2 ▸ upd_same
      have r2 : H2 p = some (.tup us) := o2 _ _ (apart_ins m1 a1) m1
      have ra2 := (ra.same s1).off a1 o2
      -- _paths
      refine ⟨_, rfl, a, C, dx, _, _, rfl, a2, DC.cls, DC.rows, rfl, p, us, rs, rfl, r2, ra2, few.1, fun q ws H3 n3 s3 t3 pa3 => ?_⟩
      refine ⟨q, ws, rfl, .inl ⟨SqL.of t3, fun l hl => ?_⟩⟩
      generalize g4 : upd H3 l _ = H4
      have s4 : Same H3 H4 := g4 ▸ same_new hl
      have l4 : H4 l = some (.tup ws) := g4 ▸ upd_same
      have s24 := s3.trans s4
      have a4 := s24 _ _ a2
      refine ⟨_, rfl, a, C, dx, _, rfl, a4, DC.cls, DC.paths, by simp, ?_⟩
      generalize g5 : upd H4 a _ = H5
      have o5 : Off a H4 H5 := g5 ▸ Off.put
      have a5 : H5 a = some (.ins C dx [("_rows", .ref p), ("_paths", .ref l)]) := g5 ▸ (upd_same.trans rfl)
      have r5 : H5 p = some (.tup us) := o5 _ _ (apart_ins (s24 _ _ r2) a4) (s24 _ _ r2)
      have ra5 := (ra2.same s24).off a4 o5
      have l5 : H5 l = some (.tup ws) := o5 _ _ (apart_ins l4 a4) l4
      have pa5 := (pa3.same s4).off a4 o5
      have pl := pa5.length
      have rl := paths_len rs
      -- _places
      refine ⟨_, rfl, a, C, dx, _, _, rfl, a5, DC.cls, DC.paths, rfl, l, ws, rfl, .inl (.inl l5), fun D hD => dcT_it (walk_enumT (K := K) (a := l) (xs := ws)) (fun i H' => Same H5 H' ∧ H' D = some (.dT (plc (pathsM rs) i)))
        ⟨same_new hD, upd_same⟩ (fun i H' _ ⟨s, _⟩ => .inl (.inl (s _ _ l5))) ?_ ?_⟩
      · rintro i x H6 H7 hi ⟨s6, m6⟩ ⟨t, x1, x2, rfl, ht, rfl, e1, e2⟩
        obtain rfl := Option.some.inj e1
        obtain ⟨y, hy, b, rfl, hb⟩ := pth_get pa5 e2
        refine ⟨t, _, rfl, .inl (.inl upd_same), rfl, _, _, rfl, _, _, rfl, rfl, rfl, ?_⟩
        unfold tYes
        have s7 : Same H6 (upd H6 t (.tup [.int (i : Nat), .ref b])) := same_new ht
        have len := plc_len (pathsM rs) i
        refine iteT ⟨_, rfl, _, rfl, b, plc (pathsM rs) i, pk y, rfl, ?_, s7 _ _ m6, ?_, same_put (s6.trans s7) hD, ?_⟩
        · rw [pk_v]
          exact s7 _ _ (s6 _ _ hb)
        · have := few.1
          omega
        · rw [upd_same, show plc (pathsM rs) (i + 1) = putK (plc (pathsM rs) i) (pk y) (nv i) by
            show (match (pathsM rs)[i]? with | some q => _ | none => _) = _
            rw [hy]]
          rfl
      · rintro H6 ⟨s6, m6⟩
        rw [pl, rl] at m6
        have a6 := s6 _ _ a5
        refine ⟨_, rfl, a, C, dx, _, rfl, a6, DC.cls, DC.places, by simp, ?_⟩
        generalize g7 : upd H6 a _ = H7
        have o7 : Off a H6 H7 := g7 ▸ Off.put
        have a7 : H7 a = some (.ins C dx [("_rows", .ref p), ("_paths", .ref l), ("_places", .ref D)]) := g7 ▸ (upd_same.trans rfl)
        have r7 : H7 p = some (.tup us) := o7 _ _ (apart_ins (s6 _ _ r5) a6) (s6 _ _ r5)
        have ra7 := (ra5.same s6).off a6 o7
        have l7 : H7 l = some (.tup ws) := o7 _ _ (apart_ins (s6 _ _ l5) a6) (s6 _ _ l5)
        have pa7 := (pa5.same s6).off a6 o7
        have d7 : H7 D = some (.dT (plc (pathsM rs) rs.length)) := o7 _ _ (fun z => by rw [z, a6] at m6; cases m6) m6
        -- _text
        refine ⟨_, rfl, a, C, dx, _, _, rfl, a7, DC.cls, DC.rows, rfl, p, us, rs, rfl, r7, ra7, few, fun H8 s8 => ?_⟩
        have a8 := s8 _ _ a7
        refine ⟨_, rfl, a, C, dx, _, rfl, a8, DC.cls, DC.text, by simp, ?_⟩
        generalize g9 : upd H8 a _ = H9
        have o9 : Off a H8 H9 := g9 ▸ Off.put
        have a9 : H9 a = some (.ins C dx [("_rows", .ref p), ("_paths", .ref l), ("_places", .ref D), ("_text", sv (outM rs))]) := g9 ▸ (upd_same.trans rfl)
        refine fin _ (fun b u nb hb => ?_) ⟨dx, p, l, D, us, ws, a9, o9 _ _ (apart_ins (s8 _ _ r7) a8) (s8 _ _ r7), (ra7.same s8).off a8 o9, o9 _ _ (apart_ins (s8 _ _ l7) a8) (s8 _ _ l7), (pa7.same s8).off a8 o9, o9 _ _ (fun z => by rw [z] at d7; rw [a7] at d7; cases d7) (s8 _ _ d7), few⟩
        exact o9 _ _ nb (s8 _ _ (o7 _ _ nb (s6 _ _ (o5 _ _ nb (s24 _ _ (o2 _ _ nb (s1 _ _ hb)))))))
    · refine .inl ⟨SqL.of hl1, fun r hr1 => ?_⟩
      generalize g1 : upd H r _ = H1
      have s1 : Same H H1 := g1 ▸ same_new hr1
      have m1 : H1 r = some (.tup us) := g1 ▸ upd_same
      have a1 := s1 _ _ ha
      refine ⟨_, rfl, a, C, dx, [], rfl, a1, DC.cls, DC.rows, by simp, ?_⟩
      generalize g2 : upd H1 a _ = H2
      have o2 : Off a H1 H2 := g2 ▸ Off.put
      have a2 : H2 a = some (.ins C dx [("_rows", .ref r)]) := g2 ▸ upd_same
      have r2 : H2 r = some (.tup us) := o2 _ _ (apart_ins m1 a1) m1
      have ra2 := (ra.same s1).off a1 o2
      -- _paths
      refine ⟨_, rfl, a, C, dx, _, _, rfl, a2, DC.cls, DC.rows, rfl, r, us, rs, rfl, r2, ra2, few.1, fun q ws H3 n3 s3 t3 pa3 => ?_⟩
      refine ⟨q, ws, rfl, .inl ⟨SqL.of t3, fun l hl => ?_⟩⟩
      generalize g4 : upd H3 l _ = H4
      have s4 : Same H3 H4 := g4 ▸ same_new hl
      have l4 : H4 l = some (.tup ws) := g4 ▸ upd_same
      have s24 := s3.trans s4
      have a4 := s24 _ _ a2
      refine ⟨_, rfl, a, C, dx, _, rfl, a4, DC.cls, DC.paths, by simp, ?_⟩
      generalize g5 : upd H4 a _ = H5
      have o5 : Off a H4 H5 := g5 ▸ Off.put
      have a5 : H5 a = some (.ins C dx [("_rows", .ref r), ("_paths", .ref l)]) := g5 ▸ (upd_same.trans rfl)
      have r5 : H5 r = some (.tup us) := o5 _ _ (apart_ins (s24 _ _ r2) a4) (s24 _ _ r2)
      have ra5 := (ra2.same s24).off a4 o5
      have l5 : H5 l = some (.tup ws) := o5 _ _ (apart_ins l4 a4) l4
      have pa5 := (pa3.same s4).off a4 o5
      have pl := pa5.length
      have rl := paths_len rs
      -- _places
      refine ⟨_, rfl, a, C, dx, _, _, rfl, a5, DC.cls, DC.paths, rfl, l, ws, rfl, .inl (.inl l5), fun D hD => dcT_it (walk_enumT (K := K) (a := l) (xs := ws)) (fun i H' => Same H5 H' ∧ H' D = some (.dT (plc (pathsM rs) i)))
        ⟨same_new hD, upd_same⟩ (fun i H' _ ⟨s, _⟩ => .inl (.inl (s _ _ l5))) ?_ ?_⟩
      · rintro i x H6 H7 hi ⟨s6, m6⟩ ⟨t, x1, x2, rfl, ht, rfl, e1, e2⟩
        obtain rfl := Option.some.inj e1
        obtain ⟨y, hy, b, rfl, hb⟩ := pth_get pa5 e2
        refine ⟨t, _, rfl, .inl (.inl upd_same), rfl, _, _, rfl, _, _, rfl, rfl, rfl, ?_⟩
        unfold tYes
        have s7 : Same H6 (upd H6 t (.tup [.int (i : Nat), .ref b])) := same_new ht
        have len := plc_len (pathsM rs) i
        refine iteT ⟨_, rfl, _, rfl, b, plc (pathsM rs) i, pk y, rfl, ?_, s7 _ _ m6, ?_, same_put (s6.trans s7) hD, ?_⟩
        · rw [pk_v]
          exact s7 _ _ (s6 _ _ hb)
        · have := few.1
          omega
        · rw [upd_same, show plc (pathsM rs) (i + 1) = putK (plc (pathsM rs) i) (pk y) (nv i) by
            show (match (pathsM rs)[i]? with | some q => _ | none => _) = _
            rw [hy]]
          rfl
      · rintro H6 ⟨s6, m6⟩
        rw [pl, rl] at m6
        have a6 := s6 _ _ a5
        refine ⟨_, rfl, a, C, dx, _, rfl, a6, DC.cls, DC.places, by simp, ?_⟩
        generalize g7 : upd H6 a _ = H7
        have o7 : Off a H6 H7 := g7 ▸ Off.put
        have a7 : H7 a = some (.ins C dx [("_rows", .ref r), ("_paths", .ref l), ("_places", .ref D)]) := g7 ▸ (upd_same.trans rfl)
        have r7 : H7 r = some (.tup us) := o7 _ _ (apart_ins (s6 _ _ r5) a6) (s6 _ _ r5)
        have ra7 := (ra5.same s6).off a6 o7
        have l7 : H7 l = some (.tup ws) := o7 _ _ (apart_ins (s6 _ _ l5) a6) (s6 _ _ l5)
        have pa7 := (pa5.same s6).off a6 o7
        have d7 : H7 D = some (.dT (plc (pathsM rs) rs.length)) := o7 _ _ (fun z => by rw [z, a6] at m6; cases m6) m6
        -- _text
        refine ⟨_, rfl, a, C, dx, _, _, rfl, a7, DC.cls, DC.rows, rfl, r, us, rs, rfl, r7, ra7, few, fun H8 s8 => ?_⟩
        have a8 := s8 _ _ a7
        refine ⟨_, rfl, a, C, dx, _, rfl, a8, DC.cls, DC.text, by simp, ?_⟩
        generalize g9 : upd H8 a _ = H9
        have o9 : Off a H8 H9 := g9 ▸ Off.put
        have a9 : H9 a = some (.ins C dx [("_rows", .ref r), ("_paths", .ref l), ("_places", .ref D), ("_text", sv (outM rs))]) := g9 ▸ (upd_same.trans rfl)
        refine fin _ (fun b u nb hb => ?_) ⟨dx, r, l, D, us, ws, a9, o9 _ _ (apart_ins (s8 _ _ r7) a8) (s8 _ _ r7), (ra7.same s8).off a8 o9, o9 _ _ (apart_ins (s8 _ _ l7) a8) (s8 _ _ l7), (pa7.same s8).off a8 o9, o9 _ _ (fun z => by rw [z] at d7; rw [a7] at d7; cases d7) (s8 _ _ d7), few⟩
        exact o9 _ _ nb (s8 _ _ (o7 _ _ nb (s6 _ _ (o5 _ _ nb (s24 _ _ (o2 _ _ nb (s1 _ _ hb)))))))
end
end K02

namespace K02
open PySem L2 DR DM TL
abbrev sPool : Stmt := top 23
abbrev sTake : Stmt := top 24
def M31 : Int := 2147483647
/-- a drawn pool -/
def Pool (H : Hp) (p : Addr) (a b : Int) : Prop := H p = some (.lst [.int a, .int b]) ∧ 0 ≤ a ∧ 0 ≤ b ∧ b < M31
def spPool (K : PySem.W.Frag) : Sp := fun vs H Q _ => ∃ (sc : Addr) (ns : List Int) (k : Int), vs = [.ref sc, .int k] ∧ SqL K H sc (ns.map V.int) ∧ ns.length ≤ 63 ∧ 0 ≤ k ∧ k ≤ 100 ∧
  ∀ (p : Addr) (a b : Int) (H' : Hp), H p = none → Same H H' → Pool H' p a b → Q (.ref p) H'
def spTake : Sp := fun vs H Q _ => ∃ (p : Addr) (n a b : Int), vs = [.ref p, .int n] ∧ Pool H p a b ∧ 1 ≤ n ∧ n < 1000000 ∧
  ∀ (d a' b' : Int), 0 ≤ d → d < n → 0 ≤ a' → 0 ≤ b' → b' < M31 → Q (.int d) (upd H p (.lst [.int a', .int b']))
/-- the second half of _law_pool: from the number on -/
def tMixed : TS := tAsg (tOp (rI (fun _ j => 0 < j) fun i j => V.int (i % j)) (tOp (rI CMul fun i j => V.int (i * j)) (tCB (fun xs H Q => (∃ i, xs = [V.int i] ∧ Q (V.int i) H) ∨ ∃ k, xs = [V.bl k] ∧ Q (V.int (if k then 1 else 0)) H)
  (tCons (tOp (rI0 fun i j => V.int (i + j)) (tOp (rI0 fun i j => V.int (i + j)) (tOp (rI0 fun i j => V.int (i + j)) (tOp (rI (fun _ j => 0 < j) fun i j => V.int (i % j)) (tVar 3) (tC (V.int 2147483629)))
    (tOp (rI CMul fun i j => V.int (i * j)) (tOp (rI CMul fun i j => V.int (i * j)) (tC (V.int 7919)) (tVar 1)) (tVar 1))) (tOp (rI CMul fun i j => V.int (i * j)) (tC (V.int 31)) (tVar 1))) (tC (V.int 17))) tNil)) (tC (V.int 48271))) (tC (V.int 2147483647))) (gName 4)
def tTwo : TS := tRet (tLst (tCons (tOp (rI CMul fun i j => V.int (i * j)) (tVar 3) (tCB (fun xs H Q => (∃ i, xs = [V.int i] ∧ Q (V.int i) H) ∨ ∃ k, xs = [V.bl k] ∧ Q (V.int (if k then 1 else 0)) H)
  (tCons (tOp (rI0 fun i j => V.bl (decide (j ≤ i))) (tVar 3) (tOp (rI CPow fun i j => V.int (i ^ j.toNat)) (tC (V.int 10)) (tC (V.int 18)))) tNil))) (tCons (tOp (rI (fun _ j => 0 < j) fun i j => V.int (i % j)) (tOp (rI CMul fun i j => V.int (i * j)) (tVar 4) (tVar 4)) (tC (V.int 2147483629))) tNil)))
theorem pool_rest {K : PySem.W.Frag} {H H1 : Hp} {Q : VK} {sc : Addr} {ns : List Int} {k num : Int} {cell : Option V} (hS : SqL K H sc (ns.map V.int)) (k0 : 0 ≤ k) (k1 : k ≤ 100) (n0 : 0 ≤ num) (e1 : Same H H1)
    (fin : ∀ (p : Addr) (a b : Int) (H' : Hp), H p = none → Same H H' → Pool H' p a b → Q (V.ref p) H') {nx : L2.St → Hp → Prop} :
    tSeq tMixed tTwo { nx := nx, rt := Q } [some (.ref sc), some (.int k), cell, some (.int num), none] H1 := by
  refine ⟨_, rfl, _, _, rfl, rfl, (by show (0 : Int) < 2147483629; decide), _, rfl, _, _, rfl, rfl, .inl ⟨by decide, by decide⟩, _, rfl, _, _, rfl, rfl, .inr ⟨by omega, by omega⟩, _, _, rfl, rfl, _, rfl, _, _, rfl, rfl, .inl ⟨by decide, by decide⟩, _, _, rfl, rfl,
    _, _, rfl, rfl, .inl ⟨_, rfl, _, _, rfl, rfl, .inr ⟨by decide, by decide⟩, _, _, rfl, rfl, (by show (0 : Int) < 2147483647; decide), ?_⟩⟩
  generalize hm : (num % 2147483629 + 7919 * k * k + 31 * k + 17) * 48271 % 2147483647 = m
  have m0 : 0 ≤ m := by rw [← hm]; exact Int.emod_nonneg _ (by decide)
  have m1 : m < 2147483647 := by rw [← hm]; exact Int.emod_lt_of_pos _ (by decide)
  refine ⟨_, rfl, _, rfl, _, _, rfl, rfl, ⟨by decide, by decide, by decide⟩, _, _, rfl, rfl, .inr ⟨_, rfl, _, _, rfl, rfl, .inr ?_, _, rfl, _, rfl, _, _, rfl, rfl, .inl ⟨by omega, by omega⟩, _, _, rfl, rfl, (by show (0 : Int) < 2147483629; decide), (by show 2 ≤ sizeLine; decide), fun p hp => ?_⟩⟩
  · split <;> exact ⟨by decide, by decide⟩
  refine fin p _ _ _ (e1.free hp) (e1.trans (same_new hp)) ⟨upd_same, ?_, Int.emod_nonneg _ (by decide), Int.lt_trans (Int.emod_lt_of_pos _ (by decide)) (by decide)⟩
  split
  · omega
  · omega
section
variable {P : Program} {w : World} {K : PySem.W.Frag} {mg : Str → Option Value} {base : Heap}
theorem scPool : FnScope ["_law_script", "_law_k", "_law_cell", "_law_number", "_law_mixed"] ["_law_script", "_law_k"] (defScope sPool) := ⟨rfl, rfl, rfl, by decide +kernel, rfl, by decide +kernel, by decide +kernel⟩
theorem ok_pool {f : Addr} {fd : FuncData} (F : Fun K "_law_pool" "_law_pool" sPool f fd) (T : Txt mg) : FnOk P w K mg base CX0 1 f fd ["_law_script", "_law_k"] (spPool K) := by
  refine F.ok scPool (fun vs H Q E h => ?_) (fun cdv A outer s H vs Q E hr h => ?_)
  · obtain ⟨_, _, _, rfl, _⟩ := h
    rfl
  · obtain ⟨sc, ns, k, rfl, hS, hl, k0, k1, fin⟩ := h
    refine ⟨_, pss_cons (ps_set (i := 2) scPool.nd rfl (Or.inl rfl) (pe_ix ix_list (pe_op op_cat (pe_slice sl_list (pv 0) (po_some (pv 1)) (po_some (pe_op op_add (pv 1) pe_int))) (pe_lst (pa_cons pe_int pa_nil))) pe_int (fun _ _ => rfl)))
      (pss_cons (ps_set (i := 3) scPool.nd rfl (Or.inl rfl) (pe_ifExp (pt_cmpR op_ge (pv 2) pe_int (nomark _)) (pv 2) (pe_op op_sub (pe_un un_neg pe_int) (pv 2))))
      (pss_cons (ps_set (i := 4) scPool.nd rfl (Or.inl rfl) (pe_op op_mod (pe_op op_mul (pe_callTy call_int1 (by rfl) T.int (by decide +kernel)
        (pa_cons (pe_op op_add (pe_op op_add (pe_op op_add (pe_op op_mod (pv 3) pe_int) (pe_op op_mul (pe_op op_mul pe_int (pv 1)) (pv 1))) (pe_op op_mul pe_int (pv 1))) pe_int) pa_nil)) pe_int) pe_int))
      (pss_one (ps_ret (pe_lst (pa_cons (pe_op op_mul (pv 3) (pe_callTy call_int1 (by rfl) T.int (by decide +kernel) (pa_cons (pe_cmpR op_ge (pv 3) (pe_op op_pow pe_int pe_int) (nomark _)) pa_nil)))
        (pa_cons (pe_op op_mod (pe_op op_mul (pv 4) (pv 4)) pe_int) pa_nil))))))), ?_⟩
    -- the cell: the script's item at k, or 0
    refine ⟨_, rfl, _, rfl, _, rfl, ?_⟩
    refine ⟨_, rfl, _, _, rfl, rfl, _, rfl, sc, ns.map V.int, rfl, hS, fun c hc => ⟨by show 1 ≤ sizeLine; decide, fun z hz => ?_⟩⟩
    have cz : c ≠ z := fun e => by
      rw [e, upd_same] at hz
      cases hz
    have lc := cutV_length (ns.map V.int) (some k) (some (k + 1))
    rw [List.length_map] at lc
    refine ⟨c, z, _, _, rfl, rfl, (by rw [upd_ne cz, upd_same]), upd_same, (by show _ + 1 ≤ sizeLine; exact Nat.le_trans (Nat.succ_le_succ (Nat.le_trans lc hl)) (by decide)), fun y hy => ?_⟩
    obtain ⟨cell, hcell⟩ : ∃ n : Int, (cutV (ns.map V.int) (some k) (some (k + 1)) ++ [V.int 0])[0]? = some (V.int n) := by
      unfold cutV
      cases e : ((ns.map V.int).drop (HT.sIx (ns.map V.int).length 0 (some k))).take (HT.sIx (ns.map V.int).length (ns.map V.int).length (some (k + 1)) - HT.sIx (ns.map V.int).length 0 (some k)) with
      | nil => exact ⟨0, rfl⟩
      | cons v r =>
        have m : v ∈ ns.map V.int := List.mem_of_mem_drop (List.mem_of_mem_take (e ▸ List.mem_cons_self ..))
        obtain ⟨n, _, rfl⟩ := List.mem_map.mp m
        exact ⟨n, rfl⟩
    refine ⟨y, _, 0, _, rfl, rfl, SqL.of upd_same, atI_nat hcell, ?_⟩
    -- the number: the cell, or what lies below nought from the other side
    refine ⟨_, rfl, _, _, rfl, rfl, _, rfl, ?_⟩
    have e1 : Same H (upd (upd (upd H c (HO.lst (cutV (List.map V.int ns) (some k) (some (k + 1))))) z (HO.lst [V.int 0])) y (HO.lst (cutV (List.map V.int ns) (some k) (some (k + 1)) ++ [V.int 0]))) :=
      ((same_new hc).trans (same_new hz)).trans (same_new hy)
    refine ite2 (fun c1 => ?_) (fun c1 => ?_)
    · have h0 := of_decide_eq_true c1
      refine ⟨_, rfl, ?_⟩
      exact pool_rest hS k0 k1 h0 e1 fin
    · have h0 : ¬ 0 ≤ cell := fun q => c1 (decide_eq_true q)
      refine ⟨_, rfl, _, rfl, _, _, rfl, rfl, ?_⟩
      exact pool_rest hS k0 k1 (by omega) e1 fin
theorem scTake : FnScope ["_law_pool_here", "_law_many", "_law_digit"] ["_law_pool_here", "_law_many"] (defScope sTake) := ⟨rfl, rfl, rfl, by decide +kernel, rfl, by decide +kernel, by decide +kernel⟩
theorem ok_take {f : Addr} {fd : FuncData} (F : Fun K "_law_take" "_law_take" sTake f fd) (T : Txt mg) : FnOk P w K mg base CX0 1 f fd ["_law_pool_here", "_law_many"] spTake := by
  refine F.ok scTake (fun vs H Q E h => ?_) (fun cdv A outer s H vs Q E hr h => ?_)
  · obtain ⟨_, _, _, _, rfl, _⟩ := h
    rfl
  · obtain ⟨p, n, a, b, rfl, ⟨hp, a0, b0, b1⟩, n1, n2, fin⟩ := h
    refine ⟨_, pss_cons (ps_if (pt_cmpR op_gt (pe_ix ix_list (pv 0) pe_int (fun _ _ => rfl)) pe_int (nomark _))
        (pss_cons (ps_set (i := 2) scTake.nd rfl (Or.inl rfl) (pe_op op_mod (pe_callTy call_int1 (by rfl) T.int (by decide +kernel) (pa_cons (pe_ix ix_list (pv 0) pe_int (fun _ _ => rfl)) pa_nil)) (pv 1)))
        (pss_cons (ps_asg (pe_op op_fdiv (pe_ix ix_list (pv 0) pe_int (fun _ _ => rfl)) (pv 1)) (pg_sub (pv 0) pe_int set_list))
        (pss_one (ps_ret (pv 2))))) pss_nil)
      (pss_cons (ps_asg (pe_op op_mod (pe_callTy call_int1 (by rfl) T.int (by decide +kernel) (pa_cons (pe_op op_add (pe_op op_mul (pe_ix ix_list (pv 0) pe_int (fun _ _ => rfl)) pe_int) pe_int) pa_nil)) pe_int) (pg_sub (pv 0) pe_int set_list))
      (pss_one (ps_ret (pe_op op_mod (pe_op op_fdiv (pe_op op_mod (pe_callTy call_int1 (by rfl) T.int (by decide +kernel)
        (pa_cons (pe_op op_mul (pe_ix ix_list (pv 0) pe_int (fun _ _ => rfl)) (pe_ix ix_list (pv 0) pe_int (fun _ _ => rfl))) pa_nil)) pe_int) pe_int) (pv 1))))), ?_⟩
    have m31 : M31 = 2147483647 := rfl
    refine ⟨_, rfl, p, _, 0, _, rfl, rfl, SqL.of hp, rfl, _, _, rfl, rfl, _, rfl, ?_⟩
    refine ite2 (fun c1 => ?_) (fun c1 => ?_)
    · refine ⟨_, rfl, p, _, 0, _, rfl, rfl, SqL.of hp, rfl, .inl ⟨_, rfl, _, rfl, _, _, rfl, rfl, (by show (0 : Int) < n; omega), ?_⟩⟩
      refine ⟨_, rfl, p, _, 0, _, rfl, rfl, SqL.of hp, rfl, _, rfl, _, _, rfl, rfl, ⟨by omega, by omega⟩, _, rfl, p, _, 0, 0, rfl, rfl, hp, rfl, _, rfl, ?_⟩
      exact fin _ _ _ (Int.emod_nonneg _ (by omega)) (Int.emod_lt_of_pos _ (by omega)) (Int.ediv_nonneg a0 (by omega)) b0 b1
    · have hb := Int.emod_lt_of_pos (b * 48271 + 12345) (show (0 : Int) < 2147483647 by decide)
      have hb0 := Int.emod_nonneg (b * 48271 + 12345) (show (2147483647 : Int) ≠ 0 by decide)
      refine ⟨_, rfl, p, _, 1, _, rfl, rfl, SqL.of hp, rfl, _, _, rfl, rfl, .inl ⟨by omega, by omega⟩, _, _, rfl, rfl, .inl ⟨_, rfl, _, _, rfl, rfl, (by show (0 : Int) < 2147483647; decide), ?_⟩⟩
      refine ⟨_, rfl, p, _, 1, 1, rfl, rfl, hp, rfl, ?_⟩
      refine ⟨_, rfl, p, _, 1, _, rfl, rfl, SqL.of upd_same, rfl, _, rfl, p, _, 1, _, rfl, rfl, SqL.of upd_same, rfl, _, _, rfl, rfl, .inl ⟨by omega, by omega⟩, .inl ⟨_, rfl, _, _, rfl, rfl, (by show (0 : Int) < 2147483629; decide), _, _, rfl, rfl, ⟨by decide, by decide⟩, _, rfl, _, _, rfl, rfl, (by show (0 : Int) < n; omega), ?_⟩⟩
      exact fin _ _ _ (Int.emod_nonneg _ (by omega)) (Int.emod_lt_of_pos _ (by omega)) a0 hb0 (by rw [m31]; exact hb)
end
end K02

namespace K02
open PySem L2 DR DM TL
mutual
/-- the law's own node: lists at addresses that N allows -/
def NodeAt (N : Addr → Prop) (H : Hp) : V → Tr → Prop
  | v, .nd k ms ks => ∃ a m b vs, v = .ref a ∧ N a ∧ N m ∧ N b ∧ H a = some (.lst [sv k, .ref m, .ref b]) ∧ H m = some (.lst (ms.map sv)) ∧ H b = some (.lst vs) ∧ NodesAt N H vs ks
def NodesAt (N : Addr → Prop) (H : Hp) : List V → Trs → Prop
  | vs, .nil => vs = []
  | vs, .cons t ts => ∃ v r, vs = v :: r ∧ NodeAt N H v t ∧ NodesAt N H r ts
end
mutual
theorem NodeAt.move {N N' : Addr → Prop} {H H' : Hp} (hN : ∀ c, N c → N' c) (o : ∀ c u, N c → H c = some u → H' c = some u) : ∀ (t : Tr) (v : V), NodeAt N H v t → NodeAt N' H' v t
  | .nd k ms ks, v, h => by
    rw [NodeAt] at h ⊢
    obtain ⟨a, m, b, vs, e, na, nm, nb, h1, h2, h3, h4⟩ := h
    exact ⟨a, m, b, vs, e, hN _ na, hN _ nm, hN _ nb, o _ _ na h1, o _ _ nm h2, o _ _ nb h3, NodesAt.move hN o ks vs h4⟩
theorem NodesAt.move {N N' : Addr → Prop} {H H' : Hp} (hN : ∀ c, N c → N' c) (o : ∀ c u, N c → H c = some u → H' c = some u) : ∀ (ts : Trs) (vs : List V), NodesAt N H vs ts → NodesAt N' H' vs ts
  | .nil, vs, h => by
    rw [NodesAt] at h ⊢
    exact h
  | .cons t ts, vs, h => by
    rw [NodesAt] at h ⊢
    obtain ⟨v, r, e, h1, h2⟩ := h
    exact ⟨v, r, e, NodeAt.move hN o t v h1, NodesAt.move hN o ts r h2⟩
end
def ofL : List Tr → Trs
  | [] => .nil
  | t :: ts => .cons t (ofL ts)
theorem ofL_len : ∀ ts, (ofL ts).len = ts.length
  | [] => rfl
  | t :: ts => congrArg (· + 1) (ofL_len ts)
theorem nodes_of {N : Addr → Prop} {H : Hp} : ∀ {vs : List V} {ts : List Tr}, Paired (NodeAt N H) vs ts → NodesAt N H vs (ofL ts)
  | _, _, .nil => by
    rw [ofL, NodesAt]
  | _, _, .cons h t => by
    rw [ofL, NodesAt]
    exact ⟨_, _, rfl, h, nodes_of t⟩
mutual
/-- what is drawn -/
def _root_.DM.Tr.fits (Ks Ms : List W) : Nat → Tr → Prop
  | d, .nd k ms ks => k ∈ Ks ∧ ms.Sublist Ms ∧ ks.len ≤ 3 ∧ (d = 0 → ks = .nil) ∧ ks.fits Ks Ms (d - 1)
def _root_.DM.Trs.fits (Ks Ms : List W) : Nat → Trs → Prop
  | _, .nil => True
  | d, .cons t ts => t.fits Ks Ms d ∧ ts.fits Ks Ms d
end
theorem fits_of {Ks Ms : List W} {d : Nat} : ∀ {ts : List Tr}, (∀ t ∈ ts, t.fits Ks Ms d) → (ofL ts).fits Ks Ms d
  | [], _ => by
    rw [ofL, Trs.fits]
    trivial
  | t :: ts, h => by
    rw [ofL, Trs.fits]
    exact ⟨h t (List.mem_cons_self ..), fits_of fun x hx => h x (List.mem_cons_of_mem _ hx)⟩
theorem Off.trans {p : Addr} {H H1 H2 : Hp} (a : Off p H H1) (b : Off p H1 H2) : Off p H H2 := fun c u n e => b c u n (a c u n e)
theorem Off.same {p : Addr} {H H1 : Hp} (s : Same H H1) : Off p H H1 := fun c u _ e => s c u e
theorem Off.refl {p : Addr} {H : Hp} : Off p H H := fun _ _ _ e => e
theorem Off.free {p c : Addr} {H H1 : Hp} (o : Off p H H1) (hc : H1 c = none) (np : H1 p ≠ none) : H c = none := by
  cases e : H c with
  | none => rfl
  | some u =>
    have n : c ≠ p := fun z => np (z ▸ hc)
    rw [o c u n e] at hc
    cases hc
/-- a write at what was free -/
theorem Off.new {p c : Addr} {H H1 : Hp} {o : HO} (h : Off p H H1) (hc : H c = none) : Off p H (upd H1 c o) := fun b u n e => by
  rw [upd_ne (ne_of_none e hc)]
  exact h b u n e
abbrev sNode : Stmt := top 25
def spNode (Ks Ms : List W) (d : Nat) : Sp := fun vs H Q _ => ∃ (p ka ma : Addr) (a b : Int), vs = [.ref p, nv d, .ref ka, .ref ma] ∧ Pool H p a b ∧ H ka = some (.lst (Ks.map sv)) ∧ H ma = some (.lst (Ms.map sv)) ∧
  ∀ v t H' a' b', Off p H H' → Pool H' p a' b' → NodeAt (fun c => H c = none) H' v t → t.fits Ks Ms d → Q v H'
theorem Pool.at_ {H : Hp} {p : Addr} {a b : Int} (h : Pool H p a b) : H p ≠ none := fun z => by
  rw [h.1] at z
  cases z
theorem pool_ne {H : Hp} {p c : Addr} {a b : Int} {o : HO} (h : Pool H p a b) (hc : H c = some o) (ho : o ≠ .lst [.int a, .int b]) : c ≠ p := fun z => by
  rw [z, h.1] at hc
  exact ho (Option.some.inj hc).symm
theorem strs_ne {ws : List W} {a b : Int} : HO.lst (ws.map sv) ≠ .lst [.int a, .int b] := fun z => by
  injection z with z
  cases ws with
  | nil => cases z
  | cons w ws =>
    rw [List.map_cons] at z
    injection z with z
    cases z
theorem cond_true {c : Bool} {F : Bool → Prop} (h : c = true) (p : F true) : F c := h ▸ p
theorem cond_false {c : Bool} {F : Bool → Prop} (h : c = false) (p : F false) : F c := h ▸ p
def tLast (spR : Sp) : TS := tRet (tLst (tCons (tVar 4) (tCons (tVar 5) (tCons (tLc (iRng1 (tCons (tVar 6) tNil)) (gName 8) tYes (tCall spR [] E0 (tCons (tVar 0) (tCons (tOp (rI0 fun i j => V.int (i - j)) (tVar 1) (tC (V.int 1))) (tCons (tVar 2) (tCons (tVar 3) tNil))))) [8]) tNil))))
section
variable {P : Program} {w : World} {K : PySem.W.Frag} {mg : Str → Option Value} {base : Heap}
theorem scNode : FnScope ["_law_pool_here", "_law_depth", "_law_kinds", "_law_marks", "_law_kind", "_law_own", "_law_many", "_law_mark", "_law_turn"] ["_law_pool_here", "_law_depth", "_law_kinds", "_law_marks"] (defScope sNode) := ⟨rfl, rfl, rfl, by decide +kernel, rfl, by decide +kernel, by decide +kernel⟩
theorem node_step {f : Addr} {fd : FuncData} {Ks Ms : List W} {d : Nat} {spR : Sp} (F : Fun K "_law_node" "_law_node" sNode f fd) (T : Txt mg) (D1 : Has P w K mg base 1 "_law_take" ["_law_pool_here", "_law_many"] spTake)
    (mN : mg "_law_node" = some (.ref f)) (kN : PySem.W.keepIn K (.ref f) = true) (bN : Binds K fd ["_law_pool_here", "_law_depth", "_law_kinds", "_law_marks"] []) (hK1 : 1 ≤ Ks.length) (hK : Ks.length < 1000) (hM : Ms.length < 1000)
    (G : FnOk P w K mg base CX0 (d + 1) f fd ["_law_pool_here", "_law_depth", "_law_kinds", "_law_marks"] spR) (hR : d ≠ 0 → spR = spNode Ks Ms (d - 1)) :
    FnOk P w K mg base CX0 (d + 2) f fd ["_law_pool_here", "_law_depth", "_law_kinds", "_law_marks"] (spNode Ks Ms d) := by
  obtain ⟨fT, fdT, GT, mT, kT, bT⟩ := D1
  refine F.ok scNode (fun vs H Q E h => ?_) (fun cdv A outer s H vs Q E hr h => ?_)
  · obtain ⟨_, _, _, _, _, rfl, _⟩ := h
    rfl
  · obtain ⟨p, ka, ma, a, b, rfl, pool, hk, hm, fin⟩ := h
    have hr1 : Room 1 _ := hr.mono (by omega)
    refine ⟨_, pss_cons (ps_set (i := 4) scNode.nd rfl (Or.inl rfl) (pe_ix ix_list (pv 2) (pe_call GT hr1 (by rfl) mT kT bT .nil pass0 (pa_cons (pv 0) (pa_cons (pe_callB call_len_seq (by rfl) T.len PySem.boot_len (pa_cons (pv 2) pa_nil)) pa_nil))) (fun _ _ => rfl)))
      (pss_cons (ps_setLc (i := 5) (own := [("_law_mark", 7)]) (g := gName 7) (tt := tTest (tOp rEq (tCall spTake [] E0 (tCons (tVar 0) (tCons (tC (.int 3)) tNil))) (tC (.int 0)))) rfl scNode.nd rfl rfl (by rfl) (pi_list (pv 3))
          (blkOk_by (N := ["_law_pool_here", "_law_depth", "_law_kinds", "_law_marks", "_law_kind", "_law_own", "_law_many", "_law_mark", "_law_turn"]) (sc := defScope sNode) (by decide +kernel)) (fun _ _ _ _ _ => pg_name (i := 7) scNode.nd rfl (Or.inl rfl))
          (fun _ _ _ _ _ => pts_one (pt_cmpR op_eq (pe_call GT hr1 (by rfl) mT kT bT .nil pass0 (pa_cons (pv 0) (pa_cons pe_int pa_nil))) pe_int rfl)) (fun _ _ _ _ _ => pv 7))
      (pss_cons (ps_set (i := 6) scNode.nd rfl (Or.inl rfl) (pe_ifExp (pt_cmpR op_gt (pv 1) pe_int rfl) (pe_call GT hr1 (by rfl) mT kT bT .nil pass0 (pa_cons (pv 0) (pa_cons pe_int pa_nil))) pe_int))
      (pss_one (ps_ret (pe_lst (pa_cons (pv 4) (pa_cons (pv 5) (pa_cons (pe_lc (own := [("_law_turn", 8)]) (g := gName 8) (tt := tYes) rfl scNode.nd (pi_range1 (by rfl) T.range (pa_cons (pv 6) pa_nil))
          (blkOk_by (N := ["_law_pool_here", "_law_depth", "_law_kinds", "_law_marks", "_law_kind", "_law_own", "_law_many", "_law_mark", "_law_turn"]) (sc := defScope sNode) (by decide +kernel)) (fun _ _ _ _ _ => pg_name (i := 8) scNode.nd rfl (Or.inl rfl)) (fun _ _ _ _ _ => pts_nil)
          (fun _ _ _ _ _ => pe_call G hr (by rfl) mN kN bN .nil pass0 (pa_cons (pv 0) (pa_cons (pe_op op_sub (pv 1) pe_int) (pa_cons (pv 2) (pa_cons (pv 3) pa_nil)))))) pa_nil)))))))), ?_⟩
    have B := big
    have kne : ka ≠ p := pool_ne pool hk strs_ne
    have mne : ma ≠ p := pool_ne pool hm strs_ne
    obtain ⟨hp0, pa, pb, pb2⟩ := id pool
    refine ⟨_, rfl, _, rfl, _, rfl, ka, _, rfl, .inl (SqL.of hk), p, _, a, b, rfl, pool, by rw [List.length_map]; omega, by rw [List.length_map]; omega, fun j a1 b1 j0 j1 ha1 hb1 hb2 => ?_⟩
    generalize g1 : upd H p _ = H1
    have o1 : Off p H H1 := g1 ▸ Off.put
    have p1 : Pool H1 p a1 b1 := ⟨g1 ▸ upd_same, ha1, hb1, hb2⟩
    have k1 := o1 _ _ kne hk
    have m1 := o1 _ _ mne hm
    obtain ⟨jn, rfl⟩ : ∃ n : Nat, j = (n : Int) := ⟨j.toNat, by omega⟩
    have jlt : jn < Ks.length := by
      rw [List.length_map] at j1
      omega
    have kat : (Ks.map sv)[jn]? = some (sv (Ks.getD jn [])) := by
      rw [List.getElem?_map, List.getD_eq_getElem?_getD, List.getElem?_eq_getElem jlt]
      rfl
    have kin : Ks.getD jn [] ∈ Ks := by
      rw [List.getD_eq_getElem?_getD, List.getElem?_eq_getElem jlt]
      exact List.getElem_mem jlt
    generalize Ks.getD jn [] = kw at kat kin
    refine ⟨ka, _, _, _, rfl, rfl, SqL.of k1, atI_nat kat, ?_⟩
    -- the marks
    refine ⟨_, rfl, ma, rfl, ⟨_, SqL.of m1⟩, fun D hD => lc_it (walk_list (K := K) (a := ma) (xs := Ms.map sv)) (fun i H' => ∃ ws a' b', Off p H1 H' ∧ Pool H' p a' b' ∧ H' D = some (.lst (List.map sv ws)) ∧ ws.Sublist (Ms.take i))
      ⟨[], a1, b1, Off.refl.new hD, ⟨by rw [upd_ne (ne_of_none p1.1 hD)]; exact p1.1, p1.2⟩, upd_same, List.nil_sublist _⟩ (fun i H' _ ⟨_, _, _, o, _⟩ => SqL.of (o _ _ mne m1)) ?_ ?_⟩
    · rintro i x H2 H3 hi ⟨ws, a2, b2, o3, p3, m3, sub⟩ ⟨rfl, hx⟩
      rw [List.length_map] at hi
      rw [List.getElem?_map] at hx
      obtain ⟨u, hu, rfl⟩ := Option.map_eq_some_iff.mp hx
      have dne : D ≠ p := fun z => by rw [z] at hD; exact p1.at_ hD
      refine ⟨rfl, ?_⟩
      refine ⟨_, rfl, p, 3, a2, b2, rfl, p3, by decide, by decide, fun d3 a3 b3 d0 d1 h1 h2 h3 => ⟨rfl, _, rfl, ?_⟩⟩
      generalize g4 : upd H3 p _ = H4
      have o4 : Off p H3 H4 := g4 ▸ Off.put
      have p4 : Pool H4 p a3 b3 := ⟨g4 ▸ upd_same, h1, h2, h3⟩
      have m4 := o4 _ _ dne m3
      refine ite2 (fun c => ?_) (fun c => ?_)
      · refine ⟨_, rfl, _, m4, ?_, ws ++ [u], a3, b3, ?_, ⟨by rw [upd_ne (fun z => dne z.symm)]; exact p4.1, p4.2⟩, ?_, ?_⟩
        · rw [List.length_map]
          have := sub.length_le
          rw [List.length_take] at this
          omega
        · exact (o3.trans o4).new hD
        · rw [upd_same, List.map_append]
          rfl
        · rw [List.take_succ, hu]
          exact sub.append (List.Sublist.refl _)
      · exact ⟨ws, a3, b3, o3.trans o4, p4, m4, sub.trans (List.take_sublist_take_left (Nat.le_succ i))⟩
    · rintro H3 ⟨ws, a2, b2, o3, p3, m3, sub⟩
      rw [List.length_map, List.take_length] at sub
      have o13 := o1.trans o3
      have Dfree : H D = none := o1.free hD p1.at_
      have dne : D ≠ p := fun z => by rw [z] at hD; exact p1.at_ hD
      -- the number of the children
      have kids : ∀ (m : Nat) (H4 : Hp) (a3 b3 : Int), m ≤ 3 → (d = 0 → m = 0) → Off p H3 H4 → Pool H4 p a3 b3 →
          tLast spR { nx := fun x H' => Q V.non H', rt := Q } [some (.ref p), some (nv d), some (.ref ka), some (.ref ma), some (sv kw), some (.ref D), some (nv m), none, none] H4 := by
        intro m H4 a3 b3 hm hz o4 p4
        have o14 := o13.trans o4
        have k4 := o14 _ _ kne hk
        have m4 := o14 _ _ mne ‹H ma = _›
        refine ⟨_, rfl, _, rfl, _, rfl, _, rfl, by omega, by omega, fun G0 hE => ?_⟩
        rw [Int.toNat_natCast]
        have ene : G0 ≠ p := fun z => by rw [z] at hE; exact p4.at_ hE
        refine lc_it (walk_range (lo := 0) (n := m)) (fun i H' => ∃ (ts : List Tr) (vs : List V) (a' b' : Int), Off p H4 H' ∧ Pool H' p a' b' ∧ H' G0 = some (.lst vs) ∧ Paired (NodeAt (fun c => H4 c = none ∧ c ≠ G0) H') vs ts ∧ ts.length = i ∧ ∀ t ∈ ts, t.fits Ks Ms (d - 1))
          ⟨[], [], a3, b3, Off.refl.new hE, ⟨by rw [upd_ne (ne_of_none p4.1 hE)]; exact p4.1, p4.2⟩, upd_same, .nil, rfl, fun t z => by cases z⟩ (fun _ _ _ _ => trivial) ?_ ?_
        · rintro i x H5 H6 hi ⟨ts, vs, a4, b4, o5, p5, m5, pr, len, ft⟩ ⟨rfl, rfl⟩
          have d0 : d ≠ 0 := fun z => by
            have := hz z
            omega
          refine ⟨rfl, ?_⟩
          unfold tYes
          rw [hR d0]
          have e1 : ((d : Nat) : Int) - 1 = ((d - 1 : Nat) : Int) := by omega
          have o15 := o14.trans o5
          refine iteT ⟨_, rfl, _, rfl, _, _, rfl, rfl, _, rfl, _, rfl, p, ka, ma, a4, b4, ?_, p5, o15 _ _ kne hk, o15 _ _ mne ‹H ma = _›, fun v t H7 a5 b5 o7 p7 nd ft1 => ?_⟩
          · show [V.ref p, V.int (((d : Nat) : Int) - 1), V.ref ka, V.ref ma] = _
            rw [e1]
            rfl
          · have m7 := o7 _ _ ene m5
            have vl := pr.length
            refine ⟨vs, m7, by omega, ts ++ [t], vs ++ [v], a5, b5, (o5.trans o7).new hE, ⟨by rw [upd_ne (fun z => ene z.symm)]; exact p7.1, p7.2⟩, upd_same, ?_, by rw [List.length_append, len]; rfl, ?_⟩
            · refine Paired.snoc (Paired.mapP pr fun v1 t1 q => NodeAt.move (fun c h => h) (fun c u h e => ?_) t1 v1 q) (NodeAt.move (fun c h => ⟨o5.free h p5.at_, fun z => by rw [z, m5] at h; cases h⟩) (fun c u h e => ?_) t v nd)
              · rw [upd_ne h.2]
                exact o7 c u (fun z => p4.at_ (z ▸ h.1)) e
              · rw [upd_ne (fun z => by rw [z, m5] at h; cases h)]
                exact e
            · intro t1 h1
              rcases List.mem_append.mp h1 with h1 | h1
              · exact ft t1 h1
              · rw [List.mem_singleton.mp h1]
                exact ft1
        · rintro H5 ⟨ts, vs, a4, b4, o5, p5, m5, pr, len, ft⟩
          have o15 := o14.trans o5
          refine ⟨by show 3 ≤ sizeLine; decide, fun q hq => ?_⟩
          have nq : ∀ {c u}, H5 c = some u → c ≠ q := fun e => ne_of_none e hq
          refine fin (.ref q) (.nd kw ws (ofL ts)) _ a4 b4 (o15.new (o15.free hq p5.at_)) ⟨by rw [upd_ne (nq p5.1)]; exact p5.1, p5.2⟩ ?_ ?_
          · rw [NodeAt]
            have m35 := o5 _ _ dne (o4 _ _ dne m3)
            refine ⟨q, D, G0, vs, rfl, o15.free hq p5.at_, Dfree, o14.free hE p4.at_, upd_same, by rw [upd_ne (nq m35)]; exact m35, by rw [upd_ne (nq m5)]; exact m5, nodes_of (Paired.mapP pr fun v1 t1 z => NodeAt.move (fun c h => o14.free h.1 p4.at_) (fun c u h e => ?_) t1 v1 z)⟩
            rw [upd_ne (nq e)]
            exact e
          · rw [Tr.fits]
            refine ⟨kin, sub, by rw [ofL_len]; omega, fun z => ?_, fits_of ft⟩
            have : ts = [] := List.length_eq_zero_iff.mp (by rw [len, hz z])
            rw [this]
            rfl
      refine ⟨_, rfl, _, _, rfl, rfl, _, rfl, ?_⟩
      by_cases c : (0 : Int) < ((d : Nat) : Int)
      · rw [decide_eq_true c]
        refine iteT ?_
        refine ⟨_, rfl, p, 4, a2, b2, rfl, p3, by decide, by decide, fun d3 a3 b3 d0 d1 h1 h2 h3 => ?_⟩
        obtain ⟨m, rfl⟩ : ∃ n : Nat, d3 = (n : Int) := ⟨d3.toNat, by omega⟩
        exact kids m _ a3 b3 (by omega) (fun z => by omega) Off.put ⟨upd_same, h1, h2, h3⟩
      · rw [decide_eq_false c]
        refine iteF ?_
        exact kids 0 H3 a2 b2 (by decide) (fun _ => rfl) Off.refl p3
theorem never_ok {k : Nat} {f : Addr} {fd : FuncData} {ps : List Str} : FnOk P w K mg base CX0 k f fd ps (fun _ _ _ _ => False) :=
  { len := fun _ _ _ _ h => h.elim, run := fun _ _ _ _ _ _ _ _ _ _ _ _ _ h => h.elim }
theorem ok_node {f : Addr} {fd : FuncData} {Ks Ms : List W} (F : Fun K "_law_node" "_law_node" sNode f fd) (T : Txt mg) (D1 : Has P w K mg base 1 "_law_take" ["_law_pool_here", "_law_many"] spTake)
    (mN : mg "_law_node" = some (.ref f)) (kN : PySem.W.keepIn K (.ref f) = true) (bN : Binds K fd ["_law_pool_here", "_law_depth", "_law_kinds", "_law_marks"] []) (hK1 : 1 ≤ Ks.length) (hK : Ks.length < 1000) (hM : Ms.length < 1000) :
    ∀ d, FnOk P w K mg base CX0 (d + 2) f fd ["_law_pool_here", "_law_depth", "_law_kinds", "_law_marks"] (spNode Ks Ms d)
  | 0 => node_step F T D1 mN kN bN hK1 hK hM never_ok fun z => absurd rfl z
  | d + 1 => node_step F T D1 mN kN bN hK1 hK hM (ok_node F T D1 mN kN bN hK1 hK hM d) fun _ => rfl
end
end K02

namespace K02
open PySem L2 DR DM TL
def _root_.DM.Trs.toL : Trs → List Tr
  | .nil => []
  | .cons t ts => t :: ts.toL
theorem toL_len : ∀ ts : Trs, ts.toL.length = ts.len
  | .nil => rfl
  | .cons t ts => congrArg (· + 1) (toL_len ts)
theorem nodes_to {N : Addr → Prop} {H : Hp} : ∀ {ts : Trs} {vs : List V}, NodesAt N H vs ts → Paired (NodeAt N H) vs ts.toL
  | .nil, vs, h => by
    rw [NodesAt] at h
    subst h
    exact .nil
  | .cons t ts, vs, h => by
    rw [NodesAt] at h
    obtain ⟨v, r, rfl, h1, h2⟩ := h
    exact .cons h1 (nodes_to h2)
theorem fits_to {Ks Ms : List W} {d : Nat} : ∀ {ts : Trs}, ts.fits Ks Ms d → ∀ t ∈ ts.toL, t.fits Ks Ms d
  | .nil, _, t, h => by cases h
  | .cons u ts, h, t, m => by
    rw [Trs.fits] at h
    rcases List.mem_cons.mp m with rfl | m
    · exact h.1
    · exact fits_to h.2 t m
/-- the text of a node, its marks sorted -/
noncomputable def txt (t : Tr) : W := (t.sortT srt).text
theorem more_eq : ∀ (ts : Trs) (t : Tr), txt t ++ (ts.sortT srt).more = joinL [44] (txt t :: ts.toL.map txt) ++ [41]
  | .nil, t => by
    rw [Trs.sortT, Trs.more]
    rfl
  | .cons u us, t => by
    rw [Trs.sortT, Trs.more, Trs.toL, List.map_cons]
    have ih := more_eq us u
    show txt t ++ 44 :: (txt u ++ (us.sortT srt).more) = (txt t ++ ([44] ++ joinL [44] (txt u :: us.toL.map txt))) ++ [41]
    rw [ih]
    simp
theorem txt_nd (k : W) (ms : List W) (ks : Trs) : txt (.nd k ms ks) = headL k (srt ms) ++ (if ks.toL = [] then [] else 40 :: (joinL [44] (ks.toL.map txt) ++ [41])) := by
  unfold txt
  rw [Tr.sortT, Tr.text]
  cases ks with
  | nil =>
    rw [Trs.sortT, Trs.wrap]
    rfl
  | cons t ts =>
    rw [Trs.sortT, Trs.wrap, if_neg (by rw [Trs.toL]; exact fun z => by cases z)]
    have := more_eq ts t
    show _ ++ 40 :: (txt t ++ (ts.sortT srt).more) = _
    rw [this]
    rfl
theorem srt_perm (ms : List W) : (srt ms).Perm ms := by
  unfold srt
  split
  · rename_i h
    exact (Classical.choose_spec h).1
  · exact .refl _
theorem flat_le : ∀ l : List W, (∀ w ∈ l, w.length ≤ 8) → l.flatten.length ≤ 8 * l.length
  | [], _ => Nat.le_refl _
  | w :: l, h => by
    have h1 := h w (List.mem_cons_self ..)
    have h2 := flat_le l fun x hx => h x (List.mem_cons_of_mem _ hx)
    rw [List.flatten_cons, List.length_append, List.length_cons]
    omega
structure Short (Ks Ms : List W) : Prop where
  ks : ∀ w ∈ Ks, 1 ≤ w.length ∧ w.length ≤ 8
  ms : ∀ w ∈ Ms, w.length ≤ 8
  few : Ms.length ≤ 3
theorem head_small {Ks Ms : List W} (S : Short Ks Ms) {k : W} {ms : List W} (hk : k ∈ Ks) (hm : ms.Sublist Ms) : 1 ≤ (headL k (srt ms)).length ∧ (headL k (srt ms)).length ≤ 35 ∧ (srt ms).length ≤ 3 ∧ ((srt ms).map fun m => 46 :: m).flatten.length ≤ 27 := by
  have p := srt_perm ms
  have l1 : (srt ms).length ≤ 3 := by
    rw [p.length_eq]
    exact Nat.le_trans hm.length_le S.few
  have l2 := flat_le (srt ms) fun w hw => S.ms w (hm.subset (p.subset hw))
  have l3 := head_len k (srt ms)
  obtain ⟨k1, k2⟩ := S.ks k hk
  have l4 : (headL k (srt ms)).length = k.length + ((srt ms).map fun m => 46 :: m).flatten.length := by
    unfold headL
    rw [List.length_append]
  rw [List.flatten_cons, List.length_append] at l3
  omega
def bnd : Nat → Nat
  | 0 => 35
  | d + 1 => 40 + 3 * (bnd d + 1)
theorem joinL_len (y : W) (b : Nat) (hy : y.length ≤ 1) : ∀ l : List W, (∀ w ∈ l, w.length ≤ b) → (joinL y l).length ≤ l.length * (b + 1)
  | [], _ => Nat.zero_le _
  | [w], h => by
    have := h w (List.mem_cons_self ..)
    show w.length ≤ _
    simp
    omega
  | w :: v :: l, h => by
    have h1 := h w (List.mem_cons_self ..)
    have h2 := joinL_len y b hy (v :: l) fun x hx => h x (List.mem_cons_of_mem _ hx)
    show (w ++ (y ++ joinL y (v :: l))).length ≤ _
    rw [List.length_append, List.length_append, List.length_cons, Nat.succ_mul]
    omega
theorem txt_len {Ks Ms : List W} (S : Short Ks Ms) : ∀ (d : Nat) (t : Tr), t.fits Ks Ms d → (txt t).length ≤ bnd d ∧ 1 ≤ (txt t).length
  | d, .nd k ms ks, h => by
    rw [Tr.fits] at h
    obtain ⟨hk, hm, h3, h0, hf⟩ := h
    obtain ⟨l0, l1, l2, _⟩ := head_small S hk hm
    rw [txt_nd, List.length_append]
    by_cases c : ks.toL = []
    · rw [if_pos c]
      refine ⟨?_, by omega⟩
      cases d with
      | zero => exact l1
      | succ d =>
        show _ + 0 ≤ 40 + _
        omega
    · cases d with
      | zero =>
        rw [h0 rfl] at c
        exact absurd rfl c
      | succ d =>
        have q := joinL_len [44] (bnd d) (Nat.le_refl _) (ks.toL.map txt) (fun w hw => by
          obtain ⟨t, ht, rfl⟩ := List.mem_map.mp hw
          exact (txt_len S d t (fits_to hf t ht)).1)
        rw [List.length_map, toL_len] at q
        rw [if_neg c, List.length_cons, List.length_append]
        have : ks.len * (bnd d + 1) ≤ 3 * (bnd d + 1) := Nat.mul_le_mul_right _ h3
        refine ⟨?_, by omega⟩
        show _ + (_ + 1 + 1) ≤ 40 + 3 * (bnd d + 1)
        omega
theorem bnd_le : ∀ d, d ≤ 4 → bnd d ≤ 5000 := by decide
theorem joinL_ne (y x : W) (hx : 1 ≤ x.length) (l : List W) : joinL y (x :: l) ≠ [] := fun z => by
  cases l with
  | nil =>
    have : x = [] := z
    rw [this] at hx
    exact absurd hx (by decide)
  | cons v l =>
    have : x ++ (y ++ joinL y (v :: l)) = [] := z
    rw [(List.append_eq_nil_iff.mp this).1] at hx
    exact absurd hx (by decide)
theorem prd_get {α β : Type} {F : α → β → Prop} : ∀ {us : List α} {rs : List β}, Paired F us rs → ∀ {i : Nat} {x : α}, us[i]? = some x → ∃ r, rs[i]? = some r ∧ F x r
  | _, _, .cons r _, 0, x, h => by
    injection h with h
    exact ⟨_, rfl, h ▸ r⟩
  | _, _, .cons _ t, i + 1, x, h => prd_get t (i := i) h
  | _, _, .nil, i, x, h => by simp at h
theorem sum_le (l : List W) (h : ∀ w ∈ l, w.length ≤ 5000) : l.flatten.length ≤ 5000 * l.length := by
  induction l with
  | nil => exact Nat.le_refl _
  | cons w l ih =>
    have h1 := h w (List.mem_cons_self ..)
    have h2 := ih fun x hx => h x (List.mem_cons_of_mem _ hx)
    rw [List.flatten_cons, List.length_append, List.length_cons]
    omega
abbrev sLText : Stmt := top 26
def spLText (Ks Ms : List W) (d : Nat) : Sp := fun vs H Q _ => ∃ (v : V) (t : Tr) (N : Addr → Prop), vs = [v] ∧ NodeAt N H v t ∧ t.fits Ks Ms d ∧ ∀ H', Same H H' → Q (sv (txt t)) H'
section
variable {P : Program} {w : World} {K : PySem.W.Frag} {mg : Str → Option Value} {base : Heap}
theorem scLText : FnScope ["_law_node_here", "_law_head_here", "_law_inner", "_law_mark", "_law_child"] ["_law_node_here"] (defScope sLText) := ⟨rfl, rfl, rfl, by decide +kernel, rfl, by decide +kernel, by decide +kernel⟩
theorem ltext_step {f : Addr} {fd : FuncData} {Ks Ms : List W} {d : Nat} {spR : Sp} (F : Fun K "_law_text" "_law_text" sLText f fd) (T : Txt mg) (S : Short Ks Ms) (hd4 : d ≤ 4)
    (mN : mg "_law_text" = some (.ref f)) (kN : PySem.W.keepIn K (.ref f) = true) (bN : Binds K fd ["_law_node_here"] [])
    (G : FnOk P w K mg base CX0 (d + 1) f fd ["_law_node_here"] spR) (hR : d ≠ 0 → spR = spLText Ks Ms (d - 1)) : FnOk P w K mg base CX0 (d + 2) f fd ["_law_node_here"] (spLText Ks Ms d) := by
  refine F.ok scLText (fun vs H Q E h => ?_) (fun cdv A outer s H vs Q E hr h => ?_)
  · obtain ⟨_, _, _, rfl, _⟩ := h
    rfl
  · obtain ⟨v, t, N, rfl, nd, ft, fin⟩ := h
    refine ⟨_, pss_cons (ps_set (i := 1) scLText.nd rfl (Or.inl rfl) (pe_op op_add_str (pe_ix ix_list (pv 0) pe_int (fun _ _ => rfl)) (pe_join pe_str (pe_lc (own := [("_law_mark", 3)]) (g := gName 3) (tt := tYes) rfl scLText.nd
          (pi_list (pe_callB cr_sortedS (by rfl) T.sorted PyProof.Rows.boot_sorted (pa_cons (pe_ix ix_list (pv 0) pe_int (fun _ _ => rfl)) pa_nil)))
          (blkOk_by (N := ["_law_node_here", "_law_head_here", "_law_inner", "_law_mark", "_law_child"]) (sc := defScope sLText) (by decide +kernel)) (fun _ _ _ _ _ => pg_name (i := 3) scLText.nd rfl (Or.inl rfl)) (fun _ _ _ _ _ => pts_nil)
          (fun _ _ _ _ _ => pe_op op_add_str pe_str (pv 3))))))
      (pss_cons (ps_set (i := 2) scLText.nd rfl (Or.inl rfl) (pe_join pe_str (pe_lc (own := [("_law_child", 4)]) (g := gName 4) (tt := tYes) rfl scLText.nd (pi_list (pe_ix ix_list (pv 0) pe_int (fun _ _ => rfl)))
          (blkOk_by (N := ["_law_node_here", "_law_head_here", "_law_inner", "_law_mark", "_law_child"]) (sc := defScope sLText) (by decide +kernel)) (fun _ _ _ _ _ => pg_name (i := 4) scLText.nd rfl (Or.inl rfl)) (fun _ _ _ _ _ => pts_nil)
          (fun _ _ _ _ _ => pe_call G hr (by rfl) mN kN bN .nil pass0 (pa_cons (pv 4) pa_nil)))))
      (pss_one (ps_ret (pe_ifExp (pt_cmpR op_ne (pv 2) pe_str rfl) (pe_op op_add_str (pe_op op_add_str (pe_op op_add_str (pv 1) pe_str) (pv 2)) pe_str) (pv 1))))), ?_⟩
    have B := big
    cases t with
    | nd k ms ks =>
    rw [NodeAt] at nd
    obtain ⟨a, m, b, us, rfl, na, nm, nb, h1, h2, h3, h4⟩ := nd
    rw [Tr.fits] at ft
    obtain ⟨hk, hm, l3, h0, hf⟩ := ft
    obtain ⟨t0, t1, t2, t3⟩ := head_small S hk hm
    have pr := nodes_to h4
    have dot : ("." : Str) = toS [46] := by decide +kernel
    have com : ("," : Str) = toS [44] := by decide +kernel
    have emp : ("" : Str) = toS [] := by decide +kernel
    have few : ms.length ≤ 3 := Nat.le_trans hm.length_le S.few
    refine ⟨_, rfl, a, _, 0, _, rfl, rfl, SqL.of h1, atI_nat (j := 0) rfl, ⟨"", rfl⟩, _, rfl, a, _, 1, _, rfl, rfl, SqL.of h1, atI_nat (j := 1) rfl, m, ms.map toS, rfl, SqL.of (by rw [h2, List.map_map]; rfl), by rw [List.length_map]; omega, fun ys sa pe so hsa => ?_⟩
    have es : (ys.map V.str) = (srt ms).map sv := by
      have q := srt_eq (pe.map tl) (rises_of so)
      rw [List.map_map, show (tl ∘ toS) = id from rfl, List.map_id] at q
      rw [q, List.map_map]
      refine List.map_congr_left fun y _ => ?_
      show V.str y = V.str (toS (tl y))
      rw [toS_tl]
    rw [es]
    generalize g1 : upd H sa _ = H1
    have s1 : Same H H1 := g1 ▸ same_new hsa
    have m1 : H1 sa = some (.lst ((srt ms).map sv)) := g1 ▸ upd_same
    refine ⟨sa, rfl, ⟨_, SqL.of m1⟩, fun D hD => lc_it (walk_list (K := K) (a := sa) (xs := (srt ms).map sv)) (fun i H' => Same H1 H' ∧ H' D = some (.lst (((srt ms).take i).map fun w => sv (46 :: w))))
      ⟨same_new hD, upd_same⟩ (fun i H' _ ⟨s, _⟩ => SqL.of (s _ _ m1)) ?_ ?_⟩
    · rintro i x H2 H3 hi ⟨s2, m2⟩ ⟨rfl, hx⟩
      rw [List.length_map] at hi
      rw [List.getElem?_map] at hx
      obtain ⟨u, hu, rfl⟩ := Option.map_eq_some_iff.mp hx
      refine ⟨rfl, ?_⟩
      unfold tYes
      have ul : u.length ≤ 8 := S.ms u (hm.subset ((srt_perm ms).subset (List.mem_of_getElem? hu)))
      refine iteT ⟨_, rfl, _, _, rfl, rfl, ?_, _, m2, ?_, same_put s2 hD, ?_⟩
      · rw [toS_len]
        show 1 + _ ≤ _
        omega
      · rw [List.length_map, List.length_take]
        omega
      · rw [upd_same, List.take_succ, hu, List.map_append, dot, toS_app]
        rfl
    rintro H2 ⟨s2, m2⟩
    rw [List.length_map, List.take_length] at m2
    have s12 := s1.trans s2
    refine ⟨"", D, ((srt ms).map fun w => 46 :: w).map toS, rfl, rfl, .inl (SqL.of (by rw [m2, List.map_map, List.map_map]; rfl)), ?_, _, _, rfl, rfl, ?_, ?_⟩
    · rw [sum_len]
      show _ + _ * 0 ≤ _
      omega
    · rw [emp, join_text, join_nil, toS_len, toS_len]
      have := (S.ks k hk).2
      omega
    rw [emp, join_text, join_nil, toS_app, show k ++ ((srt ms).map fun w => 46 :: w).flatten = headL k (srt ms) from rfl]
    have tn := txt_nd k ms ks
    generalize headL k (srt ms) = hd at t0 t1 tn ⊢
    -- the children
    refine ⟨⟨",", rfl⟩, _, rfl, a, _, 2, _, rfl, rfl, SqL.of (s12 _ _ h1), atI_nat (j := 2) rfl, b, rfl, ⟨_, SqL.of (s12 _ _ h3)⟩, fun D2 hD2 => lc_it (walk_list (K := K) (a := b) (xs := us)) (fun i H' => Same H2 H' ∧ H' D2 = some (.lst ((ks.toL.take i).map fun t => sv (txt t))))
      ⟨same_new hD2, upd_same⟩ (fun i H' _ ⟨s, _⟩ => SqL.of (s _ _ (s12 _ _ h3))) ?_ ?_⟩
    · rintro i x H3 H4 hi ⟨s3, m3⟩ ⟨rfl, hx⟩
      obtain ⟨t, ht, nt⟩ := prd_get pr hx
      have mt := List.mem_of_getElem? ht
      have d0 : d ≠ 0 := fun z => by
        rw [h0 z] at mt
        cases mt
      refine ⟨rfl, ?_⟩
      unfold tYes
      rw [hR d0]
      have s13 := s12.trans s3
      refine iteT ⟨_, rfl, x, t, N, rfl, NodeAt.move (fun _ h => h) (fun c u _ e => s13 _ _ e) t x nt, fits_to hf t mt, fun H5 s5 => ⟨_, s5 _ _ m3, ?_, same_put (s3.trans s5) hD2, ?_⟩⟩
      · rw [List.length_map, List.length_take]
        have := pr.length
        have := toL_len ks
        omega
      · rw [upd_same, List.take_succ, ht, List.map_append]
        rfl
    rintro H3 ⟨s3, m3⟩
    rw [pr.length, List.take_length] at m3
    have kl := toL_len ks
    have tb : ∀ w ∈ ks.toL.map txt, w.length ≤ 5000 ∧ 1 ≤ w.length := fun w hw => by
      obtain ⟨t, ht, rfl⟩ := List.mem_map.mp hw
      obtain ⟨q1, q2⟩ := txt_len S (d - 1) t (fits_to hf t ht)
      exact ⟨Nat.le_trans q1 (bnd_le (d - 1) (by omega)), q2⟩
    have jl := joinL_len [44] 5000 (Nat.le_refl _) (ks.toL.map txt) fun w hw => (tb w hw).1
    rw [List.length_map] at jl
    have sl := sum_le (ks.toL.map txt) fun w hw => (tb w hw).1
    rw [List.length_map] at sl
    refine ⟨",", D2, (ks.toL.map txt).map toS, rfl, rfl, .inl (SqL.of (by rw [m3, List.map_map, List.map_map]; rfl)), ?_, ?_⟩
    · rw [sum_len, List.length_map, List.length_map]
      show _ + _ * 1 ≤ _
      omega
    rw [com, join_text]
    have te : (!decide (V.str (toS (joinL [44] (ks.toL.map txt))) = V.str "")) = !decide (joinL [44] (ks.toL.map txt) = []) := by
      rw [emp]
      exact congrArg not (sv_is _ _)
    refine ⟨_, rfl, rfl, _, congrArg V.bl te, ?_⟩
    have opn : ("(" : Str) = toS [40] := by decide +kernel
    have sht : (")" : Str) = toS [41] := by decide +kernel
    have ll : (joinL [44] (ks.toL.map txt)).length ≤ 15003 := by
      rw [kl] at jl
      have : ks.len * (5000 + 1) ≤ 3 * (5000 + 1) := Nat.mul_le_mul_right _ l3
      omega
    by_cases c : ks.toL = []
    · have jz : joinL [44] (ks.toL.map txt) = [] := by
        rw [c]
        rfl
      rw [decide_eq_true jz]
      refine iteF ⟨_, rfl, ?_⟩
      rw [tn, if_pos c, List.append_nil] at fin
      exact fin _ (s12.trans s3)
    · have ne : joinL [44] (ks.toL.map txt) ≠ [] := by
        cases e : ks.toL with
        | nil => exact absurd e c
        | cons t ts =>
          rw [List.map_cons]
          exact joinL_ne _ _ (tb _ (by rw [e, List.map_cons]; exact List.mem_cons_self ..)).2 _
      rw [decide_eq_false ne]
      refine iteT ⟨_, rfl, _, _, rfl, rfl, ?_, _, rfl, _, _, rfl, rfl, ?_, _, _, rfl, rfl, ?_, ?_⟩
      · rw [toS_len]
        show _ + 1 ≤ _
        omega
      · rw [opn, toS_app, toS_len, toS_len, List.length_append]
        show _ + 1 + _ ≤ _
        omega
      · rw [opn, toS_app, toS_app, toS_len, List.length_append, List.length_append]
        show _ + 1 + _ + 1 ≤ _
        omega
      · rw [opn, sht, toS_app, toS_app, toS_app]
        rw [tn, if_neg c] at fin
        have e : hd ++ [40] ++ joinL [44] (ks.toL.map txt) ++ [41] = hd ++ 40 :: (joinL [44] (ks.toL.map txt) ++ [41]) := by simp
        rw [e]
        exact fin _ (s12.trans s3)
theorem ok_ltext {f : Addr} {fd : FuncData} {Ks Ms : List W} (F : Fun K "_law_text" "_law_text" sLText f fd) (T : Txt mg) (S : Short Ks Ms) (mN : mg "_law_text" = some (.ref f)) (kN : PySem.W.keepIn K (.ref f) = true) (bN : Binds K fd ["_law_node_here"] []) :
    ∀ d, d ≤ 4 → FnOk P w K mg base CX0 (d + 2) f fd ["_law_node_here"] (spLText Ks Ms d)
  | 0, h => ltext_step F T S h mN kN bN never_ok fun z => absurd rfl z
  | d + 1, h => ltext_step F T S h mN kN bN (ok_ltext F T S mN kN bN d (by omega)) fun _ => rfl
end
end K02

namespace K02
open PySem L2 DR DM TL
abbrev sParse : Stmt := top 15
abbrev sErr : Stmt := inClass (top 10) 0
/-- the class of the refused texts -/
structure ErT (P : Program) (w : World) (K : PySem.W.Frag) (mg : Str → Option Value) (base : Heap) (C : Addr) : Prop where
  oex : OexC K C
  at_ : mg "InvalidText" = some (.ref C)
  ex : ∃ fI fd, PySem.W.findIn K (.ref C) "__init__" = some (some (.ref fI)) ∧ PySem.W.typeIn K (.ref fI) = some (.type "function") ∧ FnOk P w K mg base CX0 1 fI fd ["self", "value"] (spIni C "value") ∧ Binds K fd ["self", "value"] []
theorem same_make {H H2 : Hp} {x dx C : Addr} (hx : H x = none) (hd : H dx = none) (o : Off x (upd (upd H dx (.own x)) x (.ins C dx [])) H2) : Same H H2 := fun b u e => by
  refine o b u (ne_of_none e hx) ?_
  rw [upd_ne (ne_of_none e hx), upd_ne (ne_of_none e hd)]
  exact e
theorem same_up {H : Hp} {x dx C : Addr} (hx : H x = none) (hd : H dx = none) : Same H (upd (upd H dx (.own x)) x (.ins C dx [])) := fun b u e => by
  rw [upd_ne (ne_of_none e hx), upd_ne (ne_of_none e hd)]
  exact e

section
variable {P : Program} {w : World} {K : PySem.W.Frag} {mg : Str → Option Value} {base : Heap}
theorem ok_err {f C : Addr} {fd : FuncData} (F : Fun K "__init__" "InvalidText.__init__" sErr f fd) (S : OexC K C) (no : PySem.W.findIn K (.ref C) "value" = some none) : FnOk P w K mg base CX0 1 f fd ["self", "value"] (spIni C "value") := by
  have sc : FnScope ["self", "value"] ["self", "value"] (defScope sErr) := ⟨rfl, rfl, rfl, by decide +kernel, rfl, by decide +kernel, by decide +kernel⟩
  refine F.ok sc (fun vs H Q E h => ?_) (fun cdv A outer s H vs Q E hr h => ?_)
  · obtain ⟨_, _, rfl, _⟩ := h
    rfl
  · obtain ⟨a, v, rfl, ha, fin⟩ := h
    exact ⟨_, pss_one (ps_ost (pv 0) (pv 1)), _, rfl, _, rfl, a, C, rfl, S, no, .inl ⟨ha, fin⟩⟩
/-- what is asked of a text that is read -/
def Fine (t : Str) : Prop := (tl t).length ≤ 30000 ∧ ∀ ps, cutM LD SG (tl t) = some ps → ∀ p ∈ ps, (spl [46] 0 [] p).length < 64
def spParseX (K : PySem.W.Frag) (C CT : Addr) : Sp := fun vs H Q E => ∃ v : V, vs = [v] ∧
  ((((∃ t, v = .str t ∧ Fine t ∧ (cutM LD SG (tl t)).bind (readM srt) = none) ∨ ∃ ty, TyX K H v ty ∧ PySem.W.kitOne K ty (.type "str") = some false) ∧
      ∀ d H', Same H H' → H' d = some (.xd [("value", v)]) → E (.ref CT) (some d) H') ∨
    ∃ t rs, v = .str t ∧ Fine t ∧ (cutM LD SG (tl t)).bind (readM srt) = some rs ∧ Few rs ∧ ∀ b H', Same H H' → Q (.ref b) H')
theorem scParse : FnScope ["text", "rows"] ["text"] (defScope sParse) := ⟨rfl, rfl, rfl, by decide +kernel, rfl, by decide +kernel, by decide +kernel⟩
theorem ok_parse {f C CT : Addr} {fd : FuncData} (F : Fun K "parse_document" "parse_document" sParse f fd) (T : Txt mg) (X : ErT P w K mg base CT) (D1 : Has P w K mg base 4 "read_rows" ["text"] spRows) (D2 : C8.Mak P w K mg base 2 "Document" C (spInit C) []) :
    FnOk P w K mg base (CX P w) 5 f fd ["text"] (spParseX K C CT) := by
  obtain ⟨fR, fdR, GR, mR, kR, bR⟩ := D1
  obtain ⟨uM, mM, rM⟩ := T.most
  obtain ⟨fI, fdI, iC, tI, GI, bI⟩ := X.ex
  refine F.okX scParse (fun vs H Q E h => ?_) (fun cdv A outer s H vs Q E hr h => ?_)
  · obtain ⟨_, rfl, _⟩ := h
    rfl
  · obtain ⟨v, rfl, h⟩ := h
    have hr2 : Room 2 _ := hr.mono (by decide)
    refine ⟨_, pss_cons (ps_set (i := 1) scParse.nd rfl (Or.inl rfl) pe_non)
      (pss_cons (ps_if (pt_val (pe_callB call_isi (by rfl) T.isi PyProof.Rows.boot_isinstance (pa_cons (pv 0) (pa_cons (pe_bltn (v := .ty "str") (by rfl) T.str (by decide +kernel) rfl) pa_nil)))) (pss_one (ps_set (i := 1) scParse.nd rfl (Or.inl rfl) (pe_call GR hr (by rfl) mR kR bR .nil pass0 (pa_cons (pv 0) pa_nil)))) pss_nil)
      (pss_cons (ps_if (pt_cmpR op_isN (pv 1) pe_non rfl) (pss_one (ps_raise rfl (takes_of rfl rfl rfl rfl) (pmk_oex X.oex iC tI GI hr2 bI .nil pass0 (by rfl) X.at_ (pa_cons (pv 0) pa_nil)))) pss_nil)
      (pss_cons (ps_if (pt_cmpR op_gt (pe_callB call_len_seq (by rfl) T.len PySem.boot_len (pa_cons (pv 1) pa_nil)) (pe_glob (v := .int 200) (by rfl) mM rM) rfl) (pss_one ps_never) pss_nil)
      (pss_one (ps_ret (C8.pe_mk D2 (hr.mono (by decide) : Room 3 _) (by decide) (by rfl) (pa_cons (pv 1) pa_nil))))))), ?_⟩
    have raised : ∀ {H1 : Hp}, Same H H1 → (∀ d H', Same H H' → H' d = some (.xd [("value", v)]) → E (.ref CT) (some d) H') → tMkO CT (spIni CT "value") [] (tCons (tVar 0) tNil) [some v, some .non] H1 E := fun {H1} s1 er =>
      ⟨_, rfl, by show 1 ≤ 1000; decide, fun a ha => ⟨a, v, rfl, upd_same, fun dx nd ne => by
        rw [upd_ne ne] at nd
        refine ⟨rfl, dx, _, upd_same, (upd_ne ne).trans upd_same, nd, er dx _ (fun b u e => ?_) upd_same⟩
        have e1 := s1 b u e
        have b1 : b ≠ a := ne_of_none e1 ha
        have b2 : b ≠ dx := ne_of_none e1 nd
        rw [upd_ne b2, del_ne b1, upd_ne b1, upd_ne b2, upd_ne b1, e1]⟩⟩
    refine ⟨_, rfl, ?_⟩
    rcases h with ⟨⟨t, rfl, ⟨len, small⟩, no⟩ | ⟨ty, tx, kt⟩, er⟩ | ⟨t, rs, rfl, ⟨len, small⟩, rd, few, fin⟩
    · refine ⟨.str t, _, .type "str", _, true, rfl, .ty _, .base (.str t), by rfl, true, rfl, iteT ?_⟩
      refine ⟨_, rfl, t, rfl, len, small, fun _ H1 s1 => ?_, fun rs2 p vs H1 e2 => by rw [no] at e2; cases e2⟩
      exact ⟨_, rfl, rfl, true, rfl, iteT (raised s1 er)⟩
    · refine ⟨v, _, ty, _, false, rfl, .ty _, tx, kt, false, rfl, iteF ?_⟩
      exact ⟨_, rfl, rfl, true, rfl, iteT (raised (fun _ _ e => e) er)⟩
    · refine ⟨.str t, _, .type "str", _, true, rfl, .ty _, .base (.str t), by rfl, true, rfl, iteT ?_⟩
      refine ⟨_, rfl, t, rfl, len, small, fun z => by rw [rd] at z; (cases z), fun rs2 p vs H1 e2 _ n1 s1 m1 ra => ?_⟩
      obtain rfl : rs = rs2 := by
        rw [rd] at e2
        exact Option.some.inj e2
      refine ⟨_, rfl, rfl, false, rfl, iteF ⟨_, rfl, p, vs, rfl, .inl (SqL.of m1), _, _, rfl, rfl, _, rfl, ?_⟩⟩
      rw [ra.length]
      rw [decide_eq_false (show ¬ (200 : Int) < ((rs.length : Nat) : Int) by have := few.1; omega)]
      refine iteF ⟨_, rfl, fun y dy hy hdy ne => ?_⟩
      have s4 := same_up (C := C) hy hdy
      exact ⟨y, dy, p, vs, rs, rfl, upd_same, .inr (s4 _ _ m1), ra.same s4, few, fun H4 o4 d4 => ⟨rfl, fin y _ (s1.trans (same_make hy hdy o4))⟩⟩
end
end K02

namespace DR
open PySem PySem.Spec PySem.Calls PyProof.Rows L2
/-- isinstance(e, c) of a caught exception that has a dict -/
def rIsCaught (K : PySem.W.Frag) (a : Addr) (cls : Value) (d : Option Addr) : List V → Hp → VK → Prop := fun xs H Q => ∃ (C dd : Addr) (fs : List (Str × V)) (c : V) (cv : Value) (b : Bool), xs = [.ref a, c] ∧ cls = .ref C ∧ d = some dd ∧ H dd = some (.xd fs) ∧ XIs K C ∧ ClsV c cv ∧ PySem.W.kitOne K (.ref C) cv = some b ∧ Q (.bl b) H
theorem call_isCaught {X : Cx} {a : Addr} {oe : Obj} {cls : Value} {d : Option Addr} {pn : List (Addr × Obj)} (hz : Zc cls d oe) (hf : ∃ vs, oe.data = .fields vs) : CallR (X.suite a ((a, oe) :: pn)) (.builtin "isinstance") (rIsCaught X.K a cls d) := by
  intro pins s σ H xs us Q I r h
  obtain ⟨C, dd, fs, c, cv, b, rfl, rfl, rfl, ea, T, kc, e, q⟩ := h
  obtain ⟨u1, u2, rfl, r1, r2⟩ := vals2 r
  obtain rfl : u1 = Value.ref a := r1
  obtain rfl := kc.eq r2
  obtain ⟨ha, _⟩ := I.pin (a, oe) (List.mem_append_left _ List.mem_cons_self)
  obtain ⟨vs, hd⟩ := hf
  have hx : ObjOk X.prog X.w H s.heap dd (.xd fs) := I.hok dd _ ea
  obtain ⟨mA, hns, hr⟩ := hx
  obtain ⟨od, ho, hl⟩ := lookIn_ns hns
  have J : PySem.W.InstAt s.heap a oe C (some od) := ⟨ha, hz.1, by unfold PySem.W.notCls; rw [hd] <;> rfl, by rw [hz.2]; exact ho⟩
  exact PySem.W.kia_one (PySem.W.kitx_exc T.cl T.ga T.gg T.sb T.ca T.cg T.tk T.ob) I.kIn J e (fun z => nomatch z) fun tk => ⟨.bl b, H, I.tok tk, rfl, q⟩
theorem call_reprS {X : Cx} {a : Addr} {pn : List (Addr × Obj)} (hi : Idle X.A) (hu : X.A.units + 64 < cLine) : CallR (X.suite a pn) (.builtin "repr") (rRepr X.K) := call_repr (X := X.suite a pn) hi hu
end DR
namespace K02
open PySem L2 DR DM TL
abbrev sSaid : Stmt := top 32
/-- more of what the top leaves -/
structure Txt2 (K : PySem.W.Frag) (mg : Str → Option Value) (CT CS : Addr) : Prop where
  repr : mg "repr" = none
  cs : mg "StyleError" = some (.ref CS)
  isi : XIs K CT
  no : PySem.W.findIn K (.ref CT) "value" = some none
  sub : PySem.W.kitOne K (.ref CT) (.ref CS) = some true
  exm : PySem.W.exmOne K (.ref CT) (.ref CT) = some true
def spSaid (K : PySem.W.Frag) : Sp := fun vs H Q _ => ∃ v : V, vs = [v] ∧
  ((((∃ t, v = .str t ∧ Fine t ∧ (cutM LD SG (tl t)).bind (readM srt) = none) ∨ ∃ ty, TyX K H v ty ∧ PySem.W.kitOne K ty (.type "str") = some false) ∧
      ∃ d, DpE K H v d ∧ d.showable = true ∧ d.shown.length ≤ sizeLine ∧ d.depth ≤ 40 ∧ ∀ p H', H p = none → Same H H' → H' p = some (.lst [.str d.shown, .bl true]) → Q (.ref p) H') ∨
    ∃ t rs, v = .str t ∧ Fine t ∧ (cutM LD SG (tl t)).bind (readM srt) = some rs ∧ Few rs ∧ ∀ p H', H p = none → Same H H' → H' p = some (.lst []) → Q (.ref p) H')
section
variable {P : Program} {w : World} {K : PySem.W.Frag} {mg : Str → Option Value} {base : Heap}
theorem scSaid : FnScope ["_law_value", "e"] ["_law_value"] (defScope sSaid) := ⟨rfl, rfl, rfl, by decide +kernel, rfl, by decide +kernel, by decide +kernel⟩
theorem ok_said {f C CT CS fP : Addr} {fd fdP : FuncData} (F : Fun K "_law_said" "_law_said" sSaid f fd) (T : Txt mg) (U : Txt2 K mg CT CS) (X : ErT P w K mg base CT)
    (GP : FnOk P w K mg base (CX P w) 5 fP fdP ["text"] (spParseX K C CT)) (mP : mg "parse_document" = some (.ref fP)) (kP : PySem.W.keepIn K (.ref fP) = true) (bP : Binds K fdP ["text"] []) :
    FnI P w K mg base CX0 6 f fd ["_law_value"] (spSaid K) := by
  refine fnI_of F scSaid (fun vs H Q E h => ?_) (fun cdv A outer s H vs Q E hi hr h => ?_)
  · obtain ⟨_, rfl, _⟩ := h
    rfl
  · obtain ⟨v, rfl, h⟩ := h
    have hu : (A.deeper (PyProof.Rows.envOfC "_law_said" (defScope sSaid) s.heap.objs.size f cdv)).units + 64 < cLine := by
      have := hr.un
      omega
    refine ⟨_, pss_cons (ps_try_as (i := 1) rfl rfl scSaid.nd rfl rfl ⟨rfl, by decide, .inl X.at_⟩ takes0
        (fun W pn xe tk _ => pss_one (ps_expr (pe_callS GP hr rfl mP kP bP (fun σ => passAt tk σ) (pa_cons (pv 0) pa_nil))))
        (fun a oe cls d pn hz hf => pss_one (ps_ret (pe_lst (pa_cons (pe_callB (call_reprS hi hu) (by rfl) U.repr PyProof.Rows.boot_repr (pa_cons (pe_xf ⟨U.isi.ga, U.isi.gg, U.isi.sb, U.isi.hd⟩ U.no hz hf (pv 1)) pa_nil))
          (pa_cons (pe_callB (call_isCaught hz hf) (by rfl) T.isi PyProof.Rows.boot_isinstance (pa_cons (pv 1) (pa_cons (pe_glob (v := .ref CS) (by rfl) U.cs rfl) pa_nil))) pa_nil))))))
      (pss_one (ps_ret (pe_lst pa_nil))), ?_⟩
    rcases h with ⟨bad, d, dv, sh, sz, dp, fin⟩ | ⟨t, rs, rfl, fi, rd, few, fin⟩
    · refine ⟨_, rfl, v, rfl, .inl ⟨bad, fun dx H1 s1 m1 => ⟨true, U.exm, fun _ a ha => ?_, fun z => nomatch z⟩⟩⟩
      refine ⟨_, rfl, rfl, rfl, dx, _, _, rfl, m1, by simp [List.lookup], v, d, rfl, dv.same s1, sh, sz, dp, _, rfl, _, dx, _, _, _, true, rfl, rfl, rfl, m1, U.isi, .own CS, U.sub, ?_⟩
      exact ⟨by show 2 ≤ sizeLine; decide, fun p hp => fin p _ (s1.free hp) (s1.trans (same_new hp)) upd_same⟩
    · refine ⟨_, rfl, _, rfl, .inr ⟨t, rs, rfl, fi, rd, few, fun b H1 s1 => ?_⟩⟩
      exact ⟨by show 0 ≤ sizeLine; decide, fun p hp => fin p _ (s1.free hp) (s1.trans (same_new hp)) upd_same⟩
end
end K02

namespace K02
open PySem L2 DR DM TL
abbrev sWord : Stmt := top 29
abbrev sLHead : Stmt := top 30
theorem isName_run {u : W} : isName (runL u) = true ↔ 1 ≤ (runL u).length ∧ (runL u).length ≤ 8 := by
  unfold isName
  simp only [Bool.and_eq_true, decide_eq_true_eq, List.all_eq_true]
  exact ⟨fun h => h.1, fun h => ⟨h, runL_let u⟩⟩
theorem run_no {u : W} (h : ∀ c r, u = c :: r → c ∉ lets) : runL u = [] := by
  cases u with
  | nil => rfl
  | cons c r => exact List.takeWhile_cons_of_neg (by unfold isL; simp [h c r rfl])
theorem run_yes {c : Nat} {r : W} (h : c ∈ lets) : runL (c :: r) = c :: runL r := List.takeWhile_cons_of_pos (decide_eq_true h)
theorem drop_at {u : W} {i : Nat} (h : i < u.length) : ∃ c, u[i]? = some c ∧ u.drop i = c :: u.drop (i + 1) := ⟨u[i], List.getElem?_eq_getElem h, List.drop_eq_getElem_cons h⟩
theorem run_len (u : W) : (runL u).length ≤ u.length := (List.takeWhile_prefix _).length_le
def spWord : Sp := fun vs H Q _ => ∃ (t : Str) (i : Nat), vs = [.str t, nv i] ∧ (tl t).length ≤ 30000 ∧ i ≤ (tl t).length ∧
  (isName (runL ((tl t).drop i)) = true → Q (nv (i + (runL ((tl t).drop i)).length)) H) ∧ (isName (runL ((tl t).drop i)) = false → Q .non H)
section
variable {P : Program} {w : World} {K : PySem.W.Frag} {mg : Str → Option Value} {base : Heap}
theorem scWord : FnScope ["_law_text_here", "_law_at_here", "_law_end"] ["_law_text_here", "_law_at_here"] (defScope sWord) := ⟨rfl, rfl, rfl, by decide +kernel, rfl, by decide +kernel, by decide +kernel⟩
theorem ok_word {f : Addr} {fd : FuncData} (F : Fun K "_law_word" "_law_word" sWord f fd) (T : Txt mg) : FnOk P w K mg base CX0 1 f fd ["_law_text_here", "_law_at_here"] spWord := by
  refine F.ok scWord (fun vs H Q E h => ?_) (fun cdv A outer s H vs Q E hr h => ?_)
  · obtain ⟨_, _, rfl, _⟩ := h
    rfl
  · obtain ⟨t, i, rfl, len, il, yes, no⟩ := h
    refine ⟨_, pss_cons (ps_set (i := 2) scWord.nd rfl (Or.inl rfl) (pv 1))
      (pss_cons (ps_while PassesOwn.never (PW.pt (pw_and (pt_cmpR op_lt (pv 2) (pe_callB call_len_str (by rfl) T.len PySem.boot_len (pa_cons (pv 0) pa_nil)) rfl)
          (pw_and1 (pt_cmpR op_in_sign (pe_ix ix_str (pv 0) (pv 2) (fun _ _ => rfl)) pe_str rfl))))
        (pss_one (ps_set (i := 2) scWord.nd rfl (Or.inl rfl) (pe_op op_add (pv 2) pe_int))))
      (pss_one (ps_ret (pe_ifExp (pt_chain op_le op_le pe_int (pe_op op_sub (pv 2) (pv 1)) pe_int) (pv 2) pe_non)))), ?_⟩
    have B := big
    have tlen : t.length = (tl t).length := len_tl t
    have fin : ∀ e : Nat, i + (runL ((tl t).drop i)).length = e → ((1 : Int) ≤ ((e : Nat) : Int) - ((i : Nat) : Int) ∧ ((e : Nat) : Int) - ((i : Nat) : Int) ≤ 8 ∧ Q (nv e) H) ∨
        ((1 : Int) ≤ ((e : Nat) : Int) - ((i : Nat) : Int) ∧ ¬ ((e : Nat) : Int) - ((i : Nat) : Int) ≤ 8 ∧ Q .non H) ∨ (¬ (1 : Int) ≤ ((e : Nat) : Int) - ((i : Nat) : Int) ∧ Q .non H) := fun e he => by
      by_cases c : isName (runL ((tl t).drop i)) = true
      · have c' := isName_run.mp c
        refine .inl ⟨by omega, by omega, ?_⟩
        rw [← he]
        exact yes c
      · have c1 : isName (runL ((tl t).drop i)) = false := by simpa using c
        have n : ¬ (1 ≤ (runL ((tl t).drop i)).length ∧ (runL ((tl t).drop i)).length ≤ 8) := fun z => c (isName_run.mpr z)
        by_cases c2 : (1 : Int) ≤ ((e : Nat) : Int) - ((i : Nat) : Int)
        · exact .inr (.inl ⟨c2, by omega, no c1⟩)
        · exact .inr (.inr ⟨c2, no c1⟩)
    refine ⟨_, rfl, fun m σ H' => ∃ e : Nat, σ = [some (.str t), some (nv i), some (nv e)] ∧ H = H' ∧ m + e = (tl t).length ∧ i + (runL ((tl t).drop i)).length = e + (runL ((tl t).drop e)).length, ⟨(tl t).length - i, i, rfl, rfl, by omega, rfl⟩, ?_⟩
    rintro m σ H' ⟨e, rfl, rfl, em, re⟩
    refine ⟨_, rfl, _, rfl, t, rfl, by omega, _, _, rfl, rfl, _, rfl, ?_⟩
    rw [tlen]
    have out : runL ((tl t).drop e) = [] → i + (runL ((tl t).drop i)).length = e := fun z => by
      rw [re, z]
      rfl
    by_cases c1 : e < (tl t).length
    · rw [decide_eq_true (show ((e : Nat) : Int) < (((tl t).length : Nat) : Int) by omega)]
      obtain ⟨c, hc, dc⟩ := drop_at c1
      refine iteT ⟨_, rfl, _, rfl, t, _, c, rfl, rfl, by omega, atI_nat (by simpa using hc), c, _, rfl, rfl, _, rfl, ?_⟩
      have el : (Str.ofString "abcdefghijklmnopqrstuvwxyz").cps.toList = lets := by decide +kernel
      rw [el]
      by_cases c2 : c ∈ lets
      · rw [decide_eq_true c2]
        refine iteT ⟨fun σ H' => ∃ e', σ = [some (.str t), some (nv i), some (nv e')] ∧ H = H' ∧ e' = e + 1, ?_, ⟨_, rfl, _, _, rfl, rfl, e + 1, rfl, rfl, rfl⟩⟩
        rintro σ' H'' ⟨_, rfl, rfl, rfl⟩
        refine ⟨m - 1, by omega, e + 1, rfl, rfl, by omega, ?_⟩
        rw [re, dc, run_yes c2, List.length_cons]
        omega
      · rw [decide_eq_false c2]
        have := out (run_no fun c' r' z => by
          rw [dc] at z
          injection z with z1
          exact z1 ▸ c2)
        refine iteF ⟨_, rfl, _, rfl, _, _, rfl, rfl, _, _, rfl, rfl, _, rfl, ?_⟩
        rcases fin e this with ⟨d1, d2, q⟩ | ⟨d1, d2, q⟩ | ⟨d1, q⟩
        · rw [decide_eq_true d1]
          refine iteT ⟨_, _, rfl, rfl, _, rfl, ?_⟩
          rw [decide_eq_true d2]
          exact iteT ⟨_, rfl, q⟩
        · rw [decide_eq_true d1]
          refine iteT ⟨_, _, rfl, rfl, _, rfl, ?_⟩
          rw [decide_eq_false d2]
          exact iteF q
        · rw [decide_eq_false d1]
          exact iteF ⟨_, rfl, iteF q⟩
    · rw [decide_eq_false (show ¬ ((e : Nat) : Int) < (((tl t).length : Nat) : Int) by omega)]
      have := out (run_no fun c' r' z => by
        rw [List.drop_of_length_le (by omega)] at z
        cases z)
      refine iteF (iteF ⟨_, rfl, _, rfl, _, _, rfl, rfl, _, _, rfl, rfl, _, rfl, ?_⟩)
      rcases fin e this with ⟨d1, d2, q⟩ | ⟨d1, d2, q⟩ | ⟨d1, q⟩
      · rw [decide_eq_true d1]
        refine iteT ⟨_, _, rfl, rfl, _, rfl, ?_⟩
        rw [decide_eq_true d2]
        exact iteT ⟨_, rfl, q⟩
      · rw [decide_eq_true d1]
        refine iteT ⟨_, _, rfl, rfl, _, rfl, ?_⟩
        rw [decide_eq_false d2]
        exact iteF q
      · rw [decide_eq_false d1]
        exact iteF ⟨_, rfl, iteF q⟩
end
end K02

namespace K02
open PySem L2 DR DM TL
theorem cut_tl (t : Str) {i : Nat} (j : Nat) (h : i ≤ (tl t).length) : cutS t (some (i : Int)) (some (j : Int)) = toS (((tl t).drop i).take (j - i)) := by
  refine ext_tl ?_
  show (((t.cps.toList.drop (HT.sIx t.length 0 (some (i : Int)))).take (HT.sIx t.length t.length (some (j : Int)) - HT.sIx t.length 0 (some (i : Int)))).toArray).toList = ((tl t).drop i).take (j - i)
  rw [HT.sIx_nat, HT.sIx_nat, len_tl t, Nat.min_eq_left h]
  show ((tl t).drop i).take (min j (tl t).length - i) = _
  by_cases c : j ≤ (tl t).length
  · rw [Nat.min_eq_left c]
  · rw [Nat.min_eq_right (by omega), List.take_of_length_le (by rw [List.length_drop]; exact Nat.le_refl _), List.take_of_length_le (by rw [List.length_drop]; omega)]
theorem in_svs (x : W) (xs : List W) : inV (sv x) (xs.map sv) = decide (x ∈ xs) := by
  unfold inV
  rw [List.any_map]
  by_cases h : x ∈ xs
  · rw [decide_eq_true h, List.any_eq_true]
    exact ⟨x, h, by show eqV (sv x) (sv x) = true; rw [eqV_sv, decide_eq_true rfl]⟩
  · rw [decide_eq_false h, List.any_eq_false]
    intro y hy
    show ¬ eqV (sv y) (sv x) = true
    rw [eqV_sv, decide_eq_false (fun z : y = x => h (z ▸ hy))]
    decide
theorem flat_svs (xs : List W) : (xs.map sv).all flatV = true := by
  rw [List.all_map, List.all_eq_true]
  intro _ _
  rfl
def spLHead : Sp := fun vs H Q _ => ∃ (t : Str) (i : Nat) (x : Option W), vs = [.str t, nv i] ∧ (tl t).length ≤ 30000 ∧ i ≤ (tl t).length ∧ Hd ((tl t).drop i) x ∧
  (x = none → ∀ H', Same H H' → Q .non H') ∧ ∀ j, j ≤ (tl t).length → x = some ((tl t).drop j) → ∀ H', Same H H' → Q (nv j) H'
section
variable {P : Program} {w : World} {K : PySem.W.Frag} {mg : Str → Option Value} {base : Heap}
theorem scLHead : FnScope ["_law_text_here", "_law_at_here", "_law_marks", "_law_end"] ["_law_text_here", "_law_at_here"] (defScope sLHead) := ⟨rfl, rfl, rfl, by decide +kernel, rfl, by decide +kernel, by decide +kernel⟩
theorem ok_lhead {f : Addr} {fd : FuncData} (F : Fun K "_law_head" "_law_head" sLHead f fd) (T : Txt mg) (D1 : Has P w K mg base 1 "_law_word" ["_law_text_here", "_law_at_here"] spWord) :
    FnOk P w K mg base CX0 2 f fd ["_law_text_here", "_law_at_here"] spLHead := by
  obtain ⟨fW, fdW, GW, mW, kW, bW⟩ := D1
  refine F.ok scLHead (fun vs H Q E h => ?_) (fun cdv A outer s H vs Q E hr h => ?_)
  · obtain ⟨_, _, _, rfl, _⟩ := h
    rfl
  · obtain ⟨t, i, x, rfl, len, il, hd, no, yes⟩ := h
    refine ⟨_, pss_cons (ps_par (i := 1) (j := 2) (by rfl) scLHead.nd rfl rfl (by decide) rfl rfl (pa_cons (pe_call GW hr (by rfl) mW kW bW .nil pass0 (pa_cons (pv 0) (pa_cons (pv 1) pa_nil))) (pa_cons (pe_lst pa_nil) pa_nil)) (by rfl))
      (pss_cons (ps_while PassesOwn.never (PW.pt (pw_and (pt_cmp (pc_notN (pv 1)) rfl) (pw_and1 (pt_cmpR op_eq (pe_slice sl_str (pv 0) (po_some (pv 1)) (po_some (pe_op op_add (pv 1) pe_int))) pe_str rfl))))
        (pss_cons (ps_set (i := 3) scLHead.nd rfl (Or.inl rfl) (pe_call GW hr (by rfl) mW kW bW .nil pass0 (pa_cons (pv 0) (pa_cons (pe_op op_add (pv 1) pe_int) pa_nil))))
        (pss_cons (ps_if (PW.pt (pw_or (pt_cmpR op_isN (pv 3) pe_non rfl) (pw_or1 (pt_cmpR op_in_seq (pe_slice sl_str (pv 0) (po_some (pe_op op_add (pv 1) pe_int)) (po_some (pv 3))) (pv 2) rfl)))) (pss_one (ps_ret pe_non)) pss_nil)
        (pss_cons (append_rule (pv 2) (pa_cons (pe_slice sl_str (pv 0) (po_some (pe_op op_add (pv 1) pe_int)) (po_some (pv 3))) pa_nil))
        (pss_one (ps_set (i := 1) scLHead.nd rfl (Or.inl rfl) (pv 3)))))))
      (pss_one (ps_ret (pv 1)))), ?_⟩
    have B := big
    have tlen : t.length = (tl t).length := len_tl t
    refine ⟨_, rfl, _, rfl, t, i, rfl, len, il, fun z => ⟨by show 0 ≤ sizeLine; decide, fun mk hmk => ?_⟩, fun z => ⟨by show 0 ≤ sizeLine; decide, fun mk hmk => ?_⟩⟩
    · have mm0 : Mk [] ((tl t).drop (i + (runL ((tl t).drop i)).length)) x := by
        cases hd with
        | bad h =>
          rw [h] at z
          cases z
        | more h m =>
          rw [List.drop_drop] at m
          exact m
      have j0 : i + (runL ((tl t).drop i)).length ≤ (tl t).length := by
        have := run_len ((tl t).drop i)
        rw [List.length_drop] at this
        omega
      generalize i + (runL ((tl t).drop i)).length = j1 at mm0 j0 ⊢
      refine ⟨_, _, rfl, fun m σ H' => ∃ (j : Nat) (o3 : Option V) (seen : List W), σ = [some (.str t), some (nv j), some (.ref mk), o3] ∧ Same H H' ∧ H' mk = some (.lst (seen.map sv)) ∧
        j ≤ (tl t).length ∧ m + j = (tl t).length ∧ seen.length ≤ j ∧ Mk seen ((tl t).drop j) x, ⟨(tl t).length - j1, j1, none, [], rfl, same_new hmk, upd_same, j0, by omega, Nat.zero_le _, mm0⟩, ?_⟩
      rintro m σ H1 ⟨j, o3, seen, rfl, s1, m1, jl, em, sl, mm⟩
      refine ⟨_, rfl, _, rfl, ?_⟩
      rw [decide_eq_false (show ¬ nv j = V.non from fun z => nomatch z)]
      refine iteT ⟨_, rfl, _, rfl, _, rfl, _, rfl, _, _, rfl, rfl, _, rfl, t, rfl, by omega, rfl, _, rfl, ?_⟩
      have dotS : V.str "." = sv [46] := by decide +kernel
      have ct : cutS t (some ((j : Nat) : Int)) (some (((j : Nat) : Int) + 1)) = toS (((tl t).drop j).take 1) := by
        have := cut_tl t (j + 1) jl
        rw [Nat.add_sub_cancel_left] at this
        exact this
      rw [ct, dotS, show V.str (toS (((tl t).drop j).take 1)) = sv (((tl t).drop j).take 1) from rfl, sv_is]
      by_cases dot : ∃ r, (tl t).drop j = 46 :: r
      · obtain ⟨r, hr0⟩ := dot
        have j1 : j < (tl t).length := by
          rcases Nat.lt_or_ge j (tl t).length with q | q
          · exact q
          · rw [List.drop_of_length_le q] at hr0
            cases hr0
        have hr1 : (tl t).drop (j + 1) = r := by
          rw [← List.drop_drop, hr0]
          rfl
        rw [hr0]
        refine iteT ⟨fun σ H' => ∃ (o3 : Option V) (seen' : List W) (j' : Nat), σ = [some (.str t), some (nv j'), some (.ref mk), o3] ∧ Same H H' ∧ H' mk = some (.lst (seen'.map sv)) ∧ j < j' ∧ j' ≤ (tl t).length ∧ seen'.length ≤ j' ∧ Mk seen' ((tl t).drop j') x, ?_, ?_⟩
        · rintro σ' H2 ⟨o3', seen', j', rfl, s2, m2, l1, l2, l3, mm2⟩
          exact ⟨(tl t).length - j', by omega, j', o3', seen', rfl, s2, m2, l2, by omega, l3, mm2⟩
        rw [hr0] at mm
        refine ⟨_, rfl, _, rfl, _, _, rfl, rfl, t, j + 1, rfl, len, j1, fun z => ?_, fun z => ?_⟩
        · rw [hr1] at z ⊢
          refine ⟨_, rfl, rfl, false, rfl, iteF ?_⟩
          have rl : j + 1 + (runL r).length ≤ (tl t).length := by
            have := run_len r
            rw [← hr1, List.length_drop] at this
            rw [← hr1]
            omega
          have cw : cutS t (some (((j : Nat) : Int) + 1)) (some ((j + 1 + (runL r).length : Nat) : Int)) = toS (runL r) := by
            have := cut_tl t (j + 1 + (runL r).length) (show j + 1 ≤ (tl t).length from j1)
            rw [Nat.add_sub_cancel_left, hr1] at this
            refine this.trans (congrArg toS ?_)
            exact List.prefix_iff_eq_take.mp (List.takeWhile_prefix _) |>.symm
          refine ⟨_, rfl, _, rfl, _, _, rfl, rfl, _, rfl, _, rfl, _, rfl, t, rfl, by omega, _, rfl, mk, _, rfl, .inl (SqL.of m1), rfl, flat_svs seen, _, rfl, ?_⟩
          rw [cw, if_neg (by decide), show V.str (toS (runL r)) = sv (runL r) from rfl, in_svs]
          by_cases ms : runL r ∈ seen
          · rw [decide_eq_true ms]
            refine iteT (no ?_ _ s1)
            cases mm with
            | done h => exact absurd rfl (h r)
            | bad h => rfl
            | more h n m => exact absurd ms n
          · rw [decide_eq_false ms]
            refine iteF ⟨_, rfl, .inl ⟨rfl, _, .inl (.inl m1)⟩, _, rfl, _, rfl, _, _, rfl, rfl, _, rfl, _, rfl, _, rfl, t, rfl, by omega, mk, _, _, rfl, rfl, m1, ?_, ?_⟩
            · rw [List.length_map]
              omega
            rw [cw]
            refine ⟨_, rfl, _, seen ++ [runL r], j + 1 + (runL r).length, rfl, same_put s1 hmk, ?_, by omega, rl, ?_, ?_⟩
            · rw [upd_same, List.map_append]
              rfl
            · rw [List.length_append, List.length_singleton]
              omega
            · cases mm with
              | done h => exact absurd rfl (h r)
              | bad h => exact absurd h (fun q => q.elim (fun q => by rw [z] at q; cases q) ms)
              | more h n m =>
                rw [← List.drop_drop, hr1]
                exact m
        · rw [hr1] at z
          refine ⟨_, rfl, rfl, true, rfl, iteT (no ?_ _ s1)⟩
          cases mm with
          | done h => exact absurd rfl (h r)
          | bad h => rfl
          | more h n m =>
            rw [h] at z
            cases z
      · have nd : ¬ ((tl t).drop j).take 1 = [46] := fun z => by
          cases hh : (tl t).drop j with
          | nil =>
            rw [hh] at z
            cases z
          | cons c r =>
            rw [hh] at z
            injection z with z1
            exact dot ⟨r, by rw [hh, z1]⟩
        rw [decide_eq_false nd]
        refine iteF ⟨_, rfl, yes j jl ?_ _ s1⟩
        cases hh : (tl t).drop j with
        | nil =>
          rw [hh] at mm
          cases mm
          rfl
        | cons c r =>
          rw [hh] at mm
          cases mm with
          | done h => rfl
          | bad h => exact absurd ⟨r, hh⟩ dot
          | more h n m => exact absurd ⟨r, hh⟩ dot
    · have e : x = none := by
        cases hd with
        | bad h => rfl
        | more h m =>
          rw [h] at z
          cases z
      refine ⟨_, _, rfl, fun m σ H' => σ = [some (.str t), some .non, some (.ref mk), none] ∧ Same H H', ⟨0, rfl, same_new hmk⟩, ?_⟩
      rintro m σ H1 ⟨rfl, s1⟩
      refine ⟨_, rfl, _, rfl, ?_⟩
      rw [decide_eq_true (rfl : V.non = V.non)]
      exact iteF (iteF ⟨_, rfl, no e _ s1⟩)
end
end K02

namespace K02
open PySem L2 DR DM TL
abbrev sRead : Stmt := top 31
def spRead (n : Nat) : Sp := fun vs H Q _ => ∃ (t : Str) (i : Nat) (x : Option W), vs = [.str t, nv i] ∧ (tl t).length ≤ 30000 ∧ i ≤ (tl t).length ∧ Rd ((tl t).drop i) x ∧ ((tl t).drop i).count 40 ≤ n ∧
  (x = none → ∀ H', Same H H' → Q .non H') ∧ ∀ j, j ≤ (tl t).length → x = some ((tl t).drop j) → ∀ H', Same H H' → Q (nv j) H'
theorem take_one {u : W} {c : Nat} : u.take 1 = [c] ↔ ∃ r, u = c :: r := by
  cases u with
  | nil => simp
  | cons a r => simp
theorem drop_of {u r : W} (h : r <:+ u) : ∃ j, j ≤ u.length ∧ r = u.drop j := by
  obtain ⟨p, rfl⟩ := h
  exact ⟨p.length, by rw [List.length_append]; omega, by rw [List.drop_left]⟩
section
variable {P : Program} {w : World} {K : PySem.W.Frag} {mg : Str → Option Value} {base : Heap}
theorem scRead : FnScope ["_law_text_here", "_law_at_here", "_law_sign"] ["_law_text_here", "_law_at_here"] (defScope sRead) := ⟨rfl, rfl, rfl, by decide +kernel, rfl, by decide +kernel, by decide +kernel⟩
theorem read_step {f : Addr} {fd : FuncData} {n : Nat} {spR : Sp} (F : Fun K "_law_read" "_law_read" sRead f fd) (T : Txt mg) (D1 : Has P w K mg base 2 "_law_head" ["_law_text_here", "_law_at_here"] spLHead)
    (mN : mg "_law_read" = some (.ref f)) (kN : PySem.W.keepIn K (.ref f) = true) (bN : Binds K fd ["_law_text_here", "_law_at_here"] [])
    (G : FnOk P w K mg base CX0 (n + 2) f fd ["_law_text_here", "_law_at_here"] spR) (hR : n ≠ 0 → spR = spRead (n - 1)) :
    FnOk P w K mg base CX0 (n + 3) f fd ["_law_text_here", "_law_at_here"] (spRead n) := by
  obtain ⟨fH, fdH, GH, mH, kH, bH⟩ := D1
  refine F.ok scRead (fun vs H Q E h => ?_) (fun cdv A outer s H vs Q E hr h => ?_)
  · obtain ⟨_, _, _, rfl, _⟩ := h
    rfl
  · obtain ⟨t, i, x, rfl, len, il, rd, ct, no, yes⟩ := h
    have hr2 : Room 2 _ := hr.mono (by omega)
    refine ⟨_, pss_cons (ps_set (i := 1) scRead.nd rfl (Or.inl rfl) (pe_call GH hr2 (by rfl) mH kH bH .nil pass0 (pa_cons (pv 0) (pa_cons (pv 1) pa_nil))))
      (pss_cons (ps_if (PW.pt (pw_or (pt_cmpR op_isN (pv 1) pe_non rfl) (pw_or1 (pt_cmpR op_ne (pe_slice sl_str (pv 0) (po_some (pv 1)) (po_some (pe_op op_add (pv 1) pe_int))) pe_str rfl)))) (pss_one (ps_ret (pv 1))) pss_nil)
      (pss_cons (ps_set (i := 2) scRead.nd rfl (Or.inl rfl) pe_str)
      (pss_cons (ps_set (i := 1) scRead.nd rfl (Or.inl rfl) (pe_op op_add (pv 1) pe_int))
      (pss_cons (ps_while PassesOwn.never (pt_cmpR op_eq (pv 2) pe_str rfl)
        (pss_cons (ps_set (i := 1) scRead.nd rfl (Or.inl rfl) (pe_call G hr (by rfl) mN kN bN .nil pass0 (pa_cons (pv 0) (pa_cons (pv 1) pa_nil))))
        (pss_cons (ps_if (pt_cmpR op_isN (pv 1) pe_non rfl) (pss_one (ps_ret pe_non)) pss_nil)
        (pss_cons (ps_set (i := 2) scRead.nd rfl (Or.inl rfl) (pe_slice sl_str (pv 0) (po_some (pv 1)) (po_some (pe_op op_add (pv 1) pe_int))))
        (pss_one (ps_set (i := 1) scRead.nd rfl (Or.inl rfl) (pe_op op_add (pv 1) pe_int)))))))
      (pss_one (ps_ret (pe_ifExp (pt_cmpR op_eq (pv 2) pe_str rfl) (pv 1) pe_non))))))), ?_⟩
    have B := big
    have tlen : t.length = (tl t).length := len_tl t
    have s40 : V.str "(" = sv [40] := by decide +kernel
    have s41 : V.str ")" = sv [41] := by decide +kernel
    have s44 : V.str "," = sv [44] := by decide +kernel
    have cut1 : ∀ j, j ≤ (tl t).length → cutS t (some ((j : Nat) : Int)) (some (((j : Nat) : Int) + 1)) = toS (((tl t).drop j).take 1) := fun j jl => by
      have := cut_tl t (j + 1) jl
      rw [Nat.add_sub_cancel_left] at this
      exact this
    cases rd with
    | bad h =>
      refine ⟨_, rfl, _, rfl, t, i, none, rfl, len, il, h, fun _ H1 s1 => ?_, fun j _ e => nomatch e⟩
      exact ⟨_, rfl, rfl, true, rfl, iteT ⟨_, rfl, no rfl _ s1⟩⟩
    | @leaf _ r h nn =>
      refine ⟨_, rfl, _, rfl, t, i, _, rfl, len, il, h, fun e => (nomatch e), fun j jl e H1 s1 => ?_⟩
      have e' := Option.some.inj e
      refine ⟨_, rfl, rfl, false, rfl, iteF ⟨_, rfl, _, rfl, _, rfl, _, rfl, _, _, rfl, rfl, _, rfl, t, rfl, by omega, rfl, _, rfl, ?_⟩⟩
      rw [cut1 j jl, s40, show V.str (toS (((tl t).drop j).take 1)) = sv (((tl t).drop j).take 1) from rfl, sv_is]
      have nd : ¬ ((tl t).drop j).take 1 = [40] := fun z => by
        obtain ⟨q, hq⟩ := take_one.mp z
        exact nn q (e'.trans hq)
      rw [decide_eq_false nd]
      exact iteT ⟨_, rfl, yes j jl e _ s1⟩
    | @node _ r _ h k =>
      refine ⟨_, rfl, _, rfl, t, i, _, rfl, len, il, h, fun e => (nomatch e), fun j jl e H1 s1 => ?_⟩
      have e' := Option.some.inj e
      refine ⟨_, rfl, rfl, false, rfl, iteF ⟨_, rfl, _, rfl, _, rfl, _, rfl, _, _, rfl, rfl, _, rfl, t, rfl, by omega, rfl, _, rfl, ?_⟩⟩
      rw [cut1 j jl, s40, show V.str (toS (((tl t).drop j).take 1)) = sv (((tl t).drop j).take 1) from rfl, sv_is]
      have d40 : (tl t).drop j = 40 :: r := e'.symm
      rw [decide_eq_true (show ((tl t).drop j).take 1 = [40] from take_one.mpr ⟨r, d40⟩)]
      refine iteF ⟨_, rfl, _, _, rfl, rfl, ?_⟩
      have j1 : j < (tl t).length := by
        rcases Nat.lt_or_ge j (tl t).length with q | q
        · exact q
        · rw [List.drop_of_length_le q] at d40
          cases d40
      have d1 : (tl t).drop (j + 1) = r := by
        rw [← List.drop_drop, d40]
        rfl
      have c1 : r.count 40 + 1 ≤ n := by
        have := (hd_suf h).1.sublist.count_le 40
        rw [List.count_cons_self] at this
        omega
      have n0 : n ≠ 0 := by omega
      refine ⟨fun m σ H' => ∃ (o : V) (jj : Nat), σ = [some (.str t), some (nv jj), some o] ∧ Same H H' ∧ ((o = sv [44] ∧ jj ≤ (tl t).length ∧ m = (tl t).length - jj + 1 ∧ Kd ((tl t).drop jj) x ∧ ((tl t).drop jj).count 40 ≤ n - 1) ∨
        ∃ s : W, o = sv s ∧ s ≠ [44] ∧ (s = [41] → jj ≤ (tl t).length ∧ x = some ((tl t).drop jj)) ∧ (s ≠ [41] → x = none)), ⟨_, .str ",", j + 1, rfl, s1, .inl ⟨s44, j1, rfl, by rw [d1]; exact k, by rw [d1]; omega⟩⟩, ?_⟩
      rintro m σ H2 ⟨o, jj, rfl, s2, ⟨rfl, jl2, rfl, kd, ct2⟩ | ⟨sg, rfl, n44, fin1, fin2⟩⟩
      · refine ⟨_, rfl, rfl, _, rfl, ?_⟩
        rw [s44, sv_is, decide_eq_true rfl]
        rw [hR n0]
        refine iteT ⟨fun σ H' => ∃ m', m' < (tl t).length - jj + 1 ∧ ∃ (o : V) (jj : Nat), σ = [some (.str t), some (nv jj), some o] ∧ Same H H' ∧ ((o = sv [44] ∧ jj ≤ (tl t).length ∧ m' = (tl t).length - jj + 1 ∧ Kd ((tl t).drop jj) x ∧ ((tl t).drop jj).count 40 ≤ n - 1) ∨
          ∃ s : W, o = sv s ∧ s ≠ [44] ∧ (s = [41] → jj ≤ (tl t).length ∧ x = some ((tl t).drop jj)) ∧ (s ≠ [41] → x = none)), fun σ' H'' q => q, ?_⟩
        have onward : ∀ (x1 : W) (h1 : Rd ((tl t).drop jj) (some x1)), (∀ q, x1 = 44 :: q → Kd q x) → (∀ q, x1 = 41 :: q → x = some q) → ((∀ q, x1 ≠ 44 :: q) → (∀ q, x1 ≠ 41 :: q) → x = none) → ∀ j2, j2 ≤ (tl t).length → x1 = (tl t).drop j2 → ∀ H3, Same H2 H3 →
            ∃ m', m' < (tl t).length - jj + 1 ∧ ∃ (o : V) (jj : Nat), [some (V.str t), some (nv (j2 + 1)), some (sv (((tl t).drop j2).take 1))] = [some (.str t), some (nv jj), some o] ∧ Same H H3 ∧ ((o = sv [44] ∧ jj ≤ (tl t).length ∧ m' = (tl t).length - jj + 1 ∧ Kd ((tl t).drop jj) x ∧ ((tl t).drop jj).count 40 ≤ n - 1) ∨
              ∃ s : W, o = sv s ∧ s ≠ [44] ∧ (s = [41] → jj ≤ (tl t).length ∧ x = some ((tl t).drop jj)) ∧ (s ≠ [41] → x = none)) := by
          intro x1 h1 a1 a2 a3 j2 jl3 e2 H3 s3
          have suf := rd_suf h1 x1 rfl
          have lt : jj < j2 := by
            have := suf.2
            rw [e2, List.length_drop, List.length_drop] at this
            omega
          by_cases z : ∃ q, (tl t).drop j2 = 44 :: q
          · obtain ⟨q, hq⟩ := z
            have lt2 : j2 < (tl t).length := by
              rcases Nat.lt_or_ge j2 (tl t).length with y | y
              · exact y
              · rw [List.drop_of_length_le y] at hq
                cases hq
            have dq : (tl t).drop (j2 + 1) = q := by
              rw [← List.drop_drop, hq]
              rfl
            refine ⟨(tl t).length - (j2 + 1) + 1, by omega, _, j2 + 1, rfl, s2.trans s3, .inl ⟨by rw [hq]; rfl, lt2, rfl, ?_, ?_⟩⟩
            · rw [dq]
              exact a1 q (e2.trans hq)
            · rw [dq]
              have c3 := suf.1.sublist.count_le 40
              rw [e2, hq] at c3
              have c4 : q.count 40 ≤ (44 :: q).count 40 := (List.sublist_cons_self 44 q).count_le 40
              omega
          · refine ⟨0, by omega, _, j2 + 1, rfl, s2.trans s3, .inr ⟨_, rfl, fun y => z (take_one.mp y), fun y => ?_, fun y => a3 (fun q hq => z ⟨q, e2.symm.trans hq⟩) fun q hq => y (take_one.mpr ⟨q, e2.symm.trans hq⟩)⟩⟩
            obtain ⟨q, hq⟩ := take_one.mp y
            have lt2 : j2 < (tl t).length := by
              rcases Nat.lt_or_ge j2 (tl t).length with y | y
              · exact y
              · rw [List.drop_of_length_le y] at hq
                cases hq
            refine ⟨lt2, ?_⟩
            rw [← List.drop_drop, hq]
            exact a2 q (e2.trans hq)
        cases kd with
        | bad h1 =>
          refine ⟨_, rfl, _, rfl, t, jj, none, rfl, len, jl2, h1, ct2, fun _ H3 s3 => ?_, fun j _ e => (nomatch e)⟩
          exact ⟨_, rfl, rfl, true, rfl, iteT (no rfl _ (s2.trans s3))⟩
        | @comma _ q _ h1 k1 =>
          refine ⟨_, rfl, _, rfl, t, jj, _, rfl, len, jl2, h1, ct2, fun e => (nomatch e), fun j2 jl3 e2 H3 s3 => ?_⟩
          refine ⟨_, rfl, rfl, false, rfl, iteF ⟨_, rfl, _, rfl, _, rfl, _, rfl, _, _, rfl, rfl, _, rfl, t, rfl, by omega, _, rfl, _, _, rfl, rfl, ?_⟩⟩
          rw [cut1 j2 jl3]
          exact onward _ h1 (fun y hy => by injection hy with _ hy; exact hy ▸ k1) (fun y hy => by injection hy with hy; cases hy) (fun y _ => absurd rfl (y q)) j2 jl3 (Option.some.inj e2) H3 s3
        | @shut _ q h1 =>
          refine ⟨_, rfl, _, rfl, t, jj, _, rfl, len, jl2, h1, ct2, fun e => (nomatch e), fun j2 jl3 e2 H3 s3 => ?_⟩
          refine ⟨_, rfl, rfl, false, rfl, iteF ⟨_, rfl, _, rfl, _, rfl, _, rfl, _, _, rfl, rfl, _, rfl, t, rfl, by omega, _, rfl, _, _, rfl, rfl, ?_⟩⟩
          rw [cut1 j2 jl3]
          exact onward _ h1 (fun y hy => by injection hy with hy; cases hy) (fun y hy => by injection hy with _ hy; rw [hy]) (fun _ y => absurd rfl (y q)) j2 jl3 (Option.some.inj e2) H3 s3
        | @no _ q h1 n1 n2 =>
          refine ⟨_, rfl, _, rfl, t, jj, _, rfl, len, jl2, h1, ct2, fun e => (nomatch e), fun j2 jl3 e2 H3 s3 => ?_⟩
          refine ⟨_, rfl, rfl, false, rfl, iteF ⟨_, rfl, _, rfl, _, rfl, _, rfl, _, _, rfl, rfl, _, rfl, t, rfl, by omega, _, rfl, _, _, rfl, rfl, ?_⟩⟩
          rw [cut1 j2 jl3]
          exact onward _ h1 (fun y hy => absurd hy (n1 y)) (fun y hy => absurd hy (n2 y)) (fun _ _ => rfl) j2 jl3 (Option.some.inj e2) H3 s3
      · refine ⟨_, rfl, rfl, _, rfl, ?_⟩
        rw [s44, sv_is, decide_eq_false n44]
        refine iteF ⟨_, rfl, rfl, _, rfl, ?_⟩
        rw [s41, sv_is]
        by_cases z : sg = [41]
        · rw [decide_eq_true z]
          exact iteT ⟨_, rfl, yes jj (fin1 z).1 (fin1 z).2 _ s2⟩
        · rw [decide_eq_false z]
          exact iteF (no (fin2 z) _ s2)
theorem ok_read {f : Addr} {fd : FuncData} (F : Fun K "_law_read" "_law_read" sRead f fd) (T : Txt mg) (D1 : Has P w K mg base 2 "_law_head" ["_law_text_here", "_law_at_here"] spLHead)
    (mN : mg "_law_read" = some (.ref f)) (kN : PySem.W.keepIn K (.ref f) = true) (bN : Binds K fd ["_law_text_here", "_law_at_here"] []) :
    ∀ n, FnOk P w K mg base CX0 (n + 3) f fd ["_law_text_here", "_law_at_here"] (spRead n)
  | 0 => read_step F T D1 mN kN bN never_ok fun z => absurd rfl z
  | n + 1 => read_step F T D1 mN kN bN (ok_read F T D1 mN kN bN n) fun _ => rfl
end
end K02

namespace K02
open PySem L2 DR DM TL
/-! ### the runs of a text, and their dots -/
def Dots (n : Nat) (u : W) : Prop := ∀ v, v <:+: u → (∀ c ∈ v, c ∈ LD) → v.count 46 ≤ n
theorem dots_small {n : Nat} {u : W} (h : u.count 46 ≤ n) : Dots n u := fun v hv _ => Nat.le_trans (hv.sublist.count_le 46) h
theorem dots_infix {n : Nat} {u v : W} (h : Dots n u) (hv : v <:+: u) : Dots n v := fun x hx => h x (hx.trans hv)
theorem infix_app {v A B : W} (h : v <:+: A ++ B) : ∃ v1 v2, v = v1 ++ v2 ∧ v1 <:+: A ∧ v2 <:+: B := by
  obtain ⟨x, y, e⟩ := h
  rcases List.append_eq_append_iff.mp e with ⟨a, h1, h2⟩ | ⟨b, h1, h2⟩
  · exact ⟨v, [], (List.append_nil v).symm, ⟨x, a, h1.symm⟩, List.nil_infix⟩
  · rcases List.append_eq_append_iff.mp h1 with ⟨a, h3, h4⟩ | ⟨c, h3, h4⟩
    · exact ⟨a, b, h4, ⟨x, [], by rw [List.append_nil, h3]⟩, ⟨[], y, by rw [List.nil_append, ← h2]⟩⟩
    · exact ⟨[], v, rfl, List.nil_infix, ⟨c, y, by rw [← h4, h2]⟩⟩
theorem dots_app {n m : Nat} {A B : W} (hA : Dots n A) (hB : Dots m B) : Dots (n + m) (A ++ B) := fun v hv hl => by
  obtain ⟨v1, v2, rfl, i1, i2⟩ := infix_app hv
  rw [List.count_append]
  exact Nat.add_le_add (hA v1 i1 fun c hc => hl c (List.mem_append_left _ hc)) (hB v2 i2 fun c hc => hl c (List.mem_append_right _ hc))
theorem infix_sign {v A B : W} {c : Nat} (h : v <:+: A ++ c :: B) (hc : c ∉ v) : v <:+: A ∨ v <:+: B := by
  obtain ⟨x, y, e⟩ := h
  rcases List.append_eq_append_iff.mp e with ⟨a, h1, h2⟩ | ⟨b, h1, h2⟩
  · exact .inl ⟨x, a, h1.symm⟩
  · rcases List.append_eq_append_iff.mp h1 with ⟨a, h3, h4⟩ | ⟨d, h3, h4⟩
    · cases b with
      | nil => exact .inl ⟨x, [], by rw [List.append_nil, h3, h4, List.append_nil]⟩
      | cons b0 b =>
        injection h2 with h5 h6
        exact absurd (by rw [h4, ← h5]; simp) hc
    · cases d with
      | nil =>
        rw [List.nil_append] at h4
        cases v with
        | nil => exact .inl List.nil_infix
        | cons v0 v =>
          rw [h4] at h2
          injection h2 with h5 h6
          exact absurd (by rw [h5]; exact List.mem_cons_self ..) hc
      | cons d0 d =>
        rw [h4] at h2
        injection h2 with h5 h6
        exact .inr ⟨d, y, by rw [h6]; simp⟩
theorem dots_join {n : Nat} {A B : W} {c : Nat} (hA : Dots n A) (hB : Dots n B) (hc : c ∉ LD) : Dots n (A ++ c :: B) := fun v hv hl => by
  rcases infix_sign hv (fun z => hc (hl c z)) with q | q
  · exact hA v q hl
  · exact hB v q hl
/-- the brackets that open, and the commas -/
def sgc (u : W) : Nat := u.count 40 + u.count 44
theorem sgc_app (a b : W) : sgc (a ++ b) = sgc a + sgc b := by
  unfold sgc
  rw [List.count_append, List.count_append]
  omega
theorem sgc_cons (c : Nat) (b : W) : sgc (c :: b) = sgc [c] + sgc b := sgc_app [c] b
theorem sgc_sub {a b : W} (h : a.Sublist b) : sgc a ≤ sgc b := Nat.add_le_add (h.count_le 40) (h.count_le 44)
theorem name_free {w : W} (h : isName w = true) {c : Nat} (hc : c ∉ lets) : w.count c = 0 := List.count_eq_zero.mpr fun m => hc ((isName_mem h).2.2 c m)
theorem head_counts : ∀ {ms : List W} {k : W}, isName k = true → (∀ m ∈ ms, isName m = true) → (headL k ms).count 46 ≤ ms.length ∧ sgc (headL k ms) = 0
  | [], k, hk, _ => by
    rw [show headL k [] = k from by simp [headL]]
    unfold sgc
    rw [name_free hk (by decide), name_free hk (by decide), name_free hk (by decide)]
    exact ⟨Nat.le_refl _, rfl⟩
  | m :: ms, k, hk, hm => by
    obtain ⟨h1, h2⟩ := head_counts (hm m (List.mem_cons_self ..)) fun x hx => hm x (List.mem_cons_of_mem _ hx)
    have e : headL k (m :: ms) = k ++ 46 :: headL m ms := by simp [headL]
    rw [e, sgc_app, sgc_cons, List.count_append, List.count_cons_self, h2, name_free hk (by decide)]
    refine ⟨by rw [List.length_cons]; omega, ?_⟩
    unfold sgc
    rw [name_free hk (by decide), name_free hk (by decide)]
    decide
def sgB : Nat → Nat
  | 0 => 0
  | d + 1 => 3 * (1 + sgB d)
theorem join_dots {n : Nat} : ∀ l : List W, (∀ w ∈ l, Dots n w) → Dots n (joinL [44] l)
  | [], _ => dots_small (Nat.zero_le _)
  | [w], h => h w (List.mem_cons_self ..)
  | w :: v :: l, h => dots_join (h w (List.mem_cons_self ..)) (join_dots (v :: l) fun x hx => h x (List.mem_cons_of_mem _ hx)) (by decide)
theorem join_sgc (b : Nat) : ∀ l : List W, (∀ w ∈ l, sgc w ≤ b) → sgc (joinL [44] l) + 1 ≤ l.length * (b + 1) + (if l = [] then 1 else 0)
  | [], _ => by
    rw [if_pos rfl, show sgc (joinL [44] []) = 0 from rfl]
    exact Nat.le_add_left _ _
  | [w], h => by
    have := h w (List.mem_cons_self ..)
    show sgc w + 1 ≤ _
    simp
    omega
  | w :: v :: l, h => by
    have h1 := h w (List.mem_cons_self ..)
    have h2 := join_sgc b (v :: l) fun x hx => h x (List.mem_cons_of_mem _ hx)
    rw [if_neg (fun z => nomatch z)] at h2 ⊢
    show sgc (w ++ ([44] ++ joinL [44] (v :: l))) + 1 ≤ _
    rw [sgc_app, sgc_app, List.length_cons, Nat.succ_mul, show sgc [44] = 1 from by decide]
    omega
theorem txt_counts {Ks Ms : List W} (S : Short Ks Ms) (gk : ∀ k ∈ Ks, isName k = true) (gm : ∀ m ∈ Ms, isName m = true) : ∀ (d : Nat) (t : Tr), t.fits Ks Ms d → Dots 3 (txt t) ∧ sgc (txt t) ≤ sgB d
  | d, .nd k ms ks, h => by
    rw [Tr.fits] at h
    obtain ⟨hk, hm, h3, h0, hf⟩ := h
    obtain ⟨_, _, l2, _⟩ := head_small S hk hm
    obtain ⟨c1, c2⟩ := head_counts (gk k hk) fun m hm' => gm m (hm.subset ((srt_perm ms).subset hm'))
    rw [txt_nd]
    by_cases c : ks.toL = []
    · rw [if_pos c, List.append_nil, c2]
      exact ⟨dots_small (by omega), Nat.zero_le _⟩
    · cases d with
      | zero =>
        rw [h0 rfl] at c
        exact absurd rfl c
      | succ d =>
        have ih : ∀ w ∈ ks.toL.map txt, Dots 3 w ∧ sgc w ≤ sgB d := fun w hw => by
          obtain ⟨t, ht, rfl⟩ := List.mem_map.mp hw
          exact txt_counts S gk gm d t (fits_to hf t ht)
        have jd := join_dots (ks.toL.map txt) fun w hw => (ih w hw).1
        have js := join_sgc (sgB d) (ks.toL.map txt) fun w hw => (ih w hw).2
        rw [if_neg (by simpa using c), List.length_map, toL_len] at js
        rw [if_neg c]
        refine ⟨dots_join (dots_small (by omega)) (dots_join (B := []) jd (dots_small (Nat.zero_le _)) (by decide)) (by decide), ?_⟩
        rw [sgc_app, sgc_cons, sgc_app, c2, show sgc [40] = 1 from by decide, show sgc [41] = 0 from by decide]
        have : ks.len * (sgB d + 1) ≤ 3 * (sgB d + 1) := Nat.mul_le_mul_right _ h3
        show _ ≤ 3 * (1 + sgB d)
        omega
/-! ### the pieces of a cut text -/
theorem spl_dots : ∀ (p : W) (acc : W), (spl [46] 0 acc p).length = p.count 46 + 1
  | [], acc => by
    rw [spl_nil]
    rfl
  | c :: r, acc => by
    by_cases h : c = 46
    · subst h
      rw [spl_hit (by show ([46] == [46]) = true; decide), List.length_cons, show ([46] : List Nat).length - 1 = 0 from rfl, spl_dots r [], List.count_cons_self]
    · rw [spl_miss (by show ([c] == [46]) = false; simpa using h), spl_dots r _, List.count_cons_of_ne h]
theorem cut_parts {L S : List Nat} : ∀ (t : W) (ps0 ps : List W) (w0 w : W), t.foldl (cutStep L S) (some (ps0, w0)) = some (ps, w) → (∀ p ∈ ps0, (∀ c ∈ p, c ∈ L) ∨ p.length = 1) → (∀ c ∈ w0, c ∈ L) →
    (∀ p ∈ ps, (∀ c ∈ p, c ∈ L) ∨ p.length = 1) ∧ ∀ c ∈ w, c ∈ L
  | [], ps0, ps, w0, w, h, h1, h2 => by
    injection h with h
    injection h with e1 e2
    subst e1 e2
    exact ⟨h1, h2⟩
  | c :: t, ps0, ps, w0, w, h, h1, h2 => by
    rw [List.foldl_cons] at h
    by_cases c1 : c ∈ L
    · rw [show cutStep L S (some (ps0, w0)) c = some (ps0, w0 ++ [c]) from if_pos c1] at h
      refine cut_parts t _ _ _ _ h h1 fun x hx => ?_
      rcases List.mem_append.mp hx with q | q
      · exact h2 x q
      · rw [List.mem_singleton.mp q]
        exact c1
    · by_cases c2 : c ∈ S
      · rw [cut_sign c1 c2] at h
        refine cut_parts t _ _ _ _ h (fun p hp => ?_) fun x hx => nomatch hx
        rcases List.mem_append.mp hp with q | q
        · unfold flush at q
          split at q
          · exact h1 p q
          · rcases List.mem_append.mp q with q | q
            · exact h1 p q
            · rw [List.mem_singleton.mp q]
              exact .inl h2
        · rw [List.mem_singleton.mp q]
          exact .inr rfl
      · rw [show cutStep L S (some (ps0, w0)) c = none from by show (if c ∈ L then _ else if c ∈ S then _ else _) = _; rw [if_neg c1, if_neg c2], cut_none] at h
        cases h
theorem cut_all {L S : List Nat} {t : W} {ps : List W} (h : cutM L S t = some ps) : ps.flatten = t ∧ ∀ p ∈ ps, (∀ c ∈ p, c ∈ L) ∨ p.length = 1 := by
  unfold cutM at h
  cases e : t.foldl (cutStep L S) (some ([], [])) with
  | none =>
    rw [e] at h
    cases h
  | some x =>
    rw [e] at h
    have h : flush x.1 x.2 = ps := Option.some.inj h
    obtain ⟨h1, _⟩ := cut_flat t [] x.1 [] x.2 e
    obtain ⟨h2, h3⟩ := cut_parts t [] x.1 [] x.2 e (fun p hp => nomatch hp) fun x hx => nomatch hx
    rw [List.flatten_nil, List.nil_append, List.nil_append] at h1
    rw [← h]
    unfold flush
    split
    · rename_i e2
      rw [e2, List.append_nil] at h1
      exact ⟨h1, h2⟩
    · refine ⟨by rw [List.flatten_append, List.flatten_singleton]; exact h1, fun p hp => ?_⟩
      rcases List.mem_append.mp hp with q | q
      · exact h2 p q
      · rw [List.mem_singleton.mp q]
        exact .inl h3
theorem flat_infix : ∀ {ps : List W} {p : W}, p ∈ ps → p <:+: ps.flatten
  | q :: ps, p, h => by
    rw [List.flatten_cons]
    rcases List.mem_cons.mp h with rfl | h
    · exact List.IsPrefix.isInfix (List.prefix_append _ _)
    · exact (flat_infix h).trans (List.IsSuffix.isInfix (List.suffix_append _ _))
theorem fine_of {u : W} {n : Nat} (h1 : u.length ≤ 30000) (h2 : Dots n u) (h3 : n < 63) : Fine (toS u) := by
  refine ⟨h1, fun ps e p hp => ?_⟩
  have e' : cutM LD SG u = some ps := e
  obtain ⟨fl, al⟩ := cut_all e'
  rw [spl_dots]
  rcases al p hp with q | q
  · have := h2 p (fl ▸ flat_infix hp) q
    omega
  · have := List.count_le_length (a := 46) (l := p)
    omega
end K02

namespace K02
open PySem L2 DR DM TL
noncomputable def pend (b : W) : Nat := if b = [40] ∨ b = [44] then 1 else 0
def rowOk (D : Nat) (r : Row) : Prop := r.1 ≤ D ∧ (headL r.2.1 r.2.2).length ≤ 5000
theorem headL_le (k : W) (hk : k.length ≤ 8) : ∀ ms : List W, (∀ m ∈ ms, m.length ≤ 8) → (headL k ms).length ≤ 8 + 9 * ms.length := fun ms h => by
  unfold headL
  rw [List.length_append]
  have : ∀ l : List W, (∀ m ∈ l, m.length ≤ 8) → ((l.map fun m => 46 :: m).flatten).length ≤ 9 * l.length := by
    intro l
    induction l with
    | nil => exact fun _ => Nat.le_refl _
    | cons m l ih =>
      intro h
      have h1 := h m (List.mem_cons_self ..)
      have h2 := ih fun x hx => h x (List.mem_cons_of_mem _ hx)
      rw [List.map_cons, List.flatten_cons, List.length_append, List.length_cons, List.length_cons]
      omega
  have := this ms h
  omega
theorem headM_row {p k : W} {ms : List W} (h : headM srt p = some (k, ms)) (hp : p.count 46 ≤ 62) : (headL k ms).length ≤ 5000 ∧ headOk p = true := by
  have ok : headOk p = true := by
    cases z : headOk p
    · rw [(headM_is srt p).mpr z] at h
      cases h
    · rfl
  refine ⟨?_, ok⟩
  have sl := spl_dots p []
  unfold headM at h
  cases e : spl [46] 0 [] p with
  | nil =>
    rw [e] at h
    cases h
  | cons k0 ms0 =>
    rw [e] at h sl
    have h : (if isName k0 = true ∧ areNames ms0 = true then some (k0, srt ms0) else none) = some (k, ms) := h
    by_cases c : isName k0 = true ∧ areNames ms0 = true
    · rw [if_pos c] at h
      injection h with h
      injection h with e1 e2
      subst e1 e2
      have l := headL_le k0 (isName_mem c.1).2.1 (srt ms0) fun m hm => (isName_mem ((areNames_mem c.2).1 m ((srt_perm ms0).subset hm))).2.1
      rw [(srt_perm ms0).length_eq] at l
      rw [List.length_cons] at sl
      omega
    · rw [if_neg c] at h
      cases h
theorem rows_bound : ∀ (ps : List W) (d : Nat) (b : W) (rs : List Row) (d' : Nat) (b' : W) (rs' : List Row), ps.foldl (readStep srt) (some (d, b, rs)) = some (d', b', rs') → (∀ p ∈ ps, p.count 46 ≤ 62) →
    rs'.length + pend b' ≤ rs.length + pend b + sgc ps.flatten ∧ ∀ D, d + sgc ps.flatten ≤ D → (∀ r ∈ rs, rowOk D r) → ∀ r ∈ rs', rowOk D r
  | [], d, b, rs, d', b', rs', h, _ => by
    injection h with h
    injection h with e1 h
    injection h with e2 e3
    subst e1 e2 e3
    exact ⟨Nat.le_add_right _ _, fun D _ g => g⟩
  | p :: ps, d, b, rs, d', b', rs', h, hp => by
    rw [List.foldl_cons, read_some] at h
    have hp0 := hp p (List.mem_cons_self ..)
    have hps : ∀ q ∈ ps, q.count 46 ≤ 62 := fun q hq => hp q (List.mem_cons_of_mem _ hq)
    rw [List.flatten_cons, sgc_app]
    by_cases c1 : b = [40] ∨ b = [44]
    · rw [if_pos c1] at h
      cases e : headM srt p with
      | none =>
        rw [e] at h
        have h : ps.foldl (readStep srt) none = some (d', b', rs') := h
        rw [read_none] at h
        cases h
      | some x =>
        obtain ⟨k, ms⟩ := x
        rw [e] at h
        obtain ⟨l1, ok⟩ := headM_row e hp0
        obtain ⟨_, w1, _, w3⟩ := head_word ok
        obtain ⟨i1, i2⟩ := rows_bound ps _ _ _ _ _ _ h hps
        have pb : pend b = 1 := if_pos c1
        have pp : pend p = 0 := if_neg fun z => z.elim w1 w3
        rw [List.length_append, pp, List.length_singleton] at i1
        refine ⟨by omega, fun D hD g => i2 D (by omega) fun r hr => ?_⟩
        rcases List.mem_append.mp hr with q | q
        · exact g r q
        · rw [List.mem_singleton.mp q]
          exact ⟨by show d ≤ D; omega, l1⟩
    · rw [if_neg c1] at h
      have pb : pend b = 0 := if_neg c1
      by_cases c2 : p = [40] ∧ b ≠ [41]
      · rw [if_pos c2] at h
        obtain ⟨i1, i2⟩ := rows_bound ps _ _ _ _ _ _ h hps
        have sp : sgc p = 1 := by rw [c2.1]; decide
        have pp : pend p = 1 := if_pos (.inl c2.1)
        exact ⟨by omega, fun D hD g => i2 D (by omega) g⟩
      · rw [if_neg c2] at h
        by_cases c3 : p = [41] ∧ 0 < d
        · rw [if_pos c3] at h
          obtain ⟨i1, i2⟩ := rows_bound ps _ _ _ _ _ _ h hps
          have pp : pend p = 0 := by
            rw [c3.1]
            exact if_neg (by decide)
          exact ⟨by omega, fun D hD g => i2 D (by omega) g⟩
        · rw [if_neg c3] at h
          by_cases c4 : p ≠ [44] ∨ d = 0
          · rw [if_pos c4, read_none] at h
            cases h
          · rw [if_neg c4] at h
            obtain ⟨i1, i2⟩ := rows_bound ps _ _ _ _ _ _ h hps
            have e : p = [44] := Classical.byContradiction fun z => c4 (.inl z)
            have sp : sgc p = 1 := by rw [e]; decide
            have pp : pend p = 1 := if_pos (.inr e)
            exact ⟨by omega, fun D hD g => i2 D (by omega) g⟩
theorem few_of {u : W} {rs : List Row} {n : Nat} (h : (cutM LD SG u).bind (readM srt) = some rs) (hs : sgc u ≤ 100) (hd : Dots n u) (hn : n < 63) : Few rs := by
  cases e : cutM LD SG u with
  | none =>
    rw [e] at h
    cases h
  | some ps =>
    rw [e] at h
    have h : readM srt ps = some rs := h
    obtain ⟨fl, al⟩ := cut_all e
    unfold readM at h
    cases e2 : ps.foldl (readStep srt) (some (0, [44], [])) with
    | none =>
      rw [e2] at h
      cases h
    | some x =>
      obtain ⟨d, b, rs0⟩ := x
      rw [e2] at h
      have h : (if 0 < d ∨ b = [40] ∨ b = [44] then none else some rs0) = some rs := h
      obtain ⟨i1, i2⟩ := rows_bound ps 0 [44] [] d b rs0 e2 fun p hp => by
        rcases al p hp with q | q
        · have := hd p (fl ▸ flat_infix hp) q
          omega
        · have := List.count_le_length (a := 46) (l := p)
          omega
      rw [fl] at i1 i2
      have pb : pend [44] = 1 := if_pos (.inr rfl)
      by_cases c : 0 < d ∨ b = [40] ∨ b = [44]
      · rw [if_pos c] at h
        cases h
      · rw [if_neg c] at h
        obtain rfl := Option.some.inj h
        have i3 := i2 100 (by omega) fun r hr => nomatch hr
        rw [List.length_nil] at i1
        exact ⟨by omega, fun r hr => ⟨Nat.le_trans (i3 r hr).1 (by decide), (i3 r hr).2⟩⟩
/-! ### repr's length -/
theorem hex_two : ∀ c, c < 256 → (Nat.toDigits 16 c).length ≤ 2 := by decide +kernel
theorem repr_char {q c : Nat} (h : c < 256) : (Builtin.Str.reprChar q c).length ≤ 4 := by
  have h2 := hex_two c h
  unfold Builtin.Str.reprChar
  repeat' split
  all_goals first
    | decide
    | (show _ ≤ 4; simp only [List.length_append, List.length_cons, List.length_nil, List.length_replicate, List.length_map]; omega)
    | omega
def Low (u : W) : Prop := ∀ c ∈ u, c < 256
theorem repr_len (x : Str) (h : Low (tl x)) : (reprText x).length ≤ 2 + 4 * (tl x).length := by
  rw [← reprLen_eq, ← Array.foldl_toList]
  have : ∀ (q : Nat) (l : List Nat) (n : Nat), (∀ c ∈ l, c < 256) → l.foldl (fun n c => n + (Builtin.Str.reprChar q c).length) n ≤ n + 4 * l.length := by
    intro q l
    induction l with
    | nil => exact fun n _ => Nat.le_refl _
    | cons c l ih =>
      intro n g
      have h1 := repr_char (q := q) (g c (List.mem_cons_self ..))
      have h2 := ih (n + (Builtin.Str.reprChar q c).length) fun z hz => g z (List.mem_cons_of_mem _ hz)
      rw [List.foldl_cons, List.length_cons]
      omega
  exact this (reprQuote x) (tl x) 2 h
theorem low_app {a b : W} (ha : Low a) (hb : Low b) : Low (a ++ b) := fun c hc => (List.mem_append.mp hc).elim (ha c) (hb c)
theorem low_join : ∀ l : List W, (∀ w ∈ l, Low w) → Low (joinL [44] l)
  | [], _ => fun c hc => nomatch hc
  | [w], h => h w (List.mem_cons_self ..)
  | w :: v :: l, h => low_app (h w (List.mem_cons_self ..)) (low_app (a := [44]) (fun c hc => by rw [List.mem_singleton.mp hc]; decide) (low_join (v :: l) fun x hx => h x (List.mem_cons_of_mem _ hx)))
theorem ld_low : ∀ c ∈ LD, c < 256 := by decide
theorem txt_low {Ks Ms : List W} (gk : ∀ k ∈ Ks, isName k = true) (gm : areNames Ms = true) : ∀ (d : Nat) (t : Tr), t.fits Ks Ms d → Low (txt t)
  | d, .nd k ms ks, h => by
    rw [Tr.fits] at h
    obtain ⟨hk, hm, h3, h0, hf⟩ := h
    have g2 : areNames (srt ms) = true := by
      obtain ⟨a1, a2⟩ := areNames_mem gm
      unfold areNames
      rw [Bool.and_eq_true, List.all_eq_true, decide_eq_true_eq]
      exact ⟨fun m hm' => a1 m (hm.subset ((srt_perm ms).subset hm')), ((srt_perm ms).nodup_iff).mpr (a2.sublist hm)⟩
    have hh : Low (headL k (srt ms)) := fun c hc => ld_low c ((head_in (gk k hk) g2).2 c hc)
    rw [txt_nd]
    by_cases c : ks.toL = []
    · rw [if_pos c, List.append_nil]
      exact hh
    · cases d with
      | zero =>
        rw [h0 rfl] at c
        exact absurd rfl c
      | succ d =>
        rw [if_neg c]
        have one : ∀ k : Nat, k < 256 → Low [k] := fun k hk c hc => by
          rw [List.mem_singleton.mp hc]
          exact hk
        refine low_app hh (low_app (a := [40]) (one 40 (by decide)) (low_app (low_join _ fun w hw => ?_) (one 41 (by decide))))
        obtain ⟨t, ht, rfl⟩ := List.mem_map.mp hw
        exact txt_low gk gm d t (fits_to hf t ht)
end K02

namespace K02
open PySem L2 DR DM TL
theorem fold_cats (u : W) : ∀ (k : Nat) (a : Array Nat), ((List.replicate k (u.toArray : Array Nat)).foldl (· ++ ·) a).toList = a.toList ++ (List.replicate k u).flatten
  | 0, a => by simp
  | k + 1, a => by
    rw [List.replicate_succ, List.foldl_cons, fold_cats u k, List.replicate_succ]
    simp
theorem mul_text (u : W) (n : Int) (hu : u ≠ []) (hn : 2 ≤ n) : Txt.mul (toS u) n = toS (List.replicate n.toNat u).flatten := by
  refine ext_tl ?_
  rw [tl_toS]
  unfold Txt.mul
  rw [if_neg (by omega)]
  have h2 : ((toS u).length == 0) = false := by
    rw [toS_len]
    cases u with
    | nil => exact absurd rfl hu
    | cons _ _ => rfl
  have : (n == 1 || (toS u).length == 0) = false := by
    rw [beq_eq_false_iff_ne.mpr (by omega), h2]
    rfl
  rw [if_neg (by rw [this]; decide)]
  show ((List.replicate n.toNat (u.toArray : Array Nat)).foldl (· ++ ·) #[]).toList = _
  rw [fold_cats]
  simp
section
variable {X : Cx}
theorem op_mul_text : OpR X (binaryOp .Mult) (fun x y H Q => ∃ (u : W) (n : Int), x = sv u ∧ y = .int n ∧ u ≠ [] ∧ u.length ≤ 10 ∧ n ≤ 1000 ∧ 2 ≤ n ∧ Q (sv (List.replicate n.toNat u).flatten) H) := by
  intro pins s σ H x y v u Q I rx ry h
  obtain ⟨w, n, rfl, rfl, h0, hl, h1, h2, q⟩ := h
  obtain ⟨t, rfl⟩ := rx
  obtain ⟨t', rfl⟩ := ry
  have wl : (toS w).length = w.length := toS_len w
  refine SB.mul ⟨by simp; omega, fun g _ => ?_, fun g _ => ?_⟩ fun t' k => ⟨sv (List.replicate n.toNat w).flatten, H, I.tok _, ⟨_, by rw [mul_text w n h0 h2]⟩, q⟩
  · rw [wl]
    have : (10 : Int) ≤ (2 ^ 63 - 1) / n := (Int.le_ediv_iff_mul_le (by omega)).mpr (by omega)
    omega
  · rw [wl]
    have : w.length * n.toNat ≤ 10 * 1000 := Nat.mul_le_mul hl (by omega)
    have B := big
    unfold Builtin.Str.tooLong
    simp
    omega
end
/-! ### the law -/
abbrev sLaw : Stmt := top 33
def KS : List W := [tl "a", tl "item", tl "longname"]
def MS : List W := [tl "hot", tl "z"]
def spLaw (K : PySem.W.Frag) : Sp := fun vs H Q _ => ∃ (a : Addr) (ns : List Int), vs = [.ref a] ∧ SqL K H a (ns.map V.int) ∧ ns.length ≤ 63 ∧ ∀ H', Q (.bl true) H'
theorem app_toS (a b : W) : toS a ++ toS b = toS (a ++ b) := toS_app a b
theorem cut_upto (u : W) {d : Nat} (h : d ≤ u.length) : cutS (toS u) none (some (d : Int)) = toS (u.take d) := by
  refine ext_tl ?_
  show (((u.drop (HT.sIx (toS u).length 0 none)).take (HT.sIx (toS u).length (toS u).length (some (d : Int)) - HT.sIx (toS u).length 0 none)).toArray).toList = u.take d
  rw [HT.sIx_nat, HT.sIx_none, toS_len, Nat.min_eq_left h]
  rfl
theorem cut_behind (u : W) (d : Nat) : cutS (toS u) (some (d : Int)) none = toS (u.drop d) := by
  refine ext_tl ?_
  show (((u.drop (HT.sIx (toS u).length 0 (some (d : Int)))).take (HT.sIx (toS u).length (toS u).length none - HT.sIx (toS u).length 0 (some (d : Int)))).toArray).toList = u.drop d
  rw [HT.sIx_nat, HT.sIx_none, toS_len]
  show (u.drop (min d u.length)).take (u.length - min d u.length) = u.drop d
  by_cases c : d ≤ u.length
  · rw [Nat.min_eq_left c, List.take_of_length_le (by rw [List.length_drop]; exact Nat.le_refl _)]
  · rw [Nat.min_eq_right (by omega), List.drop_of_length_le (Nat.le_refl _), List.drop_of_length_le (by omega), List.take_nil]
structure Mild (n k : Nat) (u : W) : Prop where
  len : u.length ≤ k
  dots : Dots n u
  cnt : sgc u ≤ k
  low : Low u
theorem Mild.sub {n k : Nat} {u v : W} (h : Mild n k u) (i : v <:+: u) : Mild n k v :=
  ⟨Nat.le_trans i.length_le h.len, dots_infix h.dots i, Nat.le_trans (sgc_sub i.sublist) h.cnt, fun c hc => h.low c (i.subset hc)⟩
theorem bent_fine {u : W} (h1 : u.length ≤ 30000) (h2 : Dots 7 u) (h3 : Low u) : Fine (toS u) ∧ Low (tl (toS u)) := ⟨fine_of h1 h2 (by decide), h3⟩
/-- a text of the drawn ones, one sign put in, left out or changed -/
structure Bent (u : W) : Prop where
  len : u.length ≤ 30000
  dots : Dots 7 u
  cnt : sgc u ≤ 100
  low : Low u
theorem one_sgc (c : Nat) : sgc [c] ≤ 1 := by
  unfold sgc
  by_cases h : c = 40
  · subst h
    decide
  · rw [List.count_cons_of_ne h, List.count_nil]
    have := List.count_le_length (a := 44) (l := [c])
    rw [List.length_singleton] at this
    omega
theorem bent_of {T A B m : W} (hl : T.length ≤ 5000) (hd : Dots 3 T) (hs : sgc T ≤ 39) (hw : Low T) (hA : A <:+: T) (hB : B <:+: T) (hm : m.length ≤ 1) (wm : Low m) : Bent (A ++ m ++ B) := by
  have l1 := hA.length_le
  have l2 := hB.length_le
  have sm : sgc m ≤ 1 := by
    cases m with
    | nil => exact Nat.zero_le _
    | cons c m =>
      cases m with
      | nil => exact one_sgc c
      | cons _ _ => simp at hm
  have dm : Dots 1 m := dots_small (Nat.le_trans List.count_le_length hm)
  refine ⟨?_, ?_, ?_, low_app (low_app (fun c hc => hw c (hA.subset hc)) wm) fun c hc => hw c (hB.subset hc)⟩
  · rw [List.length_append, List.length_append]
    omega
  · exact dots_app (dots_app (dots_infix hd hA) dm) (dots_infix hd hB)
  · rw [sgc_app, sgc_app]
    have := sgc_sub hA.sublist
    have := sgc_sub hB.sublist
    omega
theorem count40_le (u : W) : u.count 40 ≤ sgc u := Nat.le_add_right _ _
def SIGNS : W := [97, 98, 46, 40, 41, 44, 122, 32, 32, 65, 49]
theorem signs_low : ∀ c ∈ SIGNS, c < 256 := by decide
/-! ### what is shown of the odd values -/
theorem list_text (x : Str) : listText [x] = toS ([91] ++ tl x ++ [93]) := by
  refine ext_tl ?_
  unfold listText textFrom textFrom
  rw [if_neg (by decide), tl_append, tl_append, tl_append, tl_toS]
  have e1 : tl ("[" : Str) = [91] := by decide +kernel
  have e2 : tl ("]" : Str) = [93] := by decide +kernel
  have e3 : tl (("" : String) : Str) = [] := by decide +kernel
  rw [e1, e2, e3, List.append_nil]
theorem tuple_text (x : Str) : tupleText [x] = toS ([40] ++ tl x ++ [44, 41]) := by
  refine ext_tl ?_
  unfold tupleText
  rw [tl_append, tl_append, tl_toS, tl_join]
  have e1 : tl ("(" : Str) = [40] := by decide +kernel
  have e2 : tl (",)" : Str) = [44, 41] := by decide +kernel
  rw [e1]
  show [40] ++ joinL (tl (", " : Str)) [tl x] ++ tl (if (true : Bool) = true then ((",)" : String) : Str) else ((")" : String) : Str)) = _
  rw [if_pos rfl, e2]
  rfl
/-- all that the law calls -/
structure Defs (P : Program) (w : World) (K : PySem.W.Frag) (mg : Str → Option Value) (base : Heap) : Prop where
  pool : Has P w K mg base 1 "_law_pool" ["_law_script", "_law_k"] (spPool K)
  take : Has P w K mg base 1 "_law_take" ["_law_pool_here", "_law_many"] spTake
  node : Has P w K mg base 5 "_law_node" ["_law_pool_here", "_law_depth", "_law_kinds", "_law_marks"] (spNode KS MS 3)
  text : Has P w K mg base 5 "_law_text" ["_law_node_here"] (spLText KS MS 3)
  read : Has P w K mg base 103 "_law_read" ["_law_text_here", "_law_at_here"] (spRead 100)
  said : ∃ f fd, FnI P w K mg base CX0 6 f fd ["_law_value"] (spSaid K) ∧ mg "_law_said" = some (.ref f) ∧ PySem.W.keepIn K (.ref f) = true ∧ Binds K fd ["_law_value"] []
theorem ok_str {x : Str} : PyData.strOk x = true ↔ ∀ c ∈ tl x, c < 0x110000 := by
  unfold PyData.strOk
  rw [← Array.all_toList, List.all_eq_true]
  exact ⟨fun h c hc => of_decide_eq_true (h c hc), fun h c hc => decide_eq_true (h c hc)⟩
theorem repr_chars {q c : Nat} (h : c < 256) : ∀ e ∈ Builtin.Str.reprChar q c, e < 0x110000 := by
  have dg : ∀ d : Char, d.toNat < 0x110000 := fun d => by
    have := d.valid
    unfold Char.toNat
    rcases this with q | q
    · have q : d.val.toNat < 0xd800 := q
      omega
    · exact q.2
  unfold Builtin.Str.reprChar
  repeat' split
  all_goals
    intro e he
    simp only [List.mem_append, List.mem_cons, List.mem_replicate, List.mem_map, List.not_mem_nil, or_false] at he
    first
      | omega
      | (rcases he with he | he | ⟨d, _, rfl⟩
         · omega
         · omega
         · exact dg d)
theorem repr_ok {x : Str} (h : Low (tl x)) : PyData.strOk (reprText x) = true := by
  rw [ok_str]
  have q1 : reprQuote x < 0x110000 := by
    unfold reprQuote
    split <;> decide
  have : ∀ (q : Nat) (l : List Nat) (a : Array Nat), (∀ c ∈ l, c < 256) → (∀ e ∈ a.toList, e < 0x110000) → ∀ e ∈ (l.foldl (fun out c => out ++ (Builtin.Str.reprChar q c).toArray) a).toList, e < 0x110000 := by
    intro q l
    induction l with
    | nil => exact fun a _ g => g
    | cons c l ih =>
      intro a g ga
      rw [List.foldl_cons]
      refine ih _ (fun z hz => g z (List.mem_cons_of_mem _ hz)) fun e he => ?_
      rw [Array.toList_append] at he
      rcases List.mem_append.mp he with he | he
      · exact ga e he
      · exact repr_chars (g c (List.mem_cons_self ..)) e he
  intro c hc
  have hc : c ∈ ((x.cps.foldl (fun out c => out ++ (Builtin.Str.reprChar (reprQuote x) c).toArray) #[reprQuote x]).push (reprQuote x)).toList := hc
  rw [← Array.foldl_toList, Array.toList_push] at hc
  rcases List.mem_append.mp hc with hc | hc
  · refine this (reprQuote x) (tl x) #[reprQuote x] h (fun e he => ?_) c hc
    have he : e ∈ [reprQuote x] := he
    rw [List.mem_singleton.mp he]
    exact q1
  · rw [List.mem_singleton.mp hc]
    exact q1
def refD (x : Str) : PyData := .list [.str x, .bool true]
theorem ref_shaped {x : Str} (h : PyData.strOk x = true) : SeqAt.shaped (refD x) = true := by
  simp [SeqAt.shaped, refD, PyData.depth, PyData.depthAll, PyData.canLay0, PyData.canLayAll0, h]
theorem ref_eqv {x : Str} (h : PyData.strOk x = true) : PyData.eqv (refD x) (refD x) = true := SeqAt.eqv_refl _ (SeqAt.canLay_of_shaped (ref_shaped h))
theorem ref_dp {K : PySem.W.Frag} {H : Hp} {p : Addr} {x : Str} (h : H p = some (.lst [.str x, .bl true])) : Dp K H (.ref p) (refD x) := .lst (SqL.of h) (.cons (.str x) (.cons (.bl true) .nil))
def Bad (K : PySem.W.Frag) (H : Hp) (v : V) : Prop := (∃ t, v = .str t ∧ Fine t ∧ (cutM LD SG (tl t)).bind (readM srt) = none) ∨ ∃ ty, TyX K H v ty ∧ PySem.W.kitOne K ty (.type "str") = some false
structure Shows (K : PySem.W.Frag) (H : Hp) (v : V) (d : PyData) : Prop where
  at_ : DpE K H v d
  can : d.showable = true
  len : d.shown.length ≤ sizeLine
  dep : d.depth ≤ 40
  ok : PyData.strOk d.shown = true
/-- if said(x) != [repr(x), True]: return False -/
theorem turn_bad {K : PySem.W.Frag} {i : Nat} {x : V} {σ : L2.St} {H : Hp} {D : Ends} {d : PyData} (hx : σ[i]? = some (some x)) (bad : Bad K H x) (sh : Shows K H x d) (fin : ∀ H', Same H H' → D.nx σ H') :
    tIfS (tTest (tOp (rNeD K) (tCall (spSaid K) [] E0 (tCons (tVar i) tNil)) (tLst (tCons (tCB (rRepr K) (tCons (tVar i) tNil)) (tCons (tC (V.bl true)) tNil))))) (tRet (tC (V.bl false))) tNext D σ H := by
  refine ⟨x, hx, x, rfl, .inl ⟨bad, d, sh.at_, sh.can, sh.len, sh.dep, fun p H1 hp s1 m1 => ?_⟩⟩
  refine ⟨x, hx, x, d, rfl, sh.at_.same s1, sh.can, sh.len, sh.dep, by show 2 ≤ sizeLine; decide, fun q hq => ?_⟩
  have s2 := same_new (o := .lst [.str d.shown, .bl true]) hq
  exact ⟨refD d.shown, refD d.shown, ref_dp (s2 _ _ m1), ref_dp upd_same, ref_shaped sh.ok, ref_shaped sh.ok, _, rfl, if_eq (ref_eqv sh.ok) (fin _ (s1.trans s2))⟩
def fixB (u : W) : Bool := decide (u.length ≤ 30000) && (match cutM LD SG u with | none => true | some ps => ps.all fun p => decide ((spl [46] 0 [] p).length < 64)) && u.all fun c => decide (c < 256)
theorem fixB_ok {t : Str} (h : fixB (tl t) = true) : Fine t ∧ Low (tl t) := by
  unfold fixB at h
  rw [Bool.and_eq_true, Bool.and_eq_true] at h
  obtain ⟨⟨h1, h2⟩, h3⟩ := h
  refine ⟨⟨of_decide_eq_true h1, fun ps e p hp => ?_⟩, fun c hc => of_decide_eq_true (List.all_eq_true.mp h3 c hc)⟩
  rw [e] at h2
  exact of_decide_eq_true (List.all_eq_true.mp h2 p hp)
theorem str_shows {K : PySem.W.Frag} {H : Hp} {t : Str} (h : Low (tl t)) (l : (tl t).length ≤ 30000) : Shows K H (.str t) (.str t) :=
  ⟨.inl (.str t), rfl, by
    have := repr_len t h
    have B := big
    simp only [PyData.shown]
    omega, by simp [PyData.depth], by simp only [PyData.shown]; exact repr_ok h⟩
theorem str_bad {K : PySem.W.Frag} {H : Hp} {t : Str} (h : (fixB (tl t) && !acc 0 [44] (tl t)) = true) : Bad K H (.str t) ∧ Shows K H (.str t) (.str t) := by
  rw [Bool.and_eq_true, Bool.not_eq_true'] at h
  obtain ⟨f1, f2⟩ := fixB_ok h.1
  exact ⟨.inl ⟨t, rfl, f1, (acc_read srt _).mpr h.2⟩, str_shows f2 f1.1⟩
def SOME : List Str := ["", "a(", "a()", "a(b", "a(b,)", "a(,b)", "a.", "a..b", "a.b.b", "A", "a b", " a", "a ", "a1", "a(b)c", "a)", "abcdefghi", "a.abcdefghi", "a(b)(c)", "a,b", "(a)", "a.b(c", "a(b))", "a\n", ".a", "a:b", "a(b;c)"]
theorem some_bad : ∀ t ∈ SOME, (fixB (tl t) && !acc 0 [44] (tl t)) = true := by decide +kernel
theorem odd_bad {K : PySem.W.Frag} {H : Hp} {v : V} {l1 t1 d1 : Addr} {x : Str} (lw : Low (tl x)) (l : (tl x).length ≤ 30000) (hl : H l1 = some (.lst [.str x])) (ht : H t1 = some (.tup [.str x])) (hd : H d1 = some (.dK []))
    (hv : v ∈ [V.non, .int 5, .bl true, .ref l1, .ref t1, .ref d1]) : ∃ d, Bad K H v ∧ Shows K H v d := by
  have B := big
  have rl := repr_len x lw
  have ro := ok_str.mp (repr_ok lw)
  have rl2 : (reprText x).length = (tl (reprText x)).length := len_tl _
  rcases List.mem_cons.mp hv with rfl | hv
  · exact ⟨.none, .inr ⟨_, .base .non, by rfl⟩, .inl .non, rfl, by simp only [PyData.shown]; decide +kernel, by decide, by simp only [PyData.shown]; decide +kernel⟩
  rcases List.mem_cons.mp hv with rfl | hv
  · exact ⟨.int 5, .inr ⟨_, .base (.int 5), by rfl⟩, .inl (.int 5), rfl, by simp only [PyData.shown]; decide +kernel, by decide, by simp only [PyData.shown]; decide +kernel⟩
  rcases List.mem_cons.mp hv with rfl | hv
  · exact ⟨.bool true, .inr ⟨_, .base (.bl true), by rfl⟩, .inl (.bl true), rfl, by simp only [PyData.shown]; decide +kernel, by decide, by simp only [PyData.shown]; decide +kernel⟩
  rcases List.mem_cons.mp hv with rfl | hv
  · refine ⟨.list [.str x], .inr ⟨_, .base (.lst hl), by rfl⟩, .inl (.lst (SqL.of hl) (.cons (.str x) .nil)), rfl, ?_, by simp [PyData.depth, PyData.depthAll], ?_⟩
    · simp only [PyData.shown, PyData.shownAll]
      rw [list_text, toS_len, List.length_append, List.length_append]
      show 1 + _ + 1 ≤ _
      omega
    · simp only [PyData.shown, PyData.shownAll]
      rw [list_text, ok_str, tl_toS]
      intro c hc
      simp only [List.mem_append, List.mem_singleton] at hc
      rcases hc with (rfl | hc) | rfl
      · decide
      · exact ro c hc
      · decide
  rcases List.mem_cons.mp hv with rfl | hv
  · refine ⟨.tuple [.str x], .inr ⟨_, .base (.tup ht), by rfl⟩, .inl (.tup (.inl (.inl ht)) (.cons (.str x) .nil)), rfl, ?_, by simp [PyData.depth, PyData.depthAll], ?_⟩
    · simp only [PyData.shown, PyData.shownAll]
      rw [tuple_text, toS_len, List.length_append, List.length_append]
      show 1 + _ + 2 ≤ _
      omega
    · simp only [PyData.shown, PyData.shownAll]
      rw [tuple_text, ok_str, tl_toS]
      intro c hc
      simp only [List.mem_append, List.mem_cons, List.not_mem_nil, or_false] at hc
      rcases hc with (rfl | hc) | rfl | rfl
      · decide
      · exact ro c hc
      · decide
      · decide
  · rw [List.mem_singleton.mp hv]
    exact ⟨.dict [], .inr ⟨_, .base (.dK hd), by rfl⟩, .inr ⟨d1, rfl, hd, rfl⟩, rfl, by simp only [PyData.shown, PyData.shownKv]; decide +kernel, by decide, by simp only [PyData.shown, PyData.shownKv]; decide +kernel⟩
/-- if said(value) != due: return False -/
theorem turn_due {K : PySem.W.Frag} {u : W} {q : Addr} {σ : L2.St} {H : Hp} {D : Ends} (hx : σ[9]? = some (some (sv u))) (hq : σ[10]? = some (some (.ref q))) (bt : Bent u)
    (h : ((cutM LD SG u).bind (readM srt) = none ∧ H q = some (.lst [.str (reprText (toS u)), .bl true])) ∨ ((cutM LD SG u).bind (readM srt) ≠ none ∧ H q = some (.lst []))) (fin : ∀ H', Same H H' → D.nx σ H') :
    tIfS (tTest (tOp (rNeD K) (tCall (spSaid K) [] E0 (tCons (tVar 9) tNil)) (tVar 10))) (tRet (tC (V.bl false))) tNext D σ H := by
  obtain ⟨fi, lw⟩ := bent_fine bt.len bt.dots bt.low
  rcases h with ⟨no, hh⟩ | ⟨yes, hh⟩
  · have sh : Shows K H (sv u) (.str (toS u)) := str_shows lw bt.len
    refine ⟨sv u, hx, sv u, rfl, .inl ⟨.inl ⟨toS u, rfl, fi, no⟩, .str (toS u), sh.at_, sh.can, sh.len, sh.dep, fun p H1 hp s1 m1 => ?_⟩⟩
    have ok := sh.ok
    simp only [PyData.shown] at m1 ok
    exact ⟨_, hq, refD (reprText (toS u)), refD (reprText (toS u)), ref_dp m1, ref_dp (s1 _ _ hh), ref_shaped ok, ref_shaped ok, _, rfl, if_eq (ref_eqv ok) (fin _ s1)⟩
  · obtain ⟨rs, hrs⟩ := Option.ne_none_iff_exists'.mp yes
    refine ⟨sv u, hx, sv u, rfl, .inr ⟨toS u, rs, rfl, fi, hrs, few_of hrs bt.cnt bt.dots (by decide), fun p H1 hp s1 m1 => ?_⟩⟩
    exact ⟨_, hq, .list [], .list [], .lst (SqL.of m1) .nil, .lst (SqL.of (s1 _ _ hh)) .nil, by decide, by decide, _, rfl, if_eq (by decide +kernel) (fin _ s1)⟩
end K02

namespace K02
open PySem L2 DR DM TL
theorem ks_names : ∀ k ∈ KS, isName k = true := by decide +kernel
theorem ms_names : ∀ m ∈ MS, isName m = true := by decide +kernel
theorem ms_good : areNames MS = true := by decide +kernel
def BIGS : List Str := ["a(" ++ toS (List.replicate (201 : Int).toNat [98, 44]).flatten ++ ")", toS (List.replicate (300 : Int).toNat [97, 40]).flatten, "a(" ++ toS (List.replicate (250 : Int).toNat [98, 44]).flatten ++ "b.c.c)"]
theorem bigs_bad : ∀ t ∈ BIGS, (fixB (tl t) && !acc 0 [44] (tl t)) = true := by decide +kernel
theorem last_good : ∃ rs, (cutM LD SG (tl "abcdefgh.abcdefgh(b)")).bind (readM srt) = some rs ∧ Few rs ∧ Fine "abcdefgh.abcdefgh(b)" := by
  have h : (cutM LD SG (tl "abcdefgh.abcdefgh(b)")).bind (readM srt) ≠ none := fun z => absurd ((acc_read srt _).mp z) (by decide +kernel)
  obtain ⟨rs, hrs⟩ := Option.ne_none_iff_exists'.mp h
  exact ⟨rs, hrs, few_of (n := 1) hrs (by decide +kernel) (dots_small (by decide +kernel)) (by decide), (fixB_ok (by decide +kernel)).1⟩
section
variable {P : Program} {w : World} {K : PySem.W.Frag} {mg : Str → Option Value} {base : Heap}
theorem scLaw : FnScope ["_law_script", "_law_some", "_law_text_here", "_law_k", "_law_pool_here", "_law_turn", "_law_at_here", "_law_sign", "_law_bent", "_law_value", "_law_due", "_law_odd"] ["_law_script"] (defScope sLaw) := ⟨rfl, rfl, rfl, by decide +kernel, rfl, by decide +kernel, by decide +kernel⟩
theorem ok_law {f : Addr} {fd : FuncData} (F : Fun K "law" "law" sLaw f fd) (T : Txt mg) (W0 : Short KS MS) (rp : mg "repr" = none) (D : Defs P w K mg base) : FnI P w K mg base CX0 104 f fd ["_law_script"] (spLaw K) := by
  obtain ⟨f1, fd1, G1, m1, k1, b1⟩ := D.pool
  obtain ⟨f2, fd2, G2, m2, k2, b2⟩ := D.take
  obtain ⟨f3, fd3, G3, m3, k3, b3⟩ := D.node
  obtain ⟨f4, fd4, G4, m4, k4, b4⟩ := D.text
  obtain ⟨f5, fd5, G5, m5, k5, b5⟩ := D.read
  obtain ⟨f6, fd6, G6, m6, k6, b6⟩ := D.said
  refine fnI_of F scLaw (fun vs H Q E h => ?_) (fun cdv A outer s H vs Q E hi hr h => ?_)
  · obtain ⟨_, _, rfl, _⟩ := h
    rfl
  · obtain ⟨sc, ns, rfl, hS, len, fin⟩ := h
    have hu := hr.units
    have hr1 : Room 1 _ := hr.mono (by decide)
    have hr5 : Room 5 _ := hr.mono (by decide)
    have hr6 : Room 6 _ := hr.mono (by decide)
    refine ⟨_, PSs.nox (pss_cons (ps_set (i := 1) scLaw.nd rfl (Or.inl rfl) (pe_lst (pa_cons pe_str (pa_cons pe_str (pa_cons pe_str (pa_cons pe_str (pa_cons pe_str (pa_cons pe_str (pa_cons pe_str (pa_cons pe_str (pa_cons pe_str (pa_cons pe_str (pa_cons pe_str (pa_cons pe_str (pa_cons pe_str (pa_cons pe_str (pa_cons pe_str pa_nil)))))))))))))))))
      (pss_cons (ps_set (i := 1) scLaw.nd rfl (Or.inl rfl) (pe_op op_cat (pv 1) (pe_lst (pa_cons pe_str (pa_cons pe_str (pa_cons pe_str (pa_cons pe_str (pa_cons pe_str (pa_cons pe_str (pa_cons pe_str (pa_cons pe_str (pa_cons pe_str (pa_cons pe_str pa_nil)))))))))))))
      (pss_cons (ps_set (i := 1) scLaw.nd rfl (Or.inl rfl) (pe_op op_cat (pv 1) (pe_lst (pa_cons pe_str (pa_cons pe_str pa_nil)))))
      (pss_cons (ps_for PassesOwn.never rfl (pi_list (pv 1)) (pg_name (i := 2) scLaw.nd rfl (Or.inl rfl))
        (pss_one (ps_if (pt_cmpR (op_neD hu) (pe_callI G6 hi hr6 (by rfl) m6 k6 b6 .nil pass0 (pa_cons (pv 2) pa_nil)) (pe_lst (pa_cons (pe_callB (call_repr hi hu) (by rfl) rp PyProof.Rows.boot_repr (pa_cons (pv 2) pa_nil)) (pa_cons pe_bl pa_nil))) (nomark _)) (pss_one (ps_ret pe_bl)) pss_nil)))
      (pss_cons (ps_for PassesOwn.never rfl (pi_range1 (by rfl) T.range (pa_cons (pe_callB (call_max2 rfl) (by rfl) T.max PyProof.Rows.boot_max (pa_cons pe_int (pa_cons (pe_callB (call_min2 rfl) (by rfl) T.min PyProof.Rows.boot_min (pa_cons pe_int (pa_cons (pe_callB call_len_seq (by rfl) T.len PySem.boot_len (pa_cons (pv 0) pa_nil)) pa_nil))) pa_nil))) pa_nil)) (pg_name (i := 3) scLaw.nd rfl (Or.inl rfl))
        (pss_cons (ps_set (i := 4) scLaw.nd rfl (Or.inl rfl) (pe_call G1 hr1 (by rfl) m1 k1 b1 .nil pass0 (pa_cons (pv 0) (pa_cons (pv 3) pa_nil))))
        (pss_cons (ps_set (i := 2) scLaw.nd rfl (Or.inl rfl) (pe_call G4 hr5 (by rfl) m4 k4 b4 .nil pass0 (pa_cons (pe_call G3 hr5 (by rfl) m3 k3 b3 .nil pass0 (pa_cons (pv 4) (pa_cons pe_int
          (pa_cons (pe_lst (pa_cons pe_str (pa_cons pe_str (pa_cons pe_str pa_nil)))) (pa_cons (pe_lst (pa_cons pe_str (pa_cons pe_str pa_nil))) pa_nil))))) pa_nil)))
        (pss_cons (ps_for PassesOwn.never rfl (pi_range1 (by rfl) T.range (pa_cons pe_int pa_nil)) (pg_name (i := 5) scLaw.nd rfl (Or.inl rfl))
          (pss_cons (ps_par (i := 6) (j := 7) (by rfl) scLaw.nd rfl rfl (by decide) rfl rfl (pa_cons (pe_call G2 hr1 (by rfl) m2 k2 b2 .nil pass0 (pa_cons (pv 4) (pa_cons (pe_op op_add (pe_callB call_len_str (by rfl) T.len PySem.boot_len (pa_cons (pv 2) pa_nil)) pe_int) pa_nil)))
              (pa_cons (pe_ix ix_str pe_str (pe_call G2 hr1 (by rfl) m2 k2 b2 .nil pass0 (pa_cons (pv 4) (pa_cons pe_int pa_nil))) (fun _ _ => rfl)) pa_nil)) (by rfl))
          (pss_cons (ps_set (i := 8) scLaw.nd rfl (Or.inl rfl) (pe_lst (pa_cons (pe_op op_add_str (pe_op op_add_str (pe_slice sl_str (pv 2) po_none (po_some (pv 6))) (pv 7)) (pe_slice sl_str (pv 2) (po_some (pv 6)) po_none))
              (pa_cons (pe_op op_add_str (pe_slice sl_str (pv 2) po_none (po_some (pv 6))) (pe_slice sl_str (pv 2) (po_some (pe_op op_add (pv 6) pe_int)) po_none))
              (pa_cons (pe_op op_add_str (pe_op op_add_str (pe_slice sl_str (pv 2) po_none (po_some (pv 6))) (pv 7)) (pe_slice sl_str (pv 2) (po_some (pe_op op_add (pv 6) pe_int)) po_none)) pa_nil)))))
          (pss_cons (ps_set (i := 9) scLaw.nd rfl (Or.inl rfl) (pe_ix ix_list (pv 8) (pe_call G2 hr1 (by rfl) m2 k2 b2 .nil pass0 (pa_cons (pv 4) (pa_cons pe_int pa_nil))) (fun _ _ => rfl)))
          (pss_cons (ps_set (i := 10) scLaw.nd rfl (Or.inl rfl) (pe_ifExp (pt_cmpR op_eq (pe_call G5 hr (by rfl) m5 k5 b5 .nil pass0 (pa_cons (pv 9) (pa_cons pe_int pa_nil))) (pe_callB call_len_str (by rfl) T.len PySem.boot_len (pa_cons (pv 9) pa_nil)) rfl)
              (pe_lst pa_nil) (pe_lst (pa_cons (pe_callB (call_repr hi hu) (by rfl) rp PyProof.Rows.boot_repr (pa_cons (pv 9) pa_nil)) (pa_cons pe_bl pa_nil)))))
          (pss_one (ps_if (pt_cmpR (op_neD hu) (pe_callI G6 hi hr6 (by rfl) m6 k6 b6 .nil pass0 (pa_cons (pv 9) pa_nil)) (pv 10) (nomark _)) (pss_one (ps_ret pe_bl)) pss_nil)))))))
        (pss_one (ps_for PassesOwn.never rfl (pi_list (pe_lst (pa_cons pe_non (pa_cons pe_int (pa_cons pe_bl (pa_cons (pe_lst (pa_cons (pv 2) pa_nil)) (pa_cons (pe_tup (pa_cons (pv 2) pa_nil)) (pa_cons pe_dnewK pa_nil)))))))) (pg_name (i := 11) scLaw.nd rfl (Or.inl rfl))
          (pss_one (ps_if (pt_cmpR (op_neD hu) (pe_callI G6 hi hr6 (by rfl) m6 k6 b6 .nil pass0 (pa_cons (pv 11) pa_nil)) (pe_lst (pa_cons (pe_callB (call_repr hi hu) (by rfl) rp PyProof.Rows.boot_repr (pa_cons (pv 11) pa_nil)) (pa_cons pe_bl pa_nil))) (nomark _)) (pss_one (ps_ret pe_bl)) pss_nil))))))))
      (pss_cons (ps_for PassesOwn.never rfl (pi_list (pe_lst (pa_cons (pe_op op_add_str (pe_op op_add_str pe_str (pe_op op_mul_text pe_str pe_int)) pe_str) (pa_cons (pe_op op_mul_text pe_str pe_int) (pa_cons (pe_op op_add_str (pe_op op_add_str pe_str (pe_op op_mul_text pe_str pe_int)) pe_str) pa_nil))))) (pg_name (i := 2) scLaw.nd rfl (Or.inl rfl))
        (pss_one (ps_if (pt_cmpR (op_neD hu) (pe_callI G6 hi hr6 (by rfl) m6 k6 b6 .nil pass0 (pa_cons (pv 2) pa_nil)) (pe_lst (pa_cons (pe_callB (call_repr hi hu) (by rfl) rp PyProof.Rows.boot_repr (pa_cons (pv 2) pa_nil)) (pa_cons pe_bl pa_nil))) (nomark _)) (pss_one (ps_ret pe_bl)) pss_nil)))
      (pss_one (ps_ret (pe_cmpR (op_eqD hu) (pe_callI G6 hi hr6 (by rfl) m6 k6 b6 .nil pass0 (pa_cons pe_str pa_nil)) (pe_lst pa_nil) (nomark _)))))))))), ?_⟩
    refine ⟨by show 15 ≤ sizeLine; decide, fun p1 n1 => ?_⟩
    refine ⟨_, rfl, by show 10 ≤ sizeLine; decide, fun p2 n2 => ⟨p1, p2, _, _, rfl, rfl, (upd_ne (ne_of_none upd_same n2)).trans upd_same, upd_same, by show 25 ≤ sizeLine; decide, fun p3 n3 => ?_⟩⟩
    refine ⟨_, rfl, by show 2 ≤ sizeLine; decide, fun p4 n4 => ⟨p3, p4, _, _, rfl, rfl, (upd_ne (ne_of_none upd_same n4)).trans upd_same, upd_same, by show 27 ≤ sizeLine; decide, fun p5 n5 => ?_⟩⟩
    generalize g5 : upd _ p5 _ = H5
    have m5 : H5 p5 = some (.lst (SOME.map V.str)) := g5 ▸ upd_same
    have s5 : Same H H5 := g5 ▸ (same_new n1).trans ((same_new n2).trans ((same_new n3).trans ((same_new n4).trans (same_new n5))))
    clear g5
    refine ⟨_, rfl, p5, rfl, ⟨_, SqL.of m5⟩, for_it (walk_list (K := K) (a := p5) (xs := SOME.map V.str)) (fun i σ H' => ∃ o2 : Option V, σ = [some (.ref sc), some (.ref p5), o2, none, none, none, none, none, none, none, none, none] ∧ Same H5 H')
      ⟨none, rfl, Same.refl _⟩ (fun i σ H' _ ⟨_, _, s⟩ => s.seq (SqL.of m5)) ?_ ?_⟩
    · rintro i x σ H1 H2 hi2 ⟨o2, rfl, s1⟩ ⟨rfl, hx⟩
      rw [List.getElem?_map] at hx
      obtain ⟨t, ht, rfl⟩ := Option.map_eq_some_iff.mp hx
      obtain ⟨b, sh⟩ := str_bad (K := K) (H := H2) (some_bad t (List.mem_of_getElem? ht))
      exact turn_bad (i := 2) rfl b sh fun H' s => ⟨_, rfl, s1.trans s⟩
    rintro σ H1 ⟨o2, rfl, s1⟩
    have s01 := s5.trans s1
    have B := big
    refine ⟨_, rfl, sc, _, rfl, .inl (s01.seq hS), _, _, rfl, _, _, rfl, ?_⟩
    generalize hn : (if (if ((List.map V.int ns).length : Int) < 12 then ((List.map V.int ns).length : Int) else 12) > 1 then (if ((List.map V.int ns).length : Int) < 12 then ((List.map V.int ns).length : Int) else 12) else 1) = n
    have n12 : 1 ≤ n ∧ n ≤ 12 := by
      rw [← hn]
      split <;> split <;> omega
    refine ⟨n, rfl, by omega, by omega, for_it (walk_range (lo := 0) (n := n.toNat)) (fun i σ H2 => ∃ o2 o3 o4 o5 o6 o7 o8 o9 o10 o11 : Option V, σ = [some (.ref sc), some (.ref p5), o2, o3, o4, o5, o6, o7, o8, o9, o10, o11] ∧ Same H1 H2) ⟨_, _, _, _, _, _, _, _, _, _, rfl, Same.refl _⟩ (fun _ _ _ _ _ => trivial) ?_ ?_⟩
    · rintro i x σ H0 H2 hi2 ⟨o2, o3, o4, o5, o6, o7, o8, o9, o10, o11, rfl, s2⟩ ⟨rfl, rfl⟩
      have z0 : (0 : Int) + ((i : Nat) : Int) = ((i : Nat) : Int) := Int.zero_add _
      show gName 3 (V.int ((0 : Int) + ((i : Nat) : Int))) _ _ _
      rw [z0]
      refine ⟨_, rfl, _, rfl, sc, ns, _, rfl, (s01.trans s2).seq hS, len, by omega, by omega, fun p pa pb H3 np s3 hp => ?_⟩
      refine ⟨_, rfl, by show 3 ≤ sizeLine; decide, fun ka hka => ?_⟩
      generalize g4 : upd H3 ka _ = H4
      have s4 : Same H3 H4 := g4 ▸ same_new hka
      have k4 : H4 ka = some (.lst (KS.map sv)) := g4 ▸ upd_same
      refine ⟨by show 2 ≤ sizeLine; decide, fun ma hma => ?_⟩
      generalize g6 : upd H4 ma _ = H6
      have s6 : Same H4 H6 := g6 ▸ same_new hma
      have m6 : H6 ma = some (.lst (MS.map sv)) := g6 ▸ upd_same
      have p6 : Pool H6 p pa pb := ⟨s6 _ _ (s4 _ _ hp.1), hp.2⟩
      refine ⟨p, ka, ma, pa, pb, rfl, p6, s6 _ _ k4, m6, fun v t H7 a7 b7 o7' p7 nd ft => ?_⟩
      have s27 : Same H2 H7 := fun x o e => by
        refine o7' x o (fun z => ?_) (s6 _ _ (s4 _ _ (s3 _ _ e)))
        rw [z, np] at e
        cases e
      refine ⟨v, t, _, rfl, nd, ft, fun H8 s8 => ?_⟩
      have s28 := s27.trans s8
      have p8 : Pool H8 p a7 b7 := ⟨s8 _ _ p7.1, p7.2⟩
      clear nd
      -- what is known of the text
      have tlen : (txt t).length ≤ 5000 := Nat.le_trans (txt_len W0 3 t ft).1 (by decide)
      obtain ⟨tdots, tcnt⟩ := txt_counts W0 ks_names ms_names 3 t ft
      have tcnt : sgc (txt t) ≤ 39 := tcnt
      have tlow := txt_low ks_names ms_good 3 t ft
      generalize txt t = T0 at tlen tdots tcnt tlow
      refine ⟨8, rfl, by decide, by decide, for_it (walk_range (lo := 0) (n := 8)) (fun j σ H9 => ∃ (a b : Int) (o5 o6 o7 o8 o9 o10 : Option V), σ = [some (.ref sc), some (.ref p5), some (sv T0), some (.int ((i : Nat) : Int)), some (.ref p), o5, o6, o7, o8, o9, o10, o11] ∧ Same H2 H9 ∧ Pool H9 p a b)
        ⟨a7, b7, _, _, _, _, _, _, rfl, s28, p8⟩ (fun _ _ _ _ _ => trivial) ?_ ?_⟩
      · rintro j x σ Hx H9 hj ⟨a9, b9, o5, o6, o7, o8, o9, o10, rfl, s9, p9⟩ ⟨rfl, rfl⟩
        have z1 : (0 : Int) + ((j : Nat) : Int) = ((j : Nat) : Int) := Int.zero_add _
        show gName 5 (V.int ((0 : Int) + ((j : Nat) : Int))) _ _ _
        rw [z1]
        have tl0 : (toS T0).length = T0.length := toS_len T0
        have put : ∀ {Ha : Hp} {a b : Int} {o : HO}, Same H2 Ha → Pool Ha p a b → Same H2 (upd Ha p o) := fun {Ha a b o} sa pa x o' e => by
          rw [upd_ne (ne_of_none e np)]
          exact sa x o' e
        refine ⟨_, rfl, _, rfl, toS T0, rfl, by omega, _, _, rfl, rfl, p, _, a9, b9, rfl, p9, by omega, by omega, fun di a10 b10 d0 d1 q1 q2 q3 => ?_⟩
        obtain ⟨d, rfl⟩ : ∃ d : Nat, di = (d : Int) := ⟨di.toNat, by omega⟩
        have dl : d ≤ T0.length := by omega
        generalize g10 : upd H9 p _ = H10
        have s10 : Same H2 H10 := g10 ▸ put s9 p9
        have p10 : Pool H10 p a10 b10 := ⟨g10 ▸ upd_same, q1, q2, q3⟩
        clear g10
        refine ⟨_, rfl, p, 11, a10, b10, rfl, p10, by decide, by decide, fun ei a11 b11 e0 e1 r1 r2 r3 => ?_⟩
        obtain ⟨e, rfl⟩ : ∃ e : Nat, ei = (e : Int) := ⟨ei.toNat, by omega⟩
        generalize g11 : upd H10 p _ = H11
        have s11 : Same H2 H11 := g11 ▸ put s10 p10
        have p11 : Pool H11 p a11 b11 := ⟨g11 ▸ upd_same, r1, r2, r3⟩
        clear g11
        have sg : (Str.ofString "ab.(),z  A1").cps.toList = SIGNS := by decide +kernel
        obtain ⟨c, hc⟩ : ∃ c, SIGNS[e]? = some c := ⟨_, List.getElem?_eq_getElem (show e < SIGNS.length by show e < 11; omega)⟩
        have cl := signs_low c (List.mem_of_getElem? hc)
        refine ⟨_, _, c, rfl, rfl, by decide +kernel, by rw [sg]; exact atI_nat hc, _, _, rfl, ?_⟩
        have cle : ∀ lo hi, (cutS (toS T0) lo hi).length ≤ 5000 := fun lo hi => Nat.le_trans (cutS_length _ _ _) (by omega)
        have one : (⟨#[c]⟩ : Str).length = 1 := rfl
        have add1 : ∀ a : Str, a.length ≤ 5000 → a.length + (⟨#[c]⟩ : Str).length ≤ sizeLine := fun a h => by rw [one]; omega
        have add2 : ∀ a b : Str, a.length ≤ 5000 → b.length ≤ 5000 → (a ++ ⟨#[c]⟩).length + b.length ≤ sizeLine := fun a b h1 h2 => by rw [strLen_append, one]; omega
        have add3 : ∀ a b : Str, a.length ≤ 5000 → b.length ≤ 5000 → a.length + b.length ≤ sizeLine := fun a b h1 h2 => by omega
        have tz : (toS T0).length ≤ sizeLine := by omega
        refine ⟨_, rfl, _, rfl, _, rfl, toS T0, rfl, tz, _, rfl, _, _, rfl, rfl, add1 _ (cle _ _), _, rfl, _, rfl, _, rfl, toS T0, rfl, tz, _, _, rfl, rfl, add2 _ _ (cle _ _) (cle _ _),
          _, rfl, _, rfl, _, rfl, toS T0, rfl, tz, _, rfl, _, rfl, _, _, rfl, rfl, _, rfl, toS T0, rfl, tz, _, _, rfl, rfl, add3 _ _ (cle _ _) (cle _ _), ?_⟩
        refine ⟨_, rfl, _, rfl, _, rfl, toS T0, rfl, tz, _, rfl, _, _, rfl, rfl, add1 _ (cle _ _), _, rfl, _, rfl, _, _, rfl, rfl, _, rfl, toS T0, rfl, tz, _, _, rfl, rfl, add2 _ _ (cle _ _) (cle _ _), by show 3 ≤ sizeLine; decide, fun q hq => ?_⟩
        have c1 : cutS (toS T0) none (some ((d : Nat) : Int)) = toS (T0.take d) := cut_upto T0 dl
        have c2 : cutS (toS T0) (some ((d : Nat) : Int)) none = toS (T0.drop d) := cut_behind T0 d
        have c3 : cutS (toS T0) (some (((d : Nat) : Int) + 1)) none = toS (T0.drop (d + 1)) := cut_behind T0 (d + 1)
        rw [c1, c2, c3, toS_one c, toS_app, toS_app, toS_app, toS_app]
        have bts : ∀ u, u ∈ [T0.take d ++ [c] ++ T0.drop d, T0.take d ++ T0.drop (d + 1), T0.take d ++ [c] ++ T0.drop (d + 1)] → Bent u := fun u hu => by
          have i1 : T0.take d <:+: T0 := (List.take_prefix d T0).isInfix
          have i2 : ∀ k, T0.drop k <:+: T0 := fun k => (List.drop_suffix k T0).isInfix
          have w1 : Low [c] := fun x hx => by rw [List.mem_singleton.mp hx]; exact cl
          rcases List.mem_cons.mp hu with rfl | hu
          · exact bent_of tlen tdots tcnt tlow i1 (i2 d) (Nat.le_refl 1) w1
          rcases List.mem_cons.mp hu with rfl | hu
          · have := bent_of (m := []) tlen tdots tcnt tlow i1 (i2 (d + 1)) (by decide) (fun x hx => nomatch hx)
            rwa [List.append_nil] at this
          · rw [List.mem_singleton.mp hu]
            exact bent_of tlen tdots tcnt tlow i1 (i2 (d + 1)) (Nat.le_refl 1) w1
        generalize g12 : upd H11 q _ = H12
        have s12 : Same H2 H12 := g12 ▸ s11.trans (same_new hq)
        have p12 : Pool H12 p a11 b11 := ⟨g12 ▸ same_new hq _ _ p11.1, p11.2⟩
        have m12 : H12 q = some (.lst ([T0.take d ++ [c] ++ T0.drop d, T0.take d ++ T0.drop (d + 1), T0.take d ++ [c] ++ T0.drop (d + 1)].map sv)) := g12 ▸ upd_same
        have nq : q ≠ p := fun z => by
          rw [z] at hq
          exact p11.at_ hq
        clear g12
        have b3 : [T0.take d ++ [c] ++ T0.drop d, T0.take d ++ T0.drop (d + 1), T0.take d ++ [c] ++ T0.drop (d + 1)].length = 3 := rfl
        generalize [T0.take d ++ [c] ++ T0.drop d, T0.take d ++ T0.drop (d + 1), T0.take d ++ [c] ++ T0.drop (d + 1)] = BT at bts m12 b3
        refine ⟨_, rfl, _, rfl, p, 3, a11, b11, rfl, p12, by decide, by decide, fun gi a13 b13 g0 g1 t1 t2 t3 => ?_⟩
        obtain ⟨g, rfl⟩ : ∃ g : Nat, gi = (g : Int) := ⟨gi.toNat, by omega⟩
        generalize g13 : upd H12 p _ = H13
        have s13 : Same H2 H13 := g13 ▸ put s12 p12
        have p13 : Pool H13 p a13 b13 := ⟨g13 ▸ upd_same, t1, t2, t3⟩
        have m13 : H13 q = some (.lst (BT.map sv)) := by
          rw [← g13, upd_ne nq]
          exact m12
        clear g13
        have gl : g < BT.length := by omega
        refine ⟨q, _, _, _, rfl, rfl, SqL.of m13, atI_nat (v := sv BT[g]) (by rw [List.getElem?_map, List.getElem?_eq_getElem gl]; rfl), ?_⟩
        have bt := bts BT[g] (List.getElem_mem gl)
        generalize BT[g] = u at bt
        obtain ⟨x, rdx⟩ := (rd_all u.length).1 u (Nat.le_refl _)
        have ul : (toS u).length = u.length := toS_len u
        have rr := rd_read srt rdx
        have usz : (toS u).length ≤ sizeLine := by
          rw [ul]
          have := bt.len
          omega
        have shw : Shows K H13 (sv u) (.str (toS u)) := str_shows bt.low bt.len
        have onward : ∀ (Ha : Hp) (q2 : Addr), Same H13 Ha → (((cutM LD SG u).bind (readM srt) = none ∧ Ha q2 = some (.lst [.str (reprText (toS u)), .bl true])) ∨ ((cutM LD SG u).bind (readM srt) ≠ none ∧ Ha q2 = some (.lst []))) → ∀ Hb, Same Ha Hb →
            ∃ (a b : Int) (o5' o6' o7' o8' o9' o10' : Option V), [some (V.ref sc), some (V.ref p5), some (sv T0), some (.int ((i : Nat) : Int)), some (.ref p), some (.int ((j : Nat) : Int)), some (.int ((d : Nat) : Int)), some (.str ⟨#[c]⟩), some (.ref q), some (sv u), some (.ref q2), o11] =
              [some (V.ref sc), some (.ref p5), some (sv T0), some (.int ((i : Nat) : Int)), some (.ref p), o5', o6', o7', o8', o9', o10', o11] ∧ Same H2 Hb ∧ Pool Hb p a b := fun Ha q2 sa _ Hb sb =>
          ⟨a13, b13, _, _, _, _, _, _, rfl, s13.trans (sa.trans sb), (sa.trans sb) _ _ p13.1, p13.2⟩
        have refused : ∀ (Ha : Hp), Same H13 Ha → (cutM LD SG u).bind (readM srt) = none → ∀ q2, Ha q2 = none → Same H13 (upd Ha q2 (.lst [.str (reprText (toS u)), .bl true])) := fun Ha sa _ q2 n2 => sa.trans (same_new n2)
        refine ⟨_, rfl, toS u, 0, x, rfl, bt.len, Nat.zero_le _, rdx, Nat.le_trans (count40_le u) bt.cnt, fun e H14 s14 => ?_, fun jj jl e H14 s14 => ?_⟩
        · subst e
          have no := rr.mpr (fun z => nomatch z)
          refine ⟨_, rfl, toS u, rfl, usz, rfl, _, rfl, ?_⟩
          refine iteF ⟨_, rfl, sv u, .str (toS u), rfl, shw.at_.same s14, shw.can, shw.len, shw.dep, by show 2 ≤ sizeLine; decide, fun q2 n2 => ?_⟩
          exact turn_due rfl rfl bt (.inl ⟨no, upd_same⟩) (onward _ q2 (s14.trans (same_new n2)) (.inl ⟨no, upd_same⟩))
        · refine ⟨_, rfl, toS u, rfl, usz, rfl, _, rfl, ?_⟩
          have jl : jj ≤ u.length := jl
          by_cases je : jj = u.length
          · have yes : (cutM LD SG u).bind (readM srt) ≠ none := fun z => rr.mp z (by
              rw [e]
              show some (u.drop jj) = some []
              rw [je, List.drop_length])
            rw [ul, decide_eq_true (show nv jj = V.int ((u.length : Nat) : Int) by rw [je]; rfl)]
            refine iteT ⟨by show 0 ≤ sizeLine; decide, fun q2 n2 => ?_⟩
            exact turn_due rfl rfl bt (.inr ⟨yes, upd_same⟩) (onward _ q2 (s14.trans (same_new n2)) (.inr ⟨yes, upd_same⟩))
          · have no := rr.mpr (fun z => je (by
              rw [e] at z
              have z : u.drop jj = [] := Option.some.inj z
              have := List.drop_eq_nil_iff.mp z
              omega))
            rw [ul, decide_eq_false (show ¬ nv jj = V.int ((u.length : Nat) : Int) from fun z => je (by injection z with z; omega))]
            refine iteF ⟨_, rfl, sv u, .str (toS u), rfl, shw.at_.same s14, shw.can, shw.len, shw.dep, by show 2 ≤ sizeLine; decide, fun q2 n2 => ?_⟩
            exact turn_due rfl rfl bt (.inl ⟨no, upd_same⟩) (onward _ q2 (s14.trans (same_new n2)) (.inl ⟨no, upd_same⟩))
      rintro σ H9 ⟨a9, b9, o5, o6, o7, o8, o9, o10, rfl, s9, p9⟩
      refine ⟨_, rfl, by show 1 ≤ sizeLine; decide, fun l1 n1 => ⟨_, rfl, by show 1 ≤ sizeLine; decide, fun t1 n2 => fun d1 n3 => ⟨by show 6 ≤ sizeLine; decide, fun q n4 => ?_⟩⟩⟩
      generalize ga : upd H9 l1 _ = Ha at n2 n3 n4 ⊢
      have sa : Same H9 Ha := ga ▸ same_new n1
      have ma : Ha l1 = some (.lst [.str (toS T0)]) := ga ▸ upd_same
      generalize gb : upd Ha t1 _ = Hb at n3 n4 ⊢
      have sb : Same Ha Hb := gb ▸ same_new n2
      have mb : Hb t1 = some (.tup [.str (toS T0)]) := gb ▸ upd_same
      generalize gc : upd Hb d1 _ = Hc at n4 ⊢
      have sc' : Same Hb Hc := gc ▸ same_new n3
      have mc : Hc d1 = some (.dK []) := gc ▸ upd_same
      generalize gd : upd Hc q _ = Hd
      have sd : Same Hc Hd := gd ▸ same_new n4
      have md : Hd q = some (.lst [.non, .int 5, .bl true, .ref l1, .ref t1, .ref d1]) := gd ▸ upd_same
      refine ⟨q, rfl, ⟨_, SqL.of md⟩, for_it (walk_list (K := K) (a := q) (xs := [V.non, .int 5, .bl true, .ref l1, .ref t1, .ref d1])) (fun j σ He => ∃ o11' : Option V, σ = [some (.ref sc), some (.ref p5), some (sv T0), some (.int ((i : Nat) : Int)), some (.ref p), o5, o6, o7, o8, o9, o10, o11'] ∧ Same Hd He)
        ⟨_, rfl, Same.refl _⟩ (fun j σ He _ ⟨_, _, s⟩ => s.seq (SqL.of md)) ?_ ?_⟩
      · rintro j x σ He Hf hj ⟨o11', rfl, se⟩ ⟨rfl, hx⟩
        obtain ⟨dd, bd, sh⟩ := odd_bad (K := K) (x := toS T0) tlow (by show T0.length ≤ 30000; omega) (se _ _ (sd _ _ (sc' _ _ (sb _ _ ma)))) (se _ _ (sd _ _ (sc' _ _ mb))) (se _ _ (sd _ _ mc)) (List.mem_of_getElem? hx)
        exact turn_bad (i := 11) rfl bd sh fun H' s => ⟨_, rfl, se.trans s⟩
      · rintro σ He ⟨o11', rfl, se⟩
        exact ⟨_, _, _, _, _, _, _, _, _, _, rfl, s2.trans (s9.trans (sa.trans (sb.trans (sc'.trans (sd.trans se)))))⟩
    rintro σ H2 ⟨o2, o3, o4, o5, o6, o7, o8, o9, o10, o11, rfl, s2⟩
    have eb : V.str "b," = sv [98, 44] := by decide +kernel
    have ea : V.str "a(" = sv [97, 40] := by decide +kernel
    refine ⟨[98, 44], 201, eb, rfl, by decide, by decide, by decide, by decide, _, _, rfl, rfl, by decide +kernel, _, _, rfl, rfl, by decide +kernel, [97, 40], 300, ea, rfl, by decide, by decide, by decide, by decide,
      [98, 44], 250, eb, rfl, by decide, by decide, by decide, by decide, _, _, rfl, rfl, by decide +kernel, _, _, rfl, rfl, by decide +kernel, by show 3 ≤ sizeLine; decide, fun q hq => ?_⟩
    generalize g3 : upd H2 q _ = H3
    have m3 : H3 q = some (.lst (BIGS.map V.str)) := g3 ▸ upd_same
    clear g3
    refine ⟨q, rfl, ⟨_, SqL.of m3⟩, for_it (walk_list (K := K) (a := q) (xs := BIGS.map V.str)) (fun i σ H' => ∃ o2 : Option V, σ = [some (.ref sc), some (.ref p5), o2, o3, o4, o5, o6, o7, o8, o9, o10, o11] ∧ Same H3 H')
      ⟨_, rfl, Same.refl _⟩ (fun i σ H' _ ⟨_, _, s⟩ => s.seq (SqL.of m3)) ?_ ?_⟩
    · rintro i x σ Ha Hb hi2 ⟨o2, rfl, s1⟩ ⟨rfl, hx⟩
      rw [List.getElem?_map] at hx
      obtain ⟨t, ht, rfl⟩ := Option.map_eq_some_iff.mp hx
      obtain ⟨b, sh⟩ := str_bad (K := K) (H := Hb) (bigs_bad t (List.mem_of_getElem? ht))
      exact turn_bad (i := 2) rfl b sh fun H' s => ⟨_, rfl, s1.trans s⟩
    rintro σ Ha ⟨o2, rfl, s1⟩
    obtain ⟨rs, hrs, few, fi⟩ := last_good
    refine ⟨_, rfl, .inr ⟨_, rs, rfl, fi, hrs, few, fun p H1 hp s1 m1 => ⟨by show 0 ≤ sizeLine; decide, fun q2 n2 => ?_⟩⟩⟩
    refine ⟨.list [], .list [], .lst (SqL.of (same_new n2 _ _ m1)) .nil, .lst (SqL.of upd_same) .nil, by decide, by decide, ?_⟩
    rw [show PyData.eqv (.list []) (.list []) = true from by decide +kernel]
    exact fin _
end
end K02

namespace K02
open PySem L2 DR DM TL PySem.HandSPX PySem.Calls
theorem short2 : Short KS MS := ⟨by decide +kernel, by decide +kernel, by decide +kernel⟩
theorem exm_same {K : PySem.W.Frag} {S : Addr} (b : PySem.W.subIn K (.ref S) (.type "BaseException") = some true) (i : (PySem.W.clsIn K S).isSome = true) (t : PySem.W.typeIn K (.ref S) = some (.type "type")) (s : PySem.W.subIn K (.ref S) (.ref S) = some true) : PySem.W.exmOne K (.ref S) (.ref S) = some true := by
  unfold PySem.W.exmOne PySem.W.kitCls
  simp [b, i, t, s]
theorem all_mk {l : PySem.W.OpenLaw} {w : World} {K : PySem.W.Frag} {h : Heap} {mg : Str → Option Value} {fa C CT CS f_init f_name f_names f_cut f_parse f_rows f_head f_text f_paths f_pool f_take f_node f_ltext f_word f_lhead f_read f_said f_law f_err : Addr} (X : K.In h) (G : h.Ns mainGlobals mg) (hfa : mg "law" = some (.ref fa))
    {nmE qE : Str} {NE : Addr} {bsE : List Value} {snE : List Str} {subE : List Value} {abE : Bool} {colE : Option Bool} {ddE : Option Addr} {m0 m1 m2 m3 m5 : Option Value}
    {od_init an_init od_name an_name od_names an_names od_cut an_cut od_parse an_parse od_rows an_rows od_head an_head od_text an_text od_paths an_paths od_pool an_pool od_take an_take od_node an_node od_ltext an_ltext od_word an_word od_lhead an_lhead od_read an_read od_said an_said od_law an_law od_err an_err : Option Addr} {sl_init sl_name sl_names sl_cut sl_parse sl_rows sl_head sl_text sl_paths sl_pool sl_take sl_node sl_ltext sl_word sl_lhead sl_read sl_said sl_law sl_err : Array (Option Value)} {oc_init kV_init dc_init pm_init cd_init ct_init oc_name kV_name dc_name pm_name cd_name ct_name oc_names kV_names dc_names pm_names cd_names ct_names oc_cut kV_cut dc_cut pm_cut cd_cut ct_cut oc_parse kV_parse dc_parse pm_parse cd_parse ct_parse oc_rows kV_rows dc_rows pm_rows cd_rows ct_rows oc_head kV_head dc_head pm_head cd_head ct_head oc_text kV_text dc_text pm_text cd_text ct_text oc_paths kV_paths dc_paths pm_paths cd_paths ct_paths oc_pool kV_pool dc_pool pm_pool cd_pool ct_pool oc_take kV_take dc_take pm_take cd_take ct_take oc_node kV_node dc_node pm_node cd_node ct_node oc_ltext kV_ltext dc_ltext pm_ltext cd_ltext ct_ltext oc_word kV_word dc_word pm_word cd_word ct_word oc_lhead kV_lhead dc_lhead pm_lhead cd_lhead ct_lhead oc_read kV_read dc_read pm_read cd_read ct_read oc_said kV_said dc_said pm_said cd_said ct_said oc_law kV_law dc_law pm_law cd_law ct_law oc_err kV_err dc_err pm_err cd_err ct_err u_LETTERS u_LONGEST_NAME u_MOST_NODES : Value}
    (aC : PySem.W.nsIn K mainGlobals "Document" = some (some (.ref C)))
    (pgC : PySem.W.plainGet K C Str.empty = true)
    (hdC : PySem.W.hasDictIn K C = true)
    (poC : PySem.W.plainOver K C = true)
    (saC : PySem.W.findIn K (.ref C) "__setattr__" = some (some (.builtin "object.__setattr__")))
    (n_rows : PySem.W.findIn K (.ref C) "_rows" = some none)
    (n_paths : PySem.W.findIn K (.ref C) "_paths" = some none)
    (n_places : PySem.W.findIn K (.ref C) "_places" = some none)
    (n_text : PySem.W.findIn K (.ref C) "_text" = some none)
    (mkC : PySem.W.makesIn K C = true)
    (kC : PySem.W.keepIn K (.ref C) = true)
    (sgE : PySem.W.specialIn K (.builtin "object.__class__") "__get__" = some (some (.builtin "getset_descriptor.__get__")))
    (tkE : PySem.W.takesIn K (.builtin "object.__class__") = some true)
    (aE : PySem.W.nsIn K mainGlobals "InvalidText" = some (some (.ref CT)))
    (aS : PySem.W.nsIn K mainGlobals "StyleError" = some (some (.ref CS)))
    (lE : K.lookup CT = some (excClassObj nmE qE CT NE bsE [.ref CS, .type "ValueError", .type "Exception", .type "BaseException", .type "object"] true snE subE abE colE ddE m0 m1 m2 m3 m5 "ValueError.__new__"))
    (saE : PySem.W.findIn K (.ref CT) "__setattr__" = some (some (.builtin "object.__setattr__")))
    (gaE : PySem.W.findIn K (.ref CT) "__getattribute__" = some (some (.builtin "BaseException.__getattribute__")))
    (ggE : PySem.W.findIn K (.ref CT) "__getattr__" = some none)
    (noE : PySem.W.findIn K (.ref CT) "value" = some none)
    (iniE : PySem.W.findIn K (.ref CT) "__init__" = some (some (.ref f_err)))
    (tyE : PySem.W.typeIn K (.ref f_err) = some (.type "function"))
    (l_err : K.lookup f_err = some ⟨oc_err, od_err, .func (PySem.W.fnOf "__init__" "InvalidText.__init__" (defArgs sErr) (defBody sErr) (defScope sErr) .none kV_err dc_err pm_err an_err cd_err ct_err), sl_err⟩)
    (c_err : PySem.W.codeIn K cd_err "InvalidText.__init__" = true)
    (k_err : PySem.W.keepIn K (.ref f_err) = true)
    (kE : PySem.W.keepIn K (.ref CT) = true)
    (exE : PySem.W.subIn K (.ref CT) (.type "BaseException") = some true)
    (tcE : PySem.W.typeIn K (.ref CT) = some (.type "type"))
    (hdE : PySem.W.hasDictIn K CT = true)
    (icE : PySem.W.isClsIn K CT = true)
    (ssE : PySem.W.subIn K (.ref CT) (.ref CT) = some true)
    (caE : PySem.W.findIn K (.ref CT) "__class__" = some (some (.builtin "object.__class__")))
    (moE : PySem.W.mroIn K CT (.type "object") = some true)
    (kitE : PySem.W.kitOne K (.ref CT) (.ref CS) = some true)
    (fi_init : PySem.W.findIn K (.ref C) "__init__" = some (some (.ref f_init)))
    (l_init : K.lookup f_init = some ⟨oc_init, od_init, .func (PySem.W.fnOf "__init__" "Document.__init__" (defArgs (cDoc 0)) (defBody (cDoc 0)) (defScope (cDoc 0)) .none kV_init dc_init pm_init an_init cd_init ct_init), sl_init⟩)
    (c_init : PySem.W.codeIn K cd_init "Document.__init__" = true)
    (k_init : PySem.W.keepIn K (.ref f_init) = true)
    (i_init : PySem.W.isFn K (.ref f_init) = true)
    (a_name : PySem.W.nsIn K mainGlobals "is_name" = some (some (.ref f_name)))
    (l_name : K.lookup f_name = some ⟨oc_name, od_name, .func (PySem.W.fnOf "is_name" "is_name" (defArgs sName) (defBody sName) (defScope sName) .none kV_name dc_name pm_name an_name cd_name ct_name), sl_name⟩)
    (c_name : PySem.W.codeIn K cd_name "is_name" = true)
    (k_name : PySem.W.keepIn K (.ref f_name) = true)
    (a_names : PySem.W.nsIn K mainGlobals "are_names" = some (some (.ref f_names)))
    (l_names : K.lookup f_names = some ⟨oc_names, od_names, .func (PySem.W.fnOf "are_names" "are_names" (defArgs sNames) (defBody sNames) (defScope sNames) .none kV_names dc_names pm_names an_names cd_names ct_names), sl_names⟩)
    (c_names : PySem.W.codeIn K cd_names "are_names" = true)
    (k_names : PySem.W.keepIn K (.ref f_names) = true)
    (a_cut : PySem.W.nsIn K mainGlobals "cut" = some (some (.ref f_cut)))
    (l_cut : K.lookup f_cut = some ⟨oc_cut, od_cut, .func (PySem.W.fnOf "cut" "cut" (defArgs sCut) (defBody sCut) (defScope sCut) .none kV_cut dc_cut pm_cut an_cut cd_cut ct_cut), sl_cut⟩)
    (c_cut : PySem.W.codeIn K cd_cut "cut" = true)
    (k_cut : PySem.W.keepIn K (.ref f_cut) = true)
    (a_parse : PySem.W.nsIn K mainGlobals "parse_document" = some (some (.ref f_parse)))
    (l_parse : K.lookup f_parse = some ⟨oc_parse, od_parse, .func (PySem.W.fnOf "parse_document" "parse_document" (defArgs sParse) (defBody sParse) (defScope sParse) .none kV_parse dc_parse pm_parse an_parse cd_parse ct_parse), sl_parse⟩)
    (c_parse : PySem.W.codeIn K cd_parse "parse_document" = true)
    (k_parse : PySem.W.keepIn K (.ref f_parse) = true)
    (a_rows : PySem.W.nsIn K mainGlobals "read_rows" = some (some (.ref f_rows)))
    (l_rows : K.lookup f_rows = some ⟨oc_rows, od_rows, .func (PySem.W.fnOf "read_rows" "read_rows" (defArgs sRows) (defBody sRows) (defScope sRows) .none kV_rows dc_rows pm_rows an_rows cd_rows ct_rows), sl_rows⟩)
    (c_rows : PySem.W.codeIn K cd_rows "read_rows" = true)
    (k_rows : PySem.W.keepIn K (.ref f_rows) = true)
    (a_head : PySem.W.nsIn K mainGlobals "read_head" = some (some (.ref f_head)))
    (l_head : K.lookup f_head = some ⟨oc_head, od_head, .func (PySem.W.fnOf "read_head" "read_head" (defArgs sHead) (defBody sHead) (defScope sHead) .none kV_head dc_head pm_head an_head cd_head ct_head), sl_head⟩)
    (c_head : PySem.W.codeIn K cd_head "read_head" = true)
    (k_head : PySem.W.keepIn K (.ref f_head) = true)
    (a_text : PySem.W.nsIn K mainGlobals "text_of" = some (some (.ref f_text)))
    (l_text : K.lookup f_text = some ⟨oc_text, od_text, .func (PySem.W.fnOf "text_of" "text_of" (defArgs sText) (defBody sText) (defScope sText) .none kV_text dc_text pm_text an_text cd_text ct_text), sl_text⟩)
    (c_text : PySem.W.codeIn K cd_text "text_of" = true)
    (k_text : PySem.W.keepIn K (.ref f_text) = true)
    (a_paths : PySem.W.nsIn K mainGlobals "paths_of" = some (some (.ref f_paths)))
    (l_paths : K.lookup f_paths = some ⟨oc_paths, od_paths, .func (PySem.W.fnOf "paths_of" "paths_of" (defArgs sPaths) (defBody sPaths) (defScope sPaths) .none kV_paths dc_paths pm_paths an_paths cd_paths ct_paths), sl_paths⟩)
    (c_paths : PySem.W.codeIn K cd_paths "paths_of" = true)
    (k_paths : PySem.W.keepIn K (.ref f_paths) = true)
    (a_pool : PySem.W.nsIn K mainGlobals "_law_pool" = some (some (.ref f_pool)))
    (l_pool : K.lookup f_pool = some ⟨oc_pool, od_pool, .func (PySem.W.fnOf "_law_pool" "_law_pool" (defArgs sPool) (defBody sPool) (defScope sPool) .none kV_pool dc_pool pm_pool an_pool cd_pool ct_pool), sl_pool⟩)
    (c_pool : PySem.W.codeIn K cd_pool "_law_pool" = true)
    (k_pool : PySem.W.keepIn K (.ref f_pool) = true)
    (a_take : PySem.W.nsIn K mainGlobals "_law_take" = some (some (.ref f_take)))
    (l_take : K.lookup f_take = some ⟨oc_take, od_take, .func (PySem.W.fnOf "_law_take" "_law_take" (defArgs sTake) (defBody sTake) (defScope sTake) .none kV_take dc_take pm_take an_take cd_take ct_take), sl_take⟩)
    (c_take : PySem.W.codeIn K cd_take "_law_take" = true)
    (k_take : PySem.W.keepIn K (.ref f_take) = true)
    (a_node : PySem.W.nsIn K mainGlobals "_law_node" = some (some (.ref f_node)))
    (l_node : K.lookup f_node = some ⟨oc_node, od_node, .func (PySem.W.fnOf "_law_node" "_law_node" (defArgs sNode) (defBody sNode) (defScope sNode) .none kV_node dc_node pm_node an_node cd_node ct_node), sl_node⟩)
    (c_node : PySem.W.codeIn K cd_node "_law_node" = true)
    (k_node : PySem.W.keepIn K (.ref f_node) = true)
    (a_ltext : PySem.W.nsIn K mainGlobals "_law_text" = some (some (.ref f_ltext)))
    (l_ltext : K.lookup f_ltext = some ⟨oc_ltext, od_ltext, .func (PySem.W.fnOf "_law_text" "_law_text" (defArgs sLText) (defBody sLText) (defScope sLText) .none kV_ltext dc_ltext pm_ltext an_ltext cd_ltext ct_ltext), sl_ltext⟩)
    (c_ltext : PySem.W.codeIn K cd_ltext "_law_text" = true)
    (k_ltext : PySem.W.keepIn K (.ref f_ltext) = true)
    (a_word : PySem.W.nsIn K mainGlobals "_law_word" = some (some (.ref f_word)))
    (l_word : K.lookup f_word = some ⟨oc_word, od_word, .func (PySem.W.fnOf "_law_word" "_law_word" (defArgs sWord) (defBody sWord) (defScope sWord) .none kV_word dc_word pm_word an_word cd_word ct_word), sl_word⟩)
    (c_word : PySem.W.codeIn K cd_word "_law_word" = true)
    (k_word : PySem.W.keepIn K (.ref f_word) = true)
    (a_lhead : PySem.W.nsIn K mainGlobals "_law_head" = some (some (.ref f_lhead)))
    (l_lhead : K.lookup f_lhead = some ⟨oc_lhead, od_lhead, .func (PySem.W.fnOf "_law_head" "_law_head" (defArgs sLHead) (defBody sLHead) (defScope sLHead) .none kV_lhead dc_lhead pm_lhead an_lhead cd_lhead ct_lhead), sl_lhead⟩)
    (c_lhead : PySem.W.codeIn K cd_lhead "_law_head" = true)
    (k_lhead : PySem.W.keepIn K (.ref f_lhead) = true)
    (a_read : PySem.W.nsIn K mainGlobals "_law_read" = some (some (.ref f_read)))
    (l_read : K.lookup f_read = some ⟨oc_read, od_read, .func (PySem.W.fnOf "_law_read" "_law_read" (defArgs sRead) (defBody sRead) (defScope sRead) .none kV_read dc_read pm_read an_read cd_read ct_read), sl_read⟩)
    (c_read : PySem.W.codeIn K cd_read "_law_read" = true)
    (k_read : PySem.W.keepIn K (.ref f_read) = true)
    (a_said : PySem.W.nsIn K mainGlobals "_law_said" = some (some (.ref f_said)))
    (l_said : K.lookup f_said = some ⟨oc_said, od_said, .func (PySem.W.fnOf "_law_said" "_law_said" (defArgs sSaid) (defBody sSaid) (defScope sSaid) .none kV_said dc_said pm_said an_said cd_said ct_said), sl_said⟩)
    (c_said : PySem.W.codeIn K cd_said "_law_said" = true)
    (k_said : PySem.W.keepIn K (.ref f_said) = true)
    (a_law : PySem.W.nsIn K mainGlobals "law" = some (some (.ref f_law)))
    (l_law : K.lookup f_law = some ⟨oc_law, od_law, .func (PySem.W.fnOf "law" "law" (defArgs sLaw) (defBody sLaw) (defScope sLaw) .none kV_law dc_law pm_law an_law cd_law ct_law), sl_law⟩)
    (c_law : PySem.W.codeIn K cd_law "law" = true)
    (k_law : PySem.W.keepIn K (.ref f_law) = true)
    (z_int : PySem.W.nsIn K mainGlobals "int" = some none)
    (z_bool : PySem.W.nsIn K mainGlobals "bool" = some none)
    (z_str : PySem.W.nsIn K mainGlobals "str" = some none)
    (z_list : PySem.W.nsIn K mainGlobals "list" = some none)
    (z_tuple : PySem.W.nsIn K mainGlobals "tuple" = some none)
    (z_set : PySem.W.nsIn K mainGlobals "set" = some none)
    (z_len : PySem.W.nsIn K mainGlobals "len" = some none)
    (z_all : PySem.W.nsIn K mainGlobals "all" = some none)
    (z_sorted : PySem.W.nsIn K mainGlobals "sorted" = some none)
    (z_isinstance : PySem.W.nsIn K mainGlobals "isinstance" = some none)
    (z_enumerate : PySem.W.nsIn K mainGlobals "enumerate" = some none)
    (z_range : PySem.W.nsIn K mainGlobals "range" = some none)
    (z_max : PySem.W.nsIn K mainGlobals "max" = some none)
    (z_min : PySem.W.nsIn K mainGlobals "min" = some none)
    (z_repr : PySem.W.nsIn K mainGlobals "repr" = some none)
    (g_LETTERS : PySem.W.nsIn K mainGlobals "LETTERS" = some (some u_LETTERS))
    (r_LETTERS : RelV (.str (toS lets)) u_LETTERS)
    (g_LONGEST_NAME : PySem.W.nsIn K mainGlobals "LONGEST_NAME" = some (some u_LONGEST_NAME))
    (r_LONGEST_NAME : RelV (.int 8) u_LONGEST_NAME)
    (g_MOST_NODES : PySem.W.nsIn K mainGlobals "MOST_NODES" = some (some u_MOST_NODES))
    (r_MOST_NODES : RelV (.int 200) u_MOST_NODES) :
    ∃ fd : FuncData, (∀ (s : Shared) (v : Value), BindsTo s fd ⟨[v], []⟩ [("_law_script", v)]) ∧ ∀ base : Heap, K.In base → base.Ns mainGlobals mg → FnI l.prog w K mg base CX0 104 fa fd ["_law_script"] (spLaw K) := by
  have e := hfa.symm.trans (PySem.W.mg_of X G a_law)
  cases e
  have F_init := fun_mk (st := (cDoc 0)) l_init c_init k_init
  have F_name := fun_mk (st := sName) l_name c_name k_name
  have F_names := fun_mk (st := sNames) l_names c_names k_names
  have F_cut := fun_mk (st := sCut) l_cut c_cut k_cut
  have F_parse := fun_mk (st := sParse) l_parse c_parse k_parse
  have F_rows := fun_mk (st := sRows) l_rows c_rows k_rows
  have F_head := fun_mk (st := sHead) l_head c_head k_head
  have F_text := fun_mk (st := sText) l_text c_text k_text
  have F_paths := fun_mk (st := sPaths) l_paths c_paths k_paths
  have F_pool := fun_mk (st := sPool) l_pool c_pool k_pool
  have F_take := fun_mk (st := sTake) l_take c_take k_take
  have F_node := fun_mk (st := sNode) l_node c_node k_node
  have F_ltext := fun_mk (st := sLText) l_ltext c_ltext k_ltext
  have F_word := fun_mk (st := sWord) l_word c_word k_word
  have F_lhead := fun_mk (st := sLHead) l_lhead c_lhead k_lhead
  have F_read := fun_mk (st := sRead) l_read c_read k_read
  have F_said := fun_mk (st := sSaid) l_said c_said k_said
  have F_law := fun_mk (st := sLaw) l_law c_law k_law
  have F_err := fun_mk (st := sErr) l_err c_err k_err
  have T : Txt mg := ⟨PySem.W.mg_none_of X G z_int, PySem.W.mg_none_of X G z_bool, PySem.W.mg_none_of X G z_str, PySem.W.mg_none_of X G z_list, PySem.W.mg_none_of X G z_tuple, PySem.W.mg_none_of X G z_set, PySem.W.mg_none_of X G z_len, PySem.W.mg_none_of X G z_all, PySem.W.mg_none_of X G z_sorted, PySem.W.mg_none_of X G z_isinstance, PySem.W.mg_none_of X G z_enumerate, PySem.W.mg_none_of X G z_range, PySem.W.mg_none_of X G z_max, PySem.W.mg_none_of X G z_min, ⟨_, PySem.W.mg_of X G g_LETTERS, r_LETTERS⟩, ⟨_, PySem.W.mg_of X G g_LONGEST_NAME, r_LONGEST_NAME⟩, ⟨_, PySem.W.mg_of X G g_MOST_NODES, r_MOST_NODES⟩⟩
  have DC : DCls K mg C := ⟨⟨pgC, hdC, poC, saC⟩, n_rows, n_paths, n_places, n_text⟩
  have b_init := F_init.binds (ps := ["self", "rows"]) fun _ _ _ _ _ _ us hl => match us, hl with | [_, _], _ => rfl
  have b_name := F_name.binds (ps := ["value"]) fun _ _ _ _ _ _ us hl => match us, hl with | [_], _ => rfl
  have b_names := F_names.binds (ps := ["values"]) fun _ _ _ _ _ _ us hl => match us, hl with | [_], _ => rfl
  have b_cut := F_cut.binds (ps := ["text", "letters", "signs"]) fun _ _ _ _ _ _ us hl => match us, hl with | [_, _, _], _ => rfl
  have b_parse := F_parse.binds (ps := ["text"]) fun _ _ _ _ _ _ us hl => match us, hl with | [_], _ => rfl
  have b_rows := F_rows.binds (ps := ["text"]) fun _ _ _ _ _ _ us hl => match us, hl with | [_], _ => rfl
  have b_head := F_head.binds (ps := ["text"]) fun _ _ _ _ _ _ us hl => match us, hl with | [_], _ => rfl
  have b_text := F_text.binds (ps := ["rows"]) fun _ _ _ _ _ _ us hl => match us, hl with | [_], _ => rfl
  have b_paths := F_paths.binds (ps := ["rows"]) fun _ _ _ _ _ _ us hl => match us, hl with | [_], _ => rfl
  have b_pool := F_pool.binds (ps := ["_law_script", "_law_k"]) fun _ _ _ _ _ _ us hl => match us, hl with | [_, _], _ => rfl
  have b_take := F_take.binds (ps := ["_law_pool_here", "_law_many"]) fun _ _ _ _ _ _ us hl => match us, hl with | [_, _], _ => rfl
  have b_node := F_node.binds (ps := ["_law_pool_here", "_law_depth", "_law_kinds", "_law_marks"]) fun _ _ _ _ _ _ us hl => match us, hl with | [_, _, _, _], _ => rfl
  have b_ltext := F_ltext.binds (ps := ["_law_node_here"]) fun _ _ _ _ _ _ us hl => match us, hl with | [_], _ => rfl
  have b_word := F_word.binds (ps := ["_law_text_here", "_law_at_here"]) fun _ _ _ _ _ _ us hl => match us, hl with | [_, _], _ => rfl
  have b_lhead := F_lhead.binds (ps := ["_law_text_here", "_law_at_here"]) fun _ _ _ _ _ _ us hl => match us, hl with | [_, _], _ => rfl
  have b_read := F_read.binds (ps := ["_law_text_here", "_law_at_here"]) fun _ _ _ _ _ _ us hl => match us, hl with | [_, _], _ => rfl
  have b_said := F_said.binds (ps := ["_law_value"]) fun _ _ _ _ _ _ us hl => match us, hl with | [_], _ => rfl
  have b_err := F_err.binds (ps := ["self", "value"]) fun _ _ _ _ _ _ us hl => match us, hl with | [_, _], _ => rfl
  refine ⟨PySem.W.fnOf "law" "law" (defArgs sLaw) (defBody sLaw) (defScope sLaw) .none kV_law dc_law pm_law an_law cd_law ct_law, fun s v => .of_eq rfl, fun base _ _ => ?_⟩
  have h_name : Has l.prog w K mg base 1 "is_name" ["value"] spName := ⟨f_name, _, ok_name F_name T, PySem.W.mg_of X G a_name, k_name, b_name⟩
  have h_names : Has l.prog w K mg base 2 "are_names" ["values"] (spNames K) := ⟨f_names, _, ok_names F_names T h_name, PySem.W.mg_of X G a_names, k_names, b_names⟩
  have h_cut : Has l.prog w K mg base 1 "cut" ["text", "letters", "signs"] spCut := ⟨f_cut, _, ok_cut F_cut, PySem.W.mg_of X G a_cut, k_cut, b_cut⟩
  have h_head : Has l.prog w K mg base 3 "read_head" ["text"] spHead := ⟨f_head, _, ok_head F_head T h_name h_names, PySem.W.mg_of X G a_head, k_head, b_head⟩
  have h_rows : Has l.prog w K mg base 4 "read_rows" ["text"] spRows := ⟨f_rows, _, ok_rows F_rows T h_cut h_head, PySem.W.mg_of X G a_rows, k_rows, b_rows⟩
  have h_text : Has l.prog w K mg base 1 "text_of" ["rows"] spText := ⟨f_text, _, ok_text F_text, PySem.W.mg_of X G a_text, k_text, b_text⟩
  have h_paths : Has l.prog w K mg base 1 "paths_of" ["rows"] spPaths := ⟨f_paths, _, ok_paths F_paths T, PySem.W.mg_of X G a_paths, k_paths, b_paths⟩
  have h_make : C8.Mak l.prog w K mg base 2 "Document" C (spInit C) [] := ⟨f_init, _, ["self", "rows"], [], ⟨mkC, fi_init, i_init, kC⟩, ok_init F_init T DC h_paths h_text, PySem.W.mg_of X G aC, b_init, .nil⟩
  have oE : OexC K CT := ⟨⟨_, _, _, _, _, _, _, _, _, _, _, _, _, _, _, lE, by rfl⟩, saE, exE, tcE, kE⟩
  have hE : ErT l.prog w K mg base CT := ⟨oE, PySem.W.mg_of X G aE, f_err, _, iniE, tyE, ok_err F_err oE noE, b_err⟩
  have uE : Txt2 K mg CT CS := ⟨PySem.W.mg_none_of X G z_repr, PySem.W.mg_of X G aS, ⟨⟨gaE, ggE, exE, hdE⟩, icE, caE, sgE, tkE, moE⟩, noE, kitE, exm_same exE icE tcE ssE⟩
  have h_pool : Has l.prog w K mg base 1 "_law_pool" ["_law_script", "_law_k"] (spPool K) := ⟨f_pool, _, ok_pool F_pool T, PySem.W.mg_of X G a_pool, k_pool, b_pool⟩
  have h_take : Has l.prog w K mg base 1 "_law_take" ["_law_pool_here", "_law_many"] spTake := ⟨f_take, _, ok_take F_take T, PySem.W.mg_of X G a_take, k_take, b_take⟩
  have h_node : Has l.prog w K mg base 5 "_law_node" ["_law_pool_here", "_law_depth", "_law_kinds", "_law_marks"] (spNode KS MS 3) := ⟨f_node, _, ok_node F_node T h_take (PySem.W.mg_of X G a_node) k_node b_node (by decide) (by decide) (by decide) 3, PySem.W.mg_of X G a_node, k_node, b_node⟩
  have h_ltext : Has l.prog w K mg base 5 "_law_text" ["_law_node_here"] (spLText KS MS 3) := ⟨f_ltext, _, ok_ltext F_ltext T short2 (PySem.W.mg_of X G a_ltext) k_ltext b_ltext 3 (by decide), PySem.W.mg_of X G a_ltext, k_ltext, b_ltext⟩
  have h_word : Has l.prog w K mg base 1 "_law_word" ["_law_text_here", "_law_at_here"] spWord := ⟨f_word, _, ok_word F_word T, PySem.W.mg_of X G a_word, k_word, b_word⟩
  have h_lhead : Has l.prog w K mg base 2 "_law_head" ["_law_text_here", "_law_at_here"] spLHead := ⟨f_lhead, _, ok_lhead F_lhead T h_word, PySem.W.mg_of X G a_lhead, k_lhead, b_lhead⟩
  have h_read : Has l.prog w K mg base 103 "_law_read" ["_law_text_here", "_law_at_here"] (spRead 100) := ⟨f_read, _, ok_read F_read T h_lhead (PySem.W.mg_of X G a_read) k_read b_read 100, PySem.W.mg_of X G a_read, k_read, b_read⟩
  exact ok_law F_law T short2 (PySem.W.mg_none_of X G z_repr)
    { pool := h_pool, take := h_take, node := h_node, text := h_ltext, read := h_read,
      said := ⟨f_said, _, ok_said F_said T uE hE (ok_parse F_parse T hE h_rows h_make) (PySem.W.mg_of X G a_parse) k_parse b_parse, PySem.W.mg_of X G a_said, k_said, b_said⟩ }
end K02
open PySem PySem.W PyProof.Rows
set_option maxRecDepth 100000 in
set_option maxHeartbeats 0 in
theorem PySem.Challenge.cw_deadrules_k02_document_texts_refused_holds : PySem.Challenge.rw_deadrules_k02_document_texts_refused.Holds := by
  w_on; o_law; k_head; (case hw => w_witness2)
  k_fill
  refine DR.walk_ofI (l := PySem.Challenge.rw_deadrules_k02_document_texts_refused) (n := 63) (k := 104) (x := "_law_script") (C0 := L2.CX0) (sp := K02.spLaw) rfl (by decide) rfl ⟨rfl, by decide, by decide⟩ (fun w h Y => PySem.W.kIn_of Y) ?F
    (fun _ _ a ns hl _ hS => ⟨a, ns, rfl, hS, hl, fun _ => rfl⟩) (fun _ _ _ _ z => z)
  case F =>
    intro w mg fa h KX G hmg
    refine' K02.all_mk KX G hmg ?aC ?pgC ?hdC ?poC ?saC ?n_rows ?n_paths ?n_places ?n_text ?mkC ?kC ?sgE ?tkE ?aE ?aS ?lE ?saE ?gaE ?ggE ?noE ?iniE ?tyE ?l_err ?c_err ?k_err ?kE ?exE ?tcE ?hdE ?icE ?ssE ?caE ?moE ?kitE ?fi_init ?l_init ?c_init ?k_init ?i_init ?a_name ?l_name ?c_name ?k_name ?a_names ?l_names ?c_names ?k_names ?a_cut ?l_cut ?c_cut ?k_cut ?a_parse ?l_parse ?c_parse ?k_parse ?a_rows ?l_rows ?c_rows ?k_rows ?a_head ?l_head ?c_head ?k_head ?a_text ?l_text ?c_text ?k_text ?a_paths ?l_paths ?c_paths ?k_paths ?a_pool ?l_pool ?c_pool ?k_pool ?a_take ?l_take ?c_take ?k_take ?a_node ?l_node ?c_node ?k_node ?a_ltext ?l_ltext ?c_ltext ?k_ltext ?a_word ?l_word ?c_word ?k_word ?a_lhead ?l_lhead ?c_lhead ?k_lhead ?a_read ?l_read ?c_read ?k_read ?a_said ?l_said ?c_said ?k_said ?a_law ?l_law ?c_law ?k_law ?z_int ?z_bool ?z_str ?z_list ?z_tuple ?z_set ?z_len ?z_all ?z_sorted ?z_isinstance ?z_enumerate ?z_range ?z_max ?z_min ?z_repr ?g_LETTERS ?r_LETTERS ?g_LONGEST_NAME ?r_LONGEST_NAME ?g_MOST_NODES ?r_MOST_NODES
    (case aC => k_is)
    (case pgC => k_is)
    (case hdC => k_is)
    (case poC => k_is)
    (case saC => k_is)
    (case n_rows => k_is)
    (case n_paths => k_is)
    (case n_places => k_is)
    (case n_text => k_is)
    (case mkC => k_is)
    (case kC => k_is)
    (case sgE => k_is)
    (case tkE => k_is)
    (case aE => k_is)
    (case aS => k_is)
    (case lE => k_is)
    (case saE => k_is)
    (case gaE => k_is)
    (case ggE => k_is)
    (case noE => k_is)
    (case iniE => k_is)
    (case tyE => k_is)
    (case l_err => k_is)
    (case c_err => k_is)
    (case k_err => k_is)
    (case kE => k_is)
    (case exE => k_is)
    (case tcE => k_is)
    (case hdE => k_is)
    (case icE => k_is)
    (case ssE => first | rfl | k_is | kernel_rfl)
    (case caE => k_is)
    (case moE => k_is)
    (case kitE => first | k_is | kernel_rfl)
    (case fi_init => k_is)
    (case l_init => k_is)
    (case c_init => k_is)
    (case k_init => k_is)
    (case i_init => k_is)
    (case a_name => k_is)
    (case l_name => k_is)
    (case c_name => k_is)
    (case k_name => k_is)
    (case a_names => k_is)
    (case l_names => k_is)
    (case c_names => k_is)
    (case k_names => k_is)
    (case a_cut => k_is)
    (case l_cut => k_is)
    (case c_cut => k_is)
    (case k_cut => k_is)
    (case a_parse => k_is)
    (case l_parse => k_is)
    (case c_parse => k_is)
    (case k_parse => k_is)
    (case a_rows => k_is)
    (case l_rows => k_is)
    (case c_rows => k_is)
    (case k_rows => k_is)
    (case a_head => k_is)
    (case l_head => k_is)
    (case c_head => k_is)
    (case k_head => k_is)
    (case a_text => k_is)
    (case l_text => k_is)
    (case c_text => k_is)
    (case k_text => k_is)
    (case a_paths => k_is)
    (case l_paths => k_is)
    (case c_paths => k_is)
    (case k_paths => k_is)
    (case a_pool => k_is)
    (case l_pool => k_is)
    (case c_pool => k_is)
    (case k_pool => k_is)
    (case a_take => k_is)
    (case l_take => k_is)
    (case c_take => k_is)
    (case k_take => k_is)
    (case a_node => k_is)
    (case l_node => k_is)
    (case c_node => k_is)
    (case k_node => k_is)
    (case a_ltext => k_is)
    (case l_ltext => k_is)
    (case c_ltext => k_is)
    (case k_ltext => k_is)
    (case a_word => k_is)
    (case l_word => k_is)
    (case c_word => k_is)
    (case k_word => k_is)
    (case a_lhead => k_is)
    (case l_lhead => k_is)
    (case c_lhead => k_is)
    (case k_lhead => k_is)
    (case a_read => k_is)
    (case l_read => k_is)
    (case c_read => k_is)
    (case k_read => k_is)
    (case a_said => k_is)
    (case l_said => k_is)
    (case c_said => k_is)
    (case k_said => k_is)
    (case a_law => k_is)
    (case l_law => k_is)
    (case c_law => k_is)
    (case k_law => k_is)
    (case z_int => k_is)
    (case z_bool => k_is)
    (case z_str => k_is)
    (case z_list => k_is)
    (case z_tuple => k_is)
    (case z_set => k_is)
    (case z_len => k_is)
    (case z_all => k_is)
    (case z_sorted => k_is)
    (case z_isinstance => k_is)
    (case z_enumerate => k_is)
    (case z_range => k_is)
    (case z_max => k_is)
    (case z_min => k_is)
    (case z_repr => k_is)
    (case g_LETTERS => k_is)
    (case r_LETTERS => first | exact ⟨_, rfl⟩ | exact ⟨_, by kernel_rfl⟩)
    (case g_LONGEST_NAME => k_is)
    (case r_LONGEST_NAME => first | exact ⟨_, rfl⟩ | exact ⟨_, by kernel_rfl⟩)
    (case g_MOST_NODES => k_is)
    (case r_MOST_NODES => first | exact ⟨_, rfl⟩ | exact ⟨_, by kernel_rfl⟩)

