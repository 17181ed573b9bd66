import PyProof.Rows.All
import Wide.All
import OpenK.AllK
import Wide.FinOn
import PyProof.EqAt
import PyProof.EqKinds
import PyProof.TupleCall
import HandS.ForExc
import HandS.ForMost
import PyProof.ReprRoads
import KE.KExcPX
import KE.KExcInit
import KE.KExcIs
import HandS.ExcInit
import HandS.IsInst
import HandS.Strs
import HandS.SetFor
import HandS.ExcValue
import PyProof.TupleOfSeq
import HandS.Iter
import HandS.Walk
import KE.GoesMore
import HandS.DictComp
import HandS.SlotsOwn
import HandS.Star
import HandS.Property
import HandS.SetKeys
import HandS.Zip
import HandS.TupAny
import HandS.DictTup
import HandS.Codes
import HandS.Style
import PySem.Challenge.RW_deadrules_k03_whole_documents_edited
set_option Elab.async false
set_option linter.all false
set_option maxRecDepth 100000
set_option maxHeartbeats 8000000
/-! A def's promise where no repr is under way (the guards are known to be empty). -/
namespace DR
open PySem PySem.Spec PyProof.Rows L2
/-- no repr is under way around -/
def Idle (A : Around) : Prop := A.guards = some []
theorem Idle.deep {A : Around} (h : Idle A) (env : Env) : Idle (A.deeper env) := h
theorem Idle.one {A : Around} (h : Idle A) : Idle A.in1 := h
/-- FnOk, but only where no repr is under way -/
structure FnI (P : Program) (w : World) (K : PySem.W.Frag) (mg : Str → Option Value) (base : Heap) (C0 : CXT) (k : Nat) (f : Addr) (fd : FuncData) (ps : List Str) (sp : Sp) : Prop where
  size : ∀ vs H Q E, sp vs H Q E → vs.length = ps.length
  goes : ∀ (A : Around) (out : List Env) (s : Shared) (H : Hp) (args : Args) (us : List Value) (vs : List V) (Q : VK) (E : XK), Idle A →
    Room k A → Env0 P w K mg base A out s H → BindsTo s fd args (ps.zip us) → Vals vs us → sp vs H Q E →
      codeAny (model P w) A (.call (.ref f) args) (CR C0 out P w H s Q E) s
section
variable {P : Program} {w : World} {K : PySem.W.Frag} {mg : Str → Option Value} {base : Heap} {C0 : CXT} {k : Nat} {f : Addr} {fd : FuncData} {ps : List Str} {sp : Sp}
theorem FnI.any (F : FnOk P w K mg base C0 k f fd ps sp) : FnI P w K mg base C0 k f fd ps sp :=
  { size := F.len, goes := fun A out s H args us vs Q E _ hr e hb hv hs => F.run A out s H args us vs Q E hr e hb hv hs }
theorem FnI.up {j : Nat} (F : FnI P w K mg base C0 j f fd ps sp) (h : j ≤ k) : FnI P w K mg base C0 k f fd ps sp :=
  { size := F.size, goes := fun A out s H args us vs Q E hi hr => F.goes A out s H args us vs Q E hi (hr.mono h) }
end
/-- a def of the text by its body, the guards known -/
theorem fnI_of {C0 : CXT} {P : Program} {w : World} {K : PySem.W.Frag} {mg : Str → Option Value} {base : Heap} {k : Nat} {f : Addr} {fd : FuncData} {x qual : Str} {st : Stmt}
    {N ps : List Str} {sp : Sp} (F : Fun K x qual st f fd) (S : FnScope N ps (defScope st)) (size : ∀ vs H Q E, sp vs H Q E → vs.length = ps.length)
    (body : ∀ (cdv : Value) (A : Around) (out : List Env) (s : Shared) (H : Hp) (vs : List V) (Q : VK) (E : XK), Idle (A.deeper (envOfC qual (defScope st) s.heap.objs.size f cdv)) →
      Room k (A.deeper (envOfC qual (defScope st) s.heap.objs.size f cdv)) → sp vs H Q E →
        ∃ t, PSs (cxOf C0 P w K mg base N qual (defScope st) f cdv A out s H E) (defBody st) t ∧ t { nx := fun _ H' => Q .non H', rt := Q } (start N vs) H) :
    FnI P w K mg base C0 (k + 1) f fd ps sp := by
  obtain ⟨oc, od, kV, doc, pm, an, cdv, ct, osl, rfl, lk, hcd⟩ := F.ex
  refine { size := size, goes := fun A out s H args us vs Q E hi hr e0 hb rv hsp => ?_ }
  have keepB : ∀ b o, base.get? b = some o → s.heap.get? b = some o := fun b o e => (e0.bs b o e).1
  have KX : K.In s.heap := e0.mod.kin.keeps keepB
  have lim : s.heap.NoLimit := e0.mod.nolimit.keeps keepB
  have kinds : ∀ y ∈ ps.zip us, (defScope st).names.lookup y.1 = some .local ∨
      ((defScope st).names.lookup y.1 = some .cell ∧ ((cellsFrom (s.heap.objs.size + 1) (defScope st).names []).lookup y.1).isSome = true) := by
    rintro ⟨n, v⟩ hy
    cases S.par n (List.of_mem_zip hy).1 with
    | inl q => exact .inl q
    | inr q => exact .inr ⟨q, PySem.W.cellsFrom_some _ _ _ (.inl q)⟩
  refine codeAny_call_function hr.depth (KX _ _ lk) rfl S.co S.gen rfl
    (PySem.W.codeRec_of KX hcd) (hb _ _ _ _ ?_)
  refine wpAny_newFunctionEnv_cells S.kind kinds fun env he s1 x => ?_
  subst he
  refine ⟨lim.keeps x.toInCall.keep, codeAny_func ?_⟩
  obtain ⟨t, ht, q⟩ := body cdv A out s H vs Q E (hi.deep _) (hr.deeper _) hsp
  have I := inv_start (CX := C0) (P := P) (w := w) (mg := mg) (E := E) (cd := cdv) (f := f) (qual := qual) S hr.hd e0 (size _ _ _ _ hsp) rv x
  refine wpAny_mono (ht.run [] s1 (start N vs) H _ I q) (fun fl s' hs => ?_) fun _ _ hs => hs
  cases fl with
  | ret u => exact let ⟨v, _, H', J, r, q'⟩ := hs; ⟨v, H', J.os, J.bare, J.base, J.hok, r, q'⟩
  | next => exact let ⟨_, H', J, q'⟩ := hs; ⟨V.non, H', J.os, J.bare, J.base, J.hok, rfl, q'⟩
  | brk => exact let ⟨_, _, _, q'⟩ := hs; q'.elim
  | cont => exact let ⟨_, _, _, q'⟩ := hs; q'.elim
section
variable {X : Cx} {C0 : CXT} {k : Nat} {f : Addr} {fd : FuncData} {ps : List Str} {sp : Sp} {dvs : List V} {ds : List Value} {E : XK} {x : Str} {p pos : Pos} {e : Expr} {es : List Expr} {t : TA}
theorem runI {pins : List (Addr × Obj)} {σ : L2.St} {H : Hp} {s : Shared} {Q : VK} {us : List Value} {vs : List V} (F : FnI X.prog X.w X.K X.mg X.base C0 k f fd ps sp) (hi : Idle X.A) (hr : Room k X.A)
    (hb : Binds X.K fd ps ds) (hd : Vals dvs ds) (hx : Passes C0 X E) (I : Inv X pins σ H s) (r : Vals vs us)
    (h : sp (vs ++ dvs) H Q E) : wpAny (model X.prog X.w) X.A (call (.ref f) us) (EP X pins σ Q) X.xe s := by
  have rr := r.append hd
  have nl : (us ++ ds).length = ps.length := rr.length.symm.trans (F.size _ _ _ _ h)
  have go := F.goes X.A X.stack s H ⟨us, []⟩ _ _ Q E hi hr I.env0 (hb s us I.kIn nl) rr h
  refine wpAny_call (codeAny_mono go fun res s' hq => ?_)
  match res, hq with
  | .error er, hq => exact hx pins σ H s er s' I hq
  | .ok (.ret u), hq => exact I.after hq
  | .ok .next, hq => exact hq.elim
  | .ok .brk, hq => exact hq.elim
  | .ok .cont, hq => exact hq.elim
/-- f(e, ..) -/
theorem pe_callI (F : FnI X.prog X.w X.K X.mg X.base C0 k f fd ps sp) (hi : Idle X.A) (hr : Room k X.A) (hg : Gl X x)
    (hm : X.mg x = some (.ref f)) (hk : PySem.W.keepIn X.K (.ref f) = true) (hb : Binds X.K fd ps ds) (hd : Vals dvs ds) (hx : Passes C0 X E)
    (ha : PA X (e :: es) t) (hdb : (x == ("__debug__" : Str)) = false := by decide)
    (he : starEach (e :: es) X.env = (false, eval e X.env) :: starEach es X.env := by rfl)
    (hpl : (backTo pos (starEach es X.env)).any (·.1) = false := by rfl) :
    PE X (.Call (.Name x p) (e :: es) [] pos) (tCall sp dvs E t) := by
  constructor
  intro pins s σ H Q I h
  apply wpAny_Call_Name_kw
  refine ld_glob I hg hm ?_ hdb
  refine PySem.W.callWith_K (h₀ := X.base) I.mod.kin hk (thn (ha.run pos pins s σ H _ I h) ?_) he hpl
  rintro us s1 ⟨vs, H1, I1, r, q⟩
  exact ⟨I1.kIn, runI F hi hr hb hd hx I1 r q⟩
end

/-! ### the law's own call -/
/-- what law_call asks of the abstract heap at the law's entry -/
structure Fit (P : Program) (w : World) (K : PySem.W.Frag) (H : Hp) (h : Heap) (a : Addr) (ob : Obj) (xs : List V) : Prop where
  only : Only H
  list : SqL K H a xs
  held : HOk P w H h
  one : ∀ b, b ≠ a → H b = none
  mine : ∀ o xs', H a = some (.frz o (.lst xs')) → o = ob
  own : H a ≠ none → K.lookup a = none
theorem fit_of {P : Program} {w : World} {K : PySem.W.Frag} {h : Heap} {a : Addr} {vs : List Value} {ns : List Int} (KX : K.In h)
    (ha : h.get? a = some { cls := .type "list", data := .seq vs.toArray }) (hi : IntsAre vs ns) (hl : ns.length ≤ sizeLine) :
    ∃ H : Hp, Fit P w K H h a { cls := .type "list", data := .seq vs.toArray } (ns.map V.int) := by
  have rv := vals_ints hi
  have ln : vs.length = ns.length := hi.length
  by_cases hk : K.lookup a = none
  · refine ⟨fun b => if b = a then some (.frz { cls := .type "list", data := .seq vs.toArray } (.lst (ns.map V.int))) else none, { only := ?_, list := ?_, held := ?_, one := ?_, mine := ?_, own := ?_ }⟩
    · intro b
      by_cases e : b = a
      · exact .inr ⟨_, _, if_pos e⟩
      · exact .inl (if_neg e)
    · exact .inl (.inr ⟨_, if_pos rfl⟩)
    · intro b u z
      by_cases e : b = a
      · subst e
        obtain rfl := Option.some.inj ((if_pos rfl).symm.trans z)
        refine ⟨ha, ?_, vs, _, rv, ha⟩
        rw [List.length_map]
        exact hl
      · exact nomatch (if_neg e).symm.trans z
    · exact fun b e => if_neg e
    · intro o xs' z
      injection (if_pos rfl).symm.trans z with z1
      injection z1 with z2
      exact z2.symm
    · exact fun _ => hk
  · obtain ⟨o, hk⟩ := Option.ne_none_iff_exists'.mp hk
    obtain rfl : o = _ := Option.some.inj ((KX a o hk).symm.trans ha)
    refine ⟨fun _ => none, { only := fun _ => .inl rfl, list := .inr ⟨_, vs.toArray, _, hk, rfl, rfl, rfl, ?_, by simpa using rv⟩, held := (fun _ _ z => (nomatch z)), one := (fun _ _ => rfl), mine := (fun _ _ z => (nomatch z)), own := (fun z => absurd rfl z) }⟩
    rw [List.size_toArray, ln]
    exact hl
theorem law_callI {P : Program} {w : World} {K : PySem.W.Frag} {mg mb : Str → Option Value} {C0 : CXT} {k : Nat} {fa a : Addr} {fd : FuncData} {x : Str} {sp : Sp} {s₁ : Shared} {vs : List Value} {ns : List Int}
    (KX : K.In s₁.heap) (hns : s₁.heap.Ns mainGlobals mg) (hb : s₁.heap.Ns builtinsNs mb) (hbb : ∀ x : Str, x ≠ "__name__" → mb x = bootBuiltins x)
    (hlim : s₁.heap.NoLimit) (hg : s₁.gens = #[]) (ha : s₁.heap.get? a = some { cls := .type "list", data := .seq vs.toArray })
    (hi : IntsAre vs ns) (hl : ns.length ≤ sizeLine) (hr : Room k callerA)
    (F : ∀ base : Heap, K.In base → base.Ns mainGlobals mg → FnI P w K mg base C0 k fa fd [x] sp) (hbind : ∀ (s : Shared) (u : Value), BindsTo s fd ⟨[u], []⟩ [(x, u)])
    (hsp : ∀ H : Hp, Only H → SqL K H a (ns.map V.int) → sp [.ref a] H (fun v _ => v = .bl true) fun _ _ _ => False)
    (hC0 : ∀ H e s', C0 [] H s₁ (fun _ _ _ => False) e s' → False) :
    codeAny (model P w) callerA (.call (.ref fa) ⟨[.ref a], []⟩) (fun r s' => r = .ok (.ret (.bool true)) ∧ OldK s₁.heap s'.heap ∧ s'.os = s₁.os ∧ AllBare s'.gens) s₁ := by
  obtain ⟨H, T⟩ := fit_of (P := P) (w := w) KX ha hi hl
  have at_a : ∀ {b : Addr}, H b ≠ none → b = a := fun {b} z => Classical.byContradiction fun e => z (T.one b e)
  have toB : ∀ {b : Addr} {o : Obj}, s₁.heap.get? b = some o → (H b ≠ none → False) → (hidT s₁.heap H).get? b = some o := fun {b o} e n => by
    refine hidT_get e ?_
    cases q : H b with
    | none => rfl
    | some u => exact (n (by rw [q]; exact fun z => nomatch z)).elim
  have ns' : ∀ {b : Addr} {m : Str → Option Value}, s₁.heap.Ns b m → (hidT s₁.heap H).Ns b m := by
    rintro b m ⟨o, es, ep, e, d, r⟩
    refine ⟨o, es, ep, toB e fun z => ?_, d, r⟩
    rw [at_a z, ha] at e
    obtain rfl := Option.some.inj e
    exact nomatch d
  have inB : K.In (hidT s₁.heap H) := fun b o e => toB (KX b o e) fun z => by
    have z1 := at_a z
    subst z1
    exact nomatch (T.own z).symm.trans e
  have mod : Mod K mg (hidT s₁.heap H) := { kin := inB, glob := ns' hns, blt := ⟨mb, ns' hb, hbb⟩, nolimit := let ⟨mc, h1, h2⟩ := hlim; ⟨mc, ns' h1, h2⟩ }
  have e0 : Env0 P w K mg (hidT s₁.heap H) callerA [] s₁ H :=
    { frames := rfl, mod := mod, bs := fun _ _ e => of_hidT e, bsz := Nat.le_of_eq (hidT_size _ _), funs := trivial, frf := fun _ z => (nomatch z), hok := T.held, bare := .of_eq hg }
  have go := (F _ inB (ns' hns)).goes callerA [] s₁ H ⟨[.ref a], []⟩ [.ref a] [.ref a] _ _ rfl hr e0 (hbind s₁ (.ref a)) (.cons rfl .nil) (hsp H T.only T.list)
  refine codeAny_mono go fun r s' h => ?_
  match r, h with
  | .error e, h => exact (hC0 H e s' h).elim
  | .ok .next, h => exact h.elim
  | .ok .brk, h => exact h.elim
  | .ok .cont, h => exact h.elim
  | .ok (.ret u), ⟨v, H', os, bare, un, hok', rv, q⟩ =>
    have q' : v = .bl true := q
    subst q'
    obtain rfl : u = Value.bool true := rv
    refine ⟨rfl, OldK.of_keep fun b o e => ?_, os, bare⟩
    rcases T.only b with z | ⟨ob, xs, z⟩
    · exact un.keep b o e z (fun z => nomatch z) (fun z => nomatch z)
    · obtain ⟨e1, _⟩ := T.held b _ z
      obtain ⟨e2, _⟩ := hok' b _ (un.frzs b ob _ z)
      exact e2.trans (e1.symm.trans e)
theorem walk_ofI {l : PySem.W.OpenLaw} {n k : Nat} {q : Program} {loose : List Str} {XP : (Str → Option Value) → Heap → Prop} {YP : World → Heap → Prop} {d : DefRec} {K : Params → PySem.W.Frag}
    {C0 : CXT} {sp : PySem.W.Frag → Sp} {x : Str} (hn : l.most = some n) (hn2 : n ≤ sizeLine) (hdf : d.params.defaults = []) (hr : Room k callerA)
    (hY : ∀ (w : World) (h : Heap), YP w h → (K w.params).In h)
    (F : ∀ (w : World) (mg : Str → Option Value) (fa : Addr) (h : Heap), (K w.params).In h → h.Ns mainGlobals mg → mg d.name = some (.ref fa) →
      ∃ fd : FuncData, (∀ (s : Shared) (u : Value), BindsTo s fd ⟨[u], []⟩ [(x, u)]) ∧
        ∀ base : Heap, (K w.params).In base → base.Ns mainGlobals mg → FnI l.prog w (K w.params) mg base C0 k fa fd [x] (sp (K w.params)))
    (hsp : ∀ (K : PySem.W.Frag) (H : Hp) (a : Addr) (ns : List Int), ns.length ≤ n → Only H → SqL K H a (ns.map V.int) → sp K [.ref a] H (fun v _ => v = .bl true) fun _ _ _ => False)
    (hC0 : ∀ (H : Hp) (s : Shared) (e : Value) (s' : Shared), C0 [] H s (fun _ _ _ => False) e s' → False) :
    PySem.W.WalkO q loose XP YP l.row.toRowW d [] (fun f vs => PySem.call f vs) :=
  Att.attach_call hn hdf fun w _ s₁ mg _ fa _ _ _ _ a _ ns G Y _ _ _ hmg hobj hints hlen hg =>
    let ⟨_, hb, hF⟩ := F w mg fa _ (hY w _ Y) G.T.g hmg
    law_callI (hY w _ Y) G.T.g G.T.b G.T.builtins G.T.nolimit hg hobj hints (Nat.le_trans hlen hn2) hr hF hb
      (fun H hO hS => hsp (K w.params) H a ns hlen hO hS) fun H e s' => hC0 H s₁ e s'
end DR

/-! repr of data, where no repr is under way. -/
namespace DR
open PySem PySem.Spec PyProof.Rows L2
/-- a datum, or an empty dict -/
def DpE (K : PySem.W.Frag) (H : Hp) (v : V) (d : PyData) : Prop := Dp K H v d ∨ ∃ a, v = .ref a ∧ H a = some (.dK []) ∧ d = .dict []
section
variable {X : Cx} {pins : List (Addr × Obj)} {σ : L2.St} {H : Hp} {s : Shared}
/-! no dict within plain data -/
mutual
theorem dp_plain {K : PySem.W.Frag} : ∀ (d : PyData) (v : V), Dp K H v d → d.hasDict = false
  | .none, _, _ => rfl
  | .bool _, _, _ => rfl
  | .int _, _, _ => rfl
  | .str _, _, _ => rfl
  | .list ds, _, h => by
    cases h with
    | lst _ ha => simpa only [PyData.hasDict] using dps_plain ds _ ha
  | .tuple ds, _, h => by
    cases h with
    | tup _ ha => simpa only [PyData.hasDict] using dps_plain ds _ ha
  | .dict _, _, h => by cases h
theorem dps_plain {K : PySem.W.Frag} : ∀ (ds : List PyData) (vs : List V), DpAll K H vs ds → PyData.hasDictAll ds = false
  | [], _, _ => rfl
  | d :: ds, _, h => by
    cases h with
    | cons h1 h2 =>
      have e1 := dp_plain d _ h1
      have e2 := dps_plain ds _ h2
      simp only [PyData.hasDictAll, e1, e2, Bool.or_self]
end
theorem DpE.read {v : V} {u : Value} {d : PyData} (I : Inv X pins σ H s) (h : DpE X.K H v d) (r : RelV v u) : ∃ as, Reads s.heap u d as ∧ (d.hasDict = true → sysModules ∉ as) := by
  rcases h with h | ⟨a, rfl, ha, rfl⟩
  · obtain ⟨as, q⟩ := Dp.reads I d v u h r
    exact ⟨as, q, fun e => nomatch (dp_plain d v h).symm.trans e⟩
  · obtain rfl : u = Value.ref a := r
    obtain ⟨_, ns, vs, kv, o, es, ep, ho, ex, hd, _, pr, _⟩ := I.hok a _ ha
    cases kv
    obtain ⟨es⟩ := es
    have e : es = [] := by
      cases pr
      rfl
    subst e
    refine ⟨_, Reads.dict (as := []) (bs := []) ho ex.1 hd .nil .nil, fun _ z => ?_⟩
    have z1 : sysModules = a := by simpa using z
    rw [z1] at ns
    simp at ns
theorem DpE.reads_rep {v : V} {d : PyData} (I : Inv X pins σ H s) (h : DpE X.K H v d) : ∀ (n : Nat) {us : List Value}, Vals (List.replicate n v) us →
    ∃ as, ReadsAll s.heap us (List.replicate n d) as ∧ (d.hasDict = true → sysModules ∉ as)
  | 0, _, .nil => ⟨[], .nil, fun _ z => nomatch z⟩
  | n + 1, _, .cons r q => by
    obtain ⟨as, x, hx⟩ := DpE.read I h r
    obtain ⟨bs, y, hy⟩ := DpE.reads_rep I h n q
    exact ⟨as ++ bs, .cons x y, fun e z => (List.mem_append.mp z).elim (hx e) (hy e)⟩
end
theorem rep_dict (d : PyData) : ∀ n : Nat, PyData.hasDictAll (List.replicate n d) = true → d.hasDict = true
  | 0, e => nomatch e
  | n + 1, e => by
    rw [List.replicate_succ] at e
    simp only [PyData.hasDictAll, Bool.or_eq_true] at e
    exact e.elim id (rep_dict d n)
theorem rep_show (d : PyData) (h : d.showable = true) : ∀ n : Nat, PyData.showableAll (List.replicate n d) = true
  | 0 => rfl
  | n + 1 => by
    rw [List.replicate_succ]
    simp only [PyData.showableAll, h, rep_show d h n, Bool.and_self]
/-- repr(xs), xs a list at an address; the list itself is never asked whether it is sys.modules -/
theorem repr_listR {prog : Program} {w : World} {A : Around} {E : Value → Shared → Prop} {s : Shared} {Q : Value → Shared → Prop} {a : Addr} {o : Obj} {vs : Array Value} {n : Nat} {ds : List PyData} {as : List Addr}
    (h1 : s.heap.get? a = some o) (h2 : o.cls = .type "list") (h3 : o.data = .seq vs n) (h4 : ReadsAll s.heap vs.toList ds as) (hs : PyData.showableAll ds = true)
    (hsm : PyData.hasDictAll ds = true → sysModules ∉ as) (hi : Idle A) (hu : A.units + (PyData.depthAll ds + 3) < cLine) (hz : (PyData.shown (.list ds)).length ≤ sizeLine)
    (hQ : ∀ h' u tk, (∀ b o, s.heap.get? b = some o → h'.get? b = some o) → Q (.str (PyData.shown (.list ds)) u) { s with heap := h', toks := tk }) :
    wpAny (model prog w) A (call (.builtin "repr") [.ref a]) Q E s := by
  have hz' : (listText (PyData.shownAll ds)).length ≤ sizeLine := by simpa only [PyData.shown] using hz
  simp only [PyData.shown] at hQ
  obtain ⟨bs, hb, hk⟩ := ReprAllK.of_readsAll (prog := prog) (w := w) h4 hs hsm fun t ht => Nat.le_trans (listText_mem_le ht) hz'
  have far : a ∉ bs := not_mem_of_deeper (Reads.list h1 h2 h3 h4) (by simp only [PyData.depth]; exact Nat.lt_succ_self _) hb
  have ty : ∀ s' : Shared, (∀ b o, s.heap.get? b = some o → s'.heap.get? b = some o) → s'.TypeIs (.ref a) "list" := fun s' k => ⟨o, k _ _ h1, h2⟩
  refine call_repr_slot (by omega) (ty s fun _ _ e => e) F.slot_list_repr.toG ?_
  obtain ⟨l⟩ := vs
  match l, h3, h4, hk with
  | [], h3, h4, _ =>
    have h4' : ReadsAll s.heap [] ds _ := h4
    cases h4'
    simp only [PyData.shownAll, listText_nil] at hQ
    exact call_list_repr_empty (ty s fun _ _ e => e) h1 h3 ⟨_, _, rfl, hQ s.heap _ _ fun _ _ e => e⟩
  | x :: l, h3, h4, hk =>
    refine call_list_reprK h1 h2 h3 far (by simpa using hk.length_eq) (fun i y e => hk.item i y (by simpa using e)) (g := []) hi (fun b _ => Clear.nil b) ?_ (fun _ _ e => e) (fun h' u tk k => ⟨_, _, rfl, hQ h' u tk k⟩) hz'
    show A.units + 1 + (PyData.depthAll ds + 1) < cLine
    omega
/-- repr(x): x data or an empty dict; or a list of so many times the same -/
def rRepr (K : PySem.W.Frag) : List V → Hp → VK → Prop := fun xs H Q => ∃ (x : V) (d : PyData), xs = [x] ∧ DpE K H x d ∧ d.showable = true ∧ d.shown.length ≤ sizeLine ∧ d.depth ≤ 40 ∧ Q (.str d.shown) H
def rReprN (K : PySem.W.Frag) : List V → Hp → VK → Prop := fun xs H Q => ∃ (l : Addr) (n : Nat) (x : V) (d : PyData), xs = [.ref l] ∧ H l = some (.lst (List.replicate n x)) ∧ DpE K H x d ∧ d.showable = true ∧
  (PyData.shown (.list (List.replicate n d))).length ≤ sizeLine ∧ PyData.depthAll (List.replicate n d) ≤ 40 ∧ Q (.str (PyData.shown (.list (List.replicate n d)))) H
section
variable {X : Cx}
theorem call_repr (hi : Idle X.A) (hu : X.A.units + 64 < cLine) : CallR X (.builtin "repr") (rRepr X.K) := by
  intro pins s σ H xs us Q I r h
  obtain ⟨x, d, rfl, hd, hs, hz, hp, q⟩ := h
  obtain ⟨u, rfl, ru⟩ := vals1 r
  obtain ⟨as, rd, ns⟩ := DpE.read I hd ru
  have fin : ∀ (h' : Heap) (tt tk : Tok), (∀ b o, s.heap.get? b = some o → h'.get? b = some o) → EP X pins σ Q (.str d.shown tt) { s with heap := h', toks := tk } :=
    fun h' tt tk k => ⟨.str d.shown, H, I.kept k, ⟨tt, rfl⟩, q⟩
  cases rd with
  | none =>
    simp only [PyData.shown] at fin
    exact PySem.P.repr_of_none (fin s.heap _ _ fun _ _ e => e)
  | bool b =>
    simp only [PyData.shown] at fin
    exact PySem.P.repr_of_bool (fin s.heap _ _ fun _ _ e => e)
  | int i t =>
    simp only [PyData.shown] at fin
    exact PySem.P.repr_of_int (by simpa [PyData.showable] using hs) (fin s.heap _ _ fun _ _ e => e)
  | str z t =>
    simp only [PyData.shown] at fin hz
    exact PySem.P.repr_of_str (fin s.heap _ _ fun _ _ e => e) hz
  | list h1 h2 h3 h4 => exact repr_of_reads' (.list h1 h2 h3 h4) hs ns hi (by omega) (fun _ _ e => e) fin hz
  | tuple h1 h2 h3 h4 => exact repr_of_reads' (.tuple h1 h2 h3 h4) hs ns hi (by omega) (fun _ _ e => e) fin hz
  | dict h1 h2 h3 h4 h5 => exact repr_of_reads' (.dict h1 h2 h3 h4 h5) hs ns hi (by omega) (fun _ _ e => e) fin hz
theorem call_reprN (hi : Idle X.A) (hu : X.A.units + 64 < cLine) : CallR X (.builtin "repr") (rReprN X.K) := by
  intro pins s σ H xs us Q I r h
  obtain ⟨l, n, x, d, rfl, hl, hd, hs, hz, hp, q⟩ := h
  obtain ⟨u, rfl, ru⟩ := vals1 r
  obtain rfl : u = Value.ref l := ru
  obtain ⟨_, its, m, rv, ho⟩ := (show ObjOk X.prog X.w H s.heap l (.lst (List.replicate n x)) from I.hok l _ hl)
  obtain ⟨as, rd, ns⟩ := DpE.reads_rep I hd n rv
  refine repr_listR ho rfl rfl (by simpa using rd) (rep_show d hs n) (fun e => ns (rep_dict d n e)) hi (by omega) hz fun h' tt tk k => ?_
  exact ⟨.str _, H, I.kept k, ⟨tt, rfl⟩, q⟩
end
end DR

/-! Own exception classes over any built-in base, made by a call (also by keywords), held as values. -/
namespace DR
open PySem PySem.Calls PyProof.Rows PySem.HandSPX
section
variable {M : Model} {A : Around} {E : Value → Shared → Prop} {h : Heap} {g : Array GenState} {d : Drawn} {t : Nat} {os : OsState}
variable {nm qn : Str} {C N : Addr} {bs bm bB : List Value} {hd : Bool} {sn : List Str} {sub : List Value} {ab : Bool} {col : Option Bool} {dd : Option Addr} {k0 k1 k2 k3 k5 : Option Value} {B nid iid : String}
theorem xn_check (F : ExcBaseFacts B nid iid bB) (hT : ∀ X : String, bm.contains (.type X) = bB.contains (.type X)) {rest : List Value} {kw : List (Str × Value)} {Q : Unit → Shared → Prop}
    (cl : h.get? C = some (excClassObj nm qn C N bs bm hd sn sub ab col dd k0 k1 k2 k3 k5 nid)) (fin : Q () ⟨h, g, d, t, os⟩) :
    wpAny M A (checkBuiltinCall nid ⟨.ref C :: rest, kw⟩) Q E ⟨h, g, d, t, os⟩ := by
  have inB : (Value.ref C :: bm).contains (.type B) = true := by rw [List.contains_cons, hT, F.hasB, Bool.or_true]
  have star := F.noStar
  simp only [checkBuiltinCall, F.newKind, F.newSplit, F.newRow]
  repeat (first
    | refine wpAny_loadPart_at cl ?_
    | (refine wpAny_isSubtype_exc cl ?_; rw [inB])
    | refine wpAny_staticBase_exc cl ?_
    | refine wpAny_madeBy_exc cl ?_
    | simp only [bne_self_eq_false, Bool.false_eq_true, if_false]
    | wp_step)
  exact fin
end
section
variable {prog : Program} {w : World} {A : Around} {E : Value → Shared → Prop} {R : Result → Shared → Prop} {h : Heap} {g : Array GenState} {d : Drawn} {t : Nat} {os : OsState}
variable {nm qn : Str} {C N : Addr} {bs bm bB : List Value} {hd : Bool} {sn : List Str} {sub : List Value} {ab : Bool} {col : Option Bool} {dd : Option Addr} {k0 k1 k2 k3 k5 : Option Value} {B nid iid : String}
theorem xn_new (F : ExcBaseFacts B nid iid bB) (hT : ∀ X : String, bm.contains (.type X) = bB.contains (.type X)) {rest : List Value} {kw : List (Str × Value)}
    (cl : h.get? C = some (excClassObj nm qn C N bs bm hd sn sub ab col dd k0 k1 k2 k3 k5 nid))
    (fin : R (.ok (.ret (.ref (h.objs.size + 1)))) ⟨(h.push { cls := .type "tuple", data := .seq rest.toArray }).push (excO C h.objs.size), g, d, t, os⟩)
    (hz : rest.length ≤ sizeLine) : codeAny (model prog w) A (.builtin nid ⟨.ref C :: rest, kw⟩) R ⟨h, g, d, t, os⟩ := by
  have ends := F.ends
  have inB : (Value.ref C :: bm).contains (.type B) = true := by rw [List.contains_cons, hT, F.hasB, Bool.or_true]
  have noA : (Value.ref C :: bm).contains (.type "AttributeError") = false := by
    rw [List.contains_cons, hT, F.noAttr]; rfl
  have noN : (Value.ref C :: bm).contains (.type "NameError") = false := by
    rw [List.contains_cons, hT, F.noName]; rfl
  refine codeAny_builtinAt F.entry ?_
  unfold Builtin.«BaseException.__new__»
  refine PySem.wpAt_bind ?_
  show PySem.wpAt _ _ _ (stack >>= _) _ _ _
  refine PySem.wpAt_bind (PySem.wpAt_stack fun p below => ?_)
  refine PySem.wpAt_of_wpAny ?_
  wp_walk
  refine PySem.wpAt_of_wpAny ?_
  rw [F.owner]
  repeat (first
    | with_reducible refine wpAny_madeHere_exc F.canon cl ?_
    | with_reducible refine wpAny_loadPart_at cl ?_
    | (with_reducible refine wpAny_isSubtype_exc cl ?_; first | rw [inB] | rw [noA] | rw [noN])
    | wp_step)
  show R _ _
  rw [Heap.size_push]
  exact fin
theorem xn_tcall (F : ExcBaseFacts B nid iid bB) (hT : ∀ X : String, bm.contains (.type X) = bB.contains (.type X)) {rest : List Value} {kw : List (Str × Value)} {fI : Addr} {Q : Fin → Shared → Prop}
    (cl : h.get? C = some (excClassObj nm qn C N bs bm hd sn sub ab col dd k0 k1 k2 k3 k5 nid))
    (hi : W.Looks (model prog w) h (typeLookup (.ref C) "__init__") (some (.ref fI)))
    (hb : ∀ self, W.Looks (model prog w) h (bindSpecial (.ref fI) self) (.ref fI, [self])) (hz : rest.length ≤ sizeLine)
    (fin : codeAny (model prog w) A (.call (.ref fI) ⟨.ref (h.objs.size + 1) :: rest, kw⟩)
      (fun r s' => match r with | .ok (.ret v) => v = .none ∧ Q (.done (.ret (.ref (h.objs.size + 1)))) s' | .ok _ => False | .error e => E e s')
      ⟨(h.push (W.kdv_tup rest)).push (excO C h.objs.size), g, d, t, os⟩) :
    wpAny (model prog w) A (Builtin.«type.__call__» ⟨.ref C :: rest, kw⟩) Q E ⟨h, g, d, t, os⟩ := by
  repeat (first
    | with_reducible refine wpAny_loadPart_at cl ?_
    | with_reducible refine wpAny_madeBy_exc cl ?_
    | wp_step)
  refine codeAny_call_builtin_code (Code.quiet_builtin _ F.quiet) (xn_check F hT cl ?_)
  refine xn_new F hT cl ?_ hz
  show wpAny _ _ _ _ _ _
  have kp : ∀ b o, h.get? b = some o → ((h.push (W.kdv_tup rest)).push (excO C h.objs.size)).get? b = some o :=
    fun b o e => Heap.get?_push_of_some _ (Heap.get?_push_of_some _ e)
  have cl1 := kp _ _ cl
  have self1 : ((h.push (W.kdv_tup rest)).push (excO C h.objs.size)).get? (h.objs.size + 1) = some (excO C h.objs.size) := by heap_get
  have inC : (Value.ref C :: bm).contains (.ref C) = true := by simp
  have i1 := hi.keeps kp
  have b1 := (hb (.ref (h.objs.size + 1))).keeps kp
  unfold isInstance
  repeat (first
    | with_reducible refine wpAny_loadPart_at self1 ?_
    | (with_reducible refine wpAny_isSubtype_exc cl1 ?_; rw [inC])
    | wp_step)
  show wpAny _ _ (typeLookup (.ref C) _) _ _ _
  refine i1.at ?_
  refine wpAny_holding (wpAny_bind (b1.at ?_))
  refine wpAny_bind (wpAny_call (codeAny_mono fin fun r s' z => ?_))
  rcases r with e | (v | _ | _ | _) <;> first | exact z | exact z.elim | skip
  obtain ⟨rfl, z⟩ := z
  first
    | exact wpAny_pure (wpAny_pure z)
    | (wp_walk; exact z)
theorem xn_look {M : Model} {rest : List Value} {kw : List (Str × Value)} {Q : Unit → Shared → Prop} (cl : h.get? C = some (excClassObj nm qn C N bs bm hd sn sub ab col dd k0 k1 k2 k3 k5 nid))
    (fin : Q () ⟨h, g, d, t, os⟩) : wpAny M A (checkBuiltinCall "type.__call__" ⟨.ref C :: rest, kw⟩) Q E ⟨h, g, d, t, os⟩ := by
  have f3 := tc_sub
  have ty : (⟨h, g, d, t, os⟩ : Shared).TypeIs (.ref C) "type" := ⟨_, cl, rfl⟩
  simp only [checkBuiltinCall, tc_kind, tc_split]
  repeat (any_goals (first
    | assumption
    | with_reducible refine wpAny_loadPart_at cl ?_
    | with_reducible refine wpAny_onRaise ?_
    | with_reducible refine wpAny_map ?_
    | wp_step))
theorem xn_call (F : ExcBaseFacts B nid iid bB) (hT : ∀ X : String, bm.contains (.type X) = bB.contains (.type X)) {rest : List Value} {kw : List (Str × Value)} {fI : Addr}
    (cl : h.get? C = some (excClassObj nm qn C N bs bm hd sn sub ab col dd k0 k1 k2 k3 k5 nid))
    (hi : W.Looks (model prog w) h (typeLookup (.ref C) "__init__") (some (.ref fI)))
    (hb : ∀ self, W.Looks (model prog w) h (bindSpecial (.ref fI) self) (.ref fI, [self])) (hz : rest.length ≤ sizeLine)
    (fin : codeAny (model prog w) (A.under (.builtin "type.__call__" ⟨.ref C :: rest, kw⟩)) (.call (.ref fI) ⟨.ref (h.objs.size + 1) :: rest, kw⟩) (W.InitBack (h.objs.size + 1) R)
      ⟨(h.push (W.kdv_tup rest)).push (excO C h.objs.size), g, d, t, os⟩) :
    codeAny (model prog w) A (.call (.ref C) ⟨rest, kw⟩) R ⟨h, g, d, t, os⟩ := by
  have f1 := tc_lookup
  have f2 := tc_bind (.ref C)
  have ty : (⟨h, g, d, t, os⟩ : Shared).TypeIs (.ref C) "type" := ⟨_, cl, rfl⟩
  refine codeAny_of_tree ?_
  show wpAny _ _ (callAny (.ref C) _) _ _ _
  repeat (any_goals (first
    | assumption
    | with_reducible refine wpAny_loadPart_at cl ?_
    | wp_step))
  refine ⟨rfl, ?_⟩
  refine codeAny_call_builtin_at (Code.quiet_builtin _ (by decide +kernel)) entry_typeCall (xn_look cl (xn_tcall F hT cl hi hb hz ?_))
  refine codeAny_mono fin fun r s' z => ?_
  rcases r with e | (v | _ | _ | _) <;> exact z
end
end DR

namespace DR
open PySem PySem.Calls PyProof.Rows PySem.Builtin PySem.Builtin.ObjectAttr
section
variable {prog : Program} {w : World} {A : Around} {R : Result → Shared → Prop} {hp : Heap} {g : Array GenState} {d : Drawn} {t : Nat} {os : OsState} {K : PySem.W.Frag} {C : Addr} {f : Str}
theorem taker_none (no : PySem.W.findIn K (.ref C) f = some none) : PySem.W.takerIn K C f = some none := by
  unfold PySem.W.takerIn
  rw [no, Option.bind_some]
/-- self.f = v, the first attribute of an exception of one's own, over any built-in base -/
theorem osaB {B : String} {bB : List Value} {tk : Tok} {v : Value} {x t0 : Addr} (SF : StoreFacts B bB "object.__setattr__" "object") (X : K.In hp) (hx : hp.get? x = some (PySem.W.excObj C t0 none .none)) (ov : PySem.W.excOver K C bB = true) (hh : PySem.W.hasDictIn K C = true)
    (no : PySem.W.findIn K (.ref C) f = some none)
    (fin : ∀ h' tk', (∀ b o, b ≠ x → hp.get? b = some o → h'.get? b = some o) → h'.get? x = some (PySem.W.excObj C t0 (some hp.objs.size) .none) →
      h'.Ns1 hp.objs.size (fun y => if y = f then some v else none) → R (.ok (.ret .none)) ⟨h', g, d, tk', os⟩) :
    codeAny (model prog w) A (.call (.builtin "object.__setattr__") ⟨[.ref x, .str f tk, v], []⟩) R ⟨hp, g, d, t, os⟩ := by
  refine PySem.W.osa_openX (od := none) SF X ⟨hx, rfl, rfl, trivial⟩ ov (taker_none no) fun b => ?_
  obtain ⟨cd, hc, hd'⟩ := PySem.W.any_some hh
  have lt : x < hp.objs.size := Heap.lt_size hx
  have ne : hp.objs.size ≠ x := Nat.ne_of_gt lt
  refine wpAny_bind (wpAny_pure (wpAny_bind (PySem.W.instanceDict_exc hx (PySem.W.looks_clsIn X hc) hd' ?_)))
  show wpAny _ _ (storeInDict hp.objs.size (.str f tk) f v) _ _ _
  have hx1 := Heap.get?_push_of_some (PySem.W.dictOf [] 0) hx
  have hnd : ((hp.push (PySem.W.dictOf [] 0)).update x fun o => { o with dict := some hp.objs.size }).Ns hp.objs.size (fun _ => none) := by
    refine ⟨_, #[], _, (Heap.get?_update_ne _ _ _ _ ne).trans (Heap.get?_push_at rfl rfl), rfl, ?_, fun _ => rfl⟩
    intro e he
    exact absurd he (by simp)
  refine PySem.HandSPX.store_in_new hnd fun h' tk' hn' sb => ?_
  refine fin h' tk' (fun b o hb ho => ?_) ?_ hn'
  · rw [sb.2 b (Nat.ne_of_lt (Heap.lt_size ho)), Heap.get?_update_ne _ _ _ _ hb]
    exact Heap.get?_push_of_some _ ho
  · rw [sb.2 x ne.symm]
    exact Heap.get?_update_self _ hx1 rfl
end
open L2 PySem.Spec
/-- what stores into an exception of the class at C ask of it -/
def XSt (K : PySem.W.Frag) (C : Addr) : Prop := ∃ (B : String) (bB : List Value), StoreFacts B bB "object.__setattr__" "object" ∧ PySem.W.excOver K C bB = true ∧ PySem.W.hasDictIn K C = true ∧ PySem.W.findIn K (.ref C) "__setattr__" = some (some (.builtin "object.__setattr__"))
section
variable {X : Cx} {pins : List (Addr × Obj)} {σ : L2.St} {H : Hp} {s : Shared} {a C dx : Addr} {f : Str} {y : V} {u : Value} {Q : Unit → Shared → Prop} {E : Value → Shared → Prop} {A : Around}
theorem ostB (T : XSt X.K C) (I : Inv X pins σ H s) (e : H a = some (exo a C none)) (no : PySem.W.findIn X.K (.ref C) f = some none) (ry : RelV y u)
    (fin : ∀ dx s', H dx = none → dx ≠ a → Inv X pins σ (upd (upd H dx (exd dx [(f, y)])) a (exo a C (some dx))) s' → Q () s') :
    wpAny (model X.prog X.w) A (setAttr (.ref a) f u) Q E s := by
  obtain ⟨B, bB, SF, ov, hh, sa⟩ := T
  obtain ⟨t1, ho⟩ := exo_at I.hok e
  obtain ⟨hp, g, d, t, os⟩ := s
  refine PySem.W.set_plain I.kIn (ox := PySem.W.excObj C t1 none .none) (od := none) ⟨ho, rfl, rfl, trivial⟩ sa ?_
  refine osaB SF I.kIn ho ov hh no fun h' tk' k hx hn => ?_
  have fr : H hp.objs.size = none := I.hok.fresh (Nat.le_refl _)
  have ad : a ≠ hp.objs.size := Nat.ne_of_lt (Heap.lt_size ho)
  have old : ∀ {b : Addr} {o : Obj}, hp.get? b = some o → b ≠ hp.objs.size := fun q => Nat.ne_of_lt (Heap.lt_size q)
  have bare : ∀ {b : Addr}, H b = none → b ≠ a := fun {b} n z => nomatch (z ▸ n).symm.trans e
  have seen : ∀ {b : Addr} {o : HO}, b ≠ a → H b = some o → upd (upd H hp.objs.size (exd hp.objs.size [(f, y)])) a (exo a C (some hp.objs.size)) b = some o := fun {b o} n q => by
    rw [upd_ne n, upd_ne (ne_of_none q fr), q]
  have U : Un X.fs [] H (upd (upd H hp.objs.size (exd hp.objs.size [(f, y)])) a (exo a C (some hp.objs.size))) hp h' := by
    constructor
    · exact fun b o q n _ _ => k b o (bare n) q
    · exact fun b o q n _ _ => ⟨o.slots, k b o (bare n) q⟩
    · intro b o q n _
      rw [upd_ne (bare n), upd_ne (old q), n]
    · intro b o q _
      by_cases z : b = a
      · exact ⟨_, z ▸ hx⟩
      · exact ⟨o, k b o z q⟩
    · exact fun b xs q => seen (at_ne e q exo_tup) q
    · exact fun b o v q => seen (at_ne e q exo_frz) q
    · exact fun b ps q => ⟨#[], (seen (at_ne e q exo_tbl) q).trans (by simp)⟩
  refine fin _ _ fr ad.symm (I.un (t' := tk') U fun b o q => ?_)
  by_cases z : b = a
  · subst z
    obtain rfl := Option.some.inj (upd_same.symm.trans q)
    exact exo_ok hx
  rw [upd_ne z] at q
  by_cases z2 : b = hp.objs.size
  · subst z2
    obtain rfl := Option.some.inj (upd_same.symm.trans q)
    exact exd_ok hn (relO_put (fs := []) ry fun _ => True.intro)
  rw [upd_ne z2] at q
  refine (I.hok b o q).stay ?_ (fun c hc => seen (at_ne e hc exo_own) hc) fun c xs hc => seen (at_ne e hc exo_tup) hc
  intro c v hc r
  refine k c v ?_ r
  rcases hc with rfl | hc
  · exact z
  · exact at_ne e hc exo_own
end
/-! ### the rules -/
def tOstB (K : PySem.W.Frag) (f : Str) (to te : TE) : TS := fun D σ H => te σ H fun y H1 => to σ H1 fun x H2 => ∃ a C : Addr, x = .ref a ∧ XSt K C ∧ PySem.W.findIn K (.ref C) f = some none ∧
  H2 a = some (exo a C none) ∧ ∀ dx, H2 dx = none → dx ≠ a → D.nx σ (upd (upd H2 dx (exd dx [(f, y)])) a (exo a C (some dx)))
theorem ps_ostB {X : Cx} {o e : Expr} {to te : TE} {f : Str} {p' pos : Pos} (ho : PE X o to) (he : PE X e te) (hs : swapsWith e (some (.Attribute o f p')) pos.line X.env = pure false := by rfl) :
    PS X (.Assign [.Attribute o f p'] e pos) (tOstB X.K f to te) := by
  constructor
  intro pins s σ H D I h
  refine plainObj_wpAny_Assign_Attribute ?_ hs
  refine thn (he.run pins s σ H _ I h) ?_
  rintro v s1 ⟨y, H1, I1, r1, q1⟩
  refine thn (ho.run pins s1 σ H1 _ I1 q1) ?_
  rintro u s2 ⟨x, H2, I2, r2, a, C, rfl, T, no, ea, q⟩
  obtain rfl : u = Value.ref a := r2
  exact ostB T I2 ea no r1 fun dx s' n ne J => ⟨σ, _, J, q dx n ne⟩
end DR

namespace DR
open PySem PySem.Spec PySem.Calls PyProof.Rows L2
/-- what the making of an exception of the class at C asks -/
structure XMk (K : PySem.W.Frag) (C fI : Addr) (B nid iid : String) (bB : List Value) : Prop where
  base : ExcBaseFacts B nid iid bB
  made : PySem.W.excInitIn K C bB nid = true
  init : PySem.W.findIn K (.ref C) "__init__" = some (some (.ref fI))
  fn : PySem.W.typeIn K (.ref fI) = some (.type "function")
  keep : PySem.W.keepIn K (.ref C) = true
/-- __init__(self, f): the exception's one attribute -/
def spIni (C : Addr) (f : Str) : Sp := fun vs H Q _ => ∃ (a : Addr) (v : V), vs = [.ref a, v] ∧ H a = some (exo a C none) ∧
  ∀ dx, H dx = none → dx ≠ a → Q .non (upd (upd H dx (exd dx [(f, v)])) a (exo a C (some dx)))
/-- an exception with one attribute -/
def XAt (H : Hp) (a C : Addr) (f : Str) (v : V) : Prop := ∃ d, H a = some (exo a C (some d)) ∧ H d = some (exd d [(f, v)])
/-- how C(v), C(f = v) come: a new exception -/
def rMk (C : Addr) (f : Str) (v : V) (H : Hp) (Q : VK) : Prop := ∀ (a : Addr) (H' : Hp), H a = none → Same H H' → XAt H' a C f v → (∀ b, H' b = none → H b = none) → Q (.ref a) H'
section
variable {X : Cx} {pins : List (Addr × Obj)} {σ : L2.St} {H : Hp} {s : Shared} {Q : VK} {C fI : Addr} {B nid iid : String} {bB : List Value} {fd : FuncData} {ps : List Str} {f : Str} {k : Nat}
theorem run_mk {us all : List Value} {kw : List (Str × Value)} {v : V} {u : Value} (M : XMk X.K C fI B nid iid bB) (F : FnOk X.prog X.w X.K X.mg X.base CX0 k fI fd ps (spIni C f)) (hr : Room (k + 1) X.A)
    (bind : ∀ (s : Shared) (self : Value), X.K.In s.heap → BindsTo s fd ⟨self :: us, kw⟩ (ps.zip [self, u])) (hz : us.length ≤ sizeLine) (I : Inv X pins σ H s) (r : RelV v u) (h : rMk C f v H Q) :
    wpAny (model X.prog X.w) X.A (call (.ref C) us kw) (EP X pins σ Q) X.xe s := by
  obtain ⟨nm, N, qn, bs, bm, hd, sn, sub, ab, col, dd, k0, k1, k2, k3, k5, cl, hT⟩ := PySem.W.excInit_of I.kIn M.made
  obtain ⟨hp, g, dr, tk, os⟩ := s
  have up : hp.objs.size ≤ hp.objs.size + 1 := Nat.le_succ _
  have n0 : H (hp.objs.size + 1) = none := I.hok.fresh up
  have kp : ∀ b o, hp.get? b = some o → ((hp.push (PySem.W.kdv_tup us)).push (PySem.HandSPX.excO C hp.objs.size)).get? b = some o :=
    fun b o e => Heap.get?_push_of_some _ (Heap.get?_push_of_some _ e)
  have me : ((hp.push (PySem.W.kdv_tup us)).push (PySem.HandSPX.excO C hp.objs.size)).get? (hp.objs.size + 1) = some (PySem.HandSPX.excO C hp.objs.size) := by heap_get
  have I2 : Inv X pins σ (upd H (hp.objs.size + 1) (exo (hp.objs.size + 1) C none)) ⟨(hp.push (PySem.W.kdv_tup us)).push (PySem.HandSPX.excO C hp.objs.size), g, dr, tk, os⟩ :=
    I.laid (t' := tk) kp up (exo_ok me)
  have sp : spIni C f [.ref (hp.objs.size + 1), v] (upd H (hp.objs.size + 1) (exo (hp.objs.size + 1) C none)) (fun x H2 => x = .non ∧ Q (.ref (hp.objs.size + 1)) H2) E0 := by
    refine ⟨_, v, rfl, upd_same, fun dx nd ne => ⟨rfl, h _ _ n0 ?_ ⟨dx, upd_same, ?_⟩ ?_⟩⟩
    · intro b o q
      have b1 : b ≠ hp.objs.size + 1 := ne_of_none q n0
      have b2 : b ≠ dx := fun z => by
        rw [← z, upd_ne b1, q] at nd
        cases nd
      rw [upd_ne b1, upd_ne b2, upd_ne b1, q]
    · rw [upd_ne ne, upd_same]
    · intro b q
      by_cases b1 : b = hp.objs.size + 1
      · rw [b1]
        exact n0
      · rw [upd_ne b1] at q
        by_cases b2 : b = dx
        · rw [b2, upd_same] at q
          cases q
        · rw [upd_ne b2, upd_ne b1] at q
          exact q
  have go := F.run _ X.stack _ _ ⟨Value.ref (hp.objs.size + 1) :: us, kw⟩ [Value.ref (hp.objs.size + 1), u] _ _ E0 (hr.make C us kw) (I2.env0.make C us kw) (bind _ _ I2.kIn) (.cons (show RelV (.ref _) _ from rfl) (.cons r .nil)) sp
  refine wpAny_call (xn_call M.base hT cl (PySem.W.looks_findIn I.kIn M.init) (fun self => PySem.W.bind_fn I.kIn self M.fn) hz (codeAny_mono go fun res s' hq => ?_))
  match res, hq with
  | .error _, hq => exact hq.elim
  | .ok .next, hq => exact hq.elim
  | .ok .brk, hq => exact hq.elim
  | .ok .cont, hq => exact hq.elim
  | .ok (.ret u'), hq =>
    obtain ⟨v', H', I3, rv, ev, q3⟩ := I2.after hq
    subst ev
    exact ⟨rv, V.ref _, H', I3, rfl, q3⟩
end
/-- C(e), C(f = e) -/
def tMk1 (C : Addr) (f : Str) (ta : TA) : TE := fun σ H Q => ta σ H fun vs H1 => ∃ v, vs = [v] ∧ rMk C f v H1 Q
section
variable {X : Cx} {C fI : Addr} {B nid iid : String} {bB : List Value} {fd : FuncData} {ps : List Str} {f x : Str} {k : Nat} {e : Expr} {ta : TA} {p pos kpos : Pos}
theorem pe_mk1 (M : XMk X.K C fI B nid iid bB) (F : FnOk X.prog X.w X.K X.mg X.base CX0 k fI fd ps (spIni C f)) (hr : Room (k + 1) X.A)
    (bind : ∀ (s : Shared) (a b : Value), BindsTo s fd ⟨[a, b], []⟩ (ps.zip [a, b])) (hg : Gl X x) (hm : X.mg x = some (.ref C))
    (ha : PA X [e] ta) (hdb : (x == ("__debug__" : Str)) = false := by decide)
    (hs : starEach [e] X.env = (false, eval e X.env) :: starEach [] X.env := by rfl) (hpl : (backTo pos (starEach [] X.env)).any (·.1) = false := by rfl) :
    PE X (.Call (.Name x p) [e] [] pos) (tMk1 C f ta) := by
  constructor
  intro pins s σ H Q I h
  apply wpAny_Call_Name_kw
  refine ld_glob I hg hm ?_ hdb
  refine PySem.W.callWith_K (h₀ := X.base) I.mod.kin M.keep (thn (ha.run pos pins s σ H _ I h) ?_) hs hpl
  rintro us s1 ⟨vs, H1, I1, r, v, rfl, q⟩
  obtain ⟨u, rfl, ru⟩ := vals1 r
  exact ⟨I1.kIn, run_mk (all := []) M F hr (fun s self _ => bind s self u) (by show 1 ≤ sizeLine; decide) I1 ru q⟩
theorem pe_mkK (M : XMk X.K C fI B nid iid bB) (F : FnOk X.prog X.w X.K X.mg X.base CX0 k fI fd ps (spIni C f)) (hr : Room (k + 1) X.A)
    (bind : ∀ (s : Shared) (a b : Value), BindsTo s fd ⟨[a], [(f, b)]⟩ (ps.zip [a, b])) (hg : Gl X x) (hm : X.mg x = some (.ref C))
    (ha : PK X [⟨some f, e, kpos⟩] ta) (hall : (backToKw pos (keywordEach [⟨some f, e, kpos⟩] X.env)).all (·.1.isSome) = true := by rfl)
    (hks : (backToKw pos (keywordEach [⟨some f, e, kpos⟩] X.env)).filterMap (·.1) = [f] := by rfl) (hdb : (x == ("__debug__" : Str)) = false := by decide)
    (hpl : ((backTo pos (starEach [] X.env)).any (·.1) || (backToKw pos (keywordEach [⟨some f, e, kpos⟩] X.env)).any (·.1.isNone)) = false := by rfl) :
    PE X (.Call (.Name x p) [] [⟨some f, e, kpos⟩] pos) (tMk1 C f ta) := by
  constructor
  intro pins s σ H Q I h
  apply wpAny_Call_Name_kw
  refine ld_glob I hg hm ?_ hdb
  refine PySem.W.callWith_KW0 (h₀ := X.base) I.mod.kin M.keep hall (thn (ha.run pos pins s σ H _ I h) ?_) hpl
  rintro us s1 ⟨vs, H1, I1, r, v, rfl, q⟩
  obtain ⟨u, rfl, ru⟩ := vals1 r
  rw [hks]
  exact ⟨I1.kIn, run_mk (us := []) (all := []) M F hr (fun s self _ => bind s self u) (by show 0 ≤ sizeLine; decide) I1 ru q⟩
end
/-- what the reading of such an object's attribute asks of its class -/
structure XGet (K : PySem.W.Frag) (C : Addr) : Prop where
  ga : PySem.W.findIn K (.ref C) "__getattribute__" = some (some (.builtin "BaseException.__getattribute__"))
  gg : PySem.W.findIn K (.ref C) "__getattr__" = some none
  sb : PySem.W.subIn K (.ref C) (.type "BaseException") = some true
  hd : PySem.W.hasDictIn K C = true
theorem XAt.inst {X : Cx} {pins : List (Addr × Obj)} {σ : L2.St} {H : Hp} {s : Shared} {a C : Addr} {f : Str} {v : V} (I : Inv X pins σ H s) (h : XAt H a C f v) :
    ∃ ox od u, PySem.W.InstAt s.heap a ox C (some od) ∧ RelV v u ∧ PySem.W.lookIn f od = some (some u) := by
  obtain ⟨d, ha, hd⟩ := h
  obtain ⟨t1, ho⟩ := exo_at I.hok ha
  obtain ⟨mA, hns, rel⟩ := exd_at I.hok hd
  obtain ⟨od, hod, look⟩ := lookIn_ns hns
  have rf := rel f
  have e1 : ([(f, v)] : List (Str × V)).lookup f = some v := by simp [List.lookup]
  rw [e1] at rf
  obtain ⟨u, hu, ru⟩ := RelO.some_of rf
  exact ⟨_, od, u, ⟨ho, rfl, rfl, hod⟩, ru, by rw [look, hu]⟩
/-- e.f -/
def tXget (K : PySem.W.Frag) (f : Str) (te : TE) : TE := fun σ H Q => te σ H fun x H1 => ∃ (a C : Addr) (v : V), x = .ref a ∧ XAt H1 a C f v ∧ XGet K C ∧ PySem.W.findIn K (.ref C) f = some none ∧ Q v H1
theorem pe_xget {X : Cx} {e : Expr} {te : TE} {pos : Pos} {f : Str} (he : PE X e te) (hb : attributeBase e f X.env (eval e X.env) = eval e X.env := by rfl) : PE X (.Attribute e f pos) (tXget X.K f te) := by
  constructor
  intro pins s σ H Q I h
  refine attr_of hb (thn (he.run pins s σ H _ I h) ?_)
  rintro u s1 ⟨x, H1, I1, rx, a, C, v, rfl, ha, G, no, q⟩
  obtain rfl : u = Value.ref a := rx
  obtain ⟨ox, od, w', J, rw', lk⟩ := ha.inst I1
  exact PySem.HandSPX.exc_get I1.kIn J G.ga G.gg G.sb (PySem.W.findObj_own G.hd no rfl lk) (handed_of rw') ⟨v, H1, I1.tok _, rw', q⟩
/-- isinstance(e, c), e such an object -/
structure XIs (K : PySem.W.Frag) (C : Addr) : Prop extends XGet K C where
  cl : (PySem.W.clsIn K C).isSome = true
  ca : PySem.W.findIn K (.ref C) "__class__" = some (some (.builtin "object.__class__"))
  cg : PySem.W.specialIn K (.builtin "object.__class__") "__get__" = some (some (.builtin "getset_descriptor.__get__"))
  tk : PySem.W.takesIn K (.builtin "object.__class__") = some true
  ob : PySem.W.mroIn K C (.type "object") = some true
def rIsX (K : PySem.W.Frag) : List V → Hp → VK → Prop := fun xs H Q => ∃ (a C : Addr) (f : Str) (v c : V) (cv : Value) (b : Bool), xs = [.ref a, c] ∧ XAt H a C f v ∧ XIs K C ∧ ClsV c cv ∧ PySem.W.kitOne K (.ref C) cv = some b ∧ Q (.bl b) H
theorem call_isX {X : Cx} : CallR X (.builtin "isinstance") (rIsX X.K) := by
  intro pins s σ H xs us Q I r h
  obtain ⟨a, C, f, v, c, cv, b, rfl, ha, T, kc, e, q⟩ := h
  obtain ⟨u1, u2, rfl, r1, r2⟩ := vals2 r
  obtain rfl : u1 = Value.ref a := r1
  obtain rfl := kc.eq r2
  obtain ⟨ox, od, _, J, _⟩ := ha.inst I
  exact PySem.W.kia_one (PySem.W.kitx_exc T.cl T.ga T.gg T.sb T.ca T.cg T.tk T.ob) I.kIn J e (fun z => nomatch z) fun tk => ⟨.bl b, H, I.tok tk, rfl, q⟩
end DR

/-! data and exceptions carried to a later heap -/
namespace DR
open PySem PySem.Spec L2
theorem same_tup {K : PySem.W.Frag} {H H' : Hp} {a : Addr} {xs : List V} (e : Same H H') (h : SqT K H a xs) : SqT K H' a xs := by
  rcases h with (h | ⟨o, h⟩) | h
  · exact .inl (.inl (e _ _ h))
  · exact .inl (.inr ⟨o, e _ _ h⟩)
  · exact .inr h
mutual
theorem dp_same {K : PySem.W.Frag} {H H' : Hp} (e : Same H H') : ∀ (d : PyData) (v : V), Dp K H v d → Dp K H' v d
  | .none, _, h => by cases h; exact .non
  | .bool b, _, h => by cases h; exact .bl b
  | .int i, _, h => by cases h; exact .int i
  | .str x, _, h => by cases h; exact .str x
  | .list ds, _, h => by
    cases h with
    | lst hs ha => exact .lst (e.seq hs) (dps_same e ds _ ha)
  | .tuple ds, _, h => by
    cases h with
    | tup hs ha => exact .tup (same_tup e hs) (dps_same e ds _ ha)
  | .dict _, _, h => by cases h
theorem dps_same {K : PySem.W.Frag} {H H' : Hp} (e : Same H H') : ∀ (ds : List PyData) (vs : List V), DpAll K H vs ds → DpAll K H' vs ds
  | [], _, h => by cases h; exact .nil
  | d :: ds, _, h => by
    cases h with
    | cons h1 h2 => exact .cons (dp_same e d _ h1) (dps_same e ds _ h2)
end
theorem DpE.same {K : PySem.W.Frag} {H H' : Hp} {v : V} {d : PyData} (e : Same H H') (h : DpE K H v d) : DpE K H' v d :=
  h.imp (dp_same e d v) fun ⟨a, h1, h2, h3⟩ => ⟨a, h1, e _ _ h2, h3⟩
theorem XAt.same {H H' : Hp} {a C : Addr} {f : Str} {v : V} (e : Same H H') (h : XAt H a C f v) : XAt H' a C f v :=
  let ⟨d, h1, h2⟩ := h
  ⟨d, e _ _ h1, e _ _ h2⟩
/-- a list of bools as data -/
theorem dps_bools {K : PySem.W.Frag} {H : Hp} : ∀ bs : List Bool, DpAll K H (bs.map V.bl) (bs.map PyData.bool)
  | [] => .nil
  | b :: bs => .cons (.bl b) (dps_bools bs)
theorem dps_rep {K : PySem.W.Frag} {H : Hp} {v : V} {d : PyData} (h : Dp K H v d) : ∀ n : Nat, DpAll K H (List.replicate n v) (List.replicate n d)
  | 0 => .nil
  | n + 1 => .cons h (dps_rep h n)
/-- a test «x != y» of what is equal -/
theorem if_eq {c : Bool} {A B : Prop} (h : c = true) (b : B) : if (!c) = true then A else B := by
  rw [h]
  exact iteF b
/-- all that one class of the law's errors is known by -/
structure XC (P : Program) (w : World) (K : PySem.W.Frag) (mg : Str → Option Value) (base : Heap) (x f : Str) (C : Addr) : Prop where
  ex : ∃ (fI : Addr) (B nid iid : String) (bB : List Value) (fd : FuncData), XMk K C fI B nid iid bB ∧ FnOk P w K mg base CX0 1 fI fd ["self", f] (spIni C f) ∧
    (∀ (s : Shared) (a b : Value), BindsTo s fd ⟨[a, b], []⟩ ((["self", f] : List Str).zip [a, b])) ∧ (∀ (s : Shared) (a b : Value), BindsTo s fd ⟨[a], [(f, b)]⟩ ((["self", f] : List Str).zip [a, b]))
  mg : mg x = some (.ref C)
  is : XIs K C
  no : PySem.W.findIn K (.ref C) f = some none
section
variable {X : Cx} {C : Addr} {f x : Str} {e : Expr} {ta : TA} {p pos kpos : Pos}
theorem pe_mkC (T : XC X.prog X.w X.K X.mg X.base x f C) (hr : Room 2 X.A) (hg : Gl X x) (ha : PA X [e] ta) (hdb : (x == ("__debug__" : Str)) = false := by decide)
    (hs : starEach [e] X.env = (false, eval e X.env) :: starEach [] X.env := by rfl) (hpl : (backTo pos (starEach [] X.env)).any (·.1) = false := by rfl) :
    PE X (.Call (.Name x p) [e] [] pos) (tMk1 C f ta) := by
  obtain ⟨fI, B, nid, iid, bB, fd, M, F, b1, b2⟩ := T.ex
  exact pe_mk1 M F hr b1 hg T.mg ha hdb hs hpl
theorem pe_mkCK (T : XC X.prog X.w X.K X.mg X.base x f C) (hr : Room 2 X.A) (hg : Gl X x) (ha : PK X [⟨some f, e, kpos⟩] ta)
    (hall : (backToKw pos (keywordEach [⟨some f, e, kpos⟩] X.env)).all (·.1.isSome) = true := by rfl)
    (hks : (backToKw pos (keywordEach [⟨some f, e, kpos⟩] X.env)).filterMap (·.1) = [f] := by rfl) (hdb : (x == ("__debug__" : Str)) = false := by decide)
    (hpl : ((backTo pos (starEach [] X.env)).any (·.1) || (backToKw pos (keywordEach [⟨some f, e, kpos⟩] X.env)).any (·.1.isNone)) = false := by rfl) :
    PE X (.Call (.Name x p) [] [⟨some f, e, kpos⟩] pos) (tMk1 C f ta) := by
  obtain ⟨fI, B, nid, iid, bB, fd, M, F, b1, b2⟩ := T.ex
  exact pe_mkK M F hr b2 hg T.mg ha hall hks hdb hpl
end
end DR

/-! The documents' mathematics, over lists of codes. -/
namespace DM
abbrev W := List Nat
def lets : List Nat := [97, 98, 99, 100, 101, 102, 103, 104, 105, 106, 107, 108, 109, 110, 111, 112, 113, 114, 115, 116, 117, 118, 119, 120, 121, 122]
/-! ### cut -/
def cutStep (L S : List Nat) : Option (List W × W) → Nat → Option (List W × W)
  | none, _ => none
  | some (ps, w), c => if c ∈ L then some (ps, w ++ [c]) else if c ∈ S then (if w = [] then some (ps ++ [[c]], []) else some (ps ++ [w] ++ [[c]], [])) else none
def flush (ps : List W) (w : W) : List W := if w = [] then ps else ps ++ [w]
def cutM (L S : List Nat) (t : W) : Option (List W) := (t.foldl (cutStep L S) (some ([], []))).map fun x => flush x.1 x.2
theorem cut_none (L S : List Nat) : ∀ t : W, t.foldl (cutStep L S) none = none
  | [] => rfl
  | _ :: t => cut_none L S t
theorem cut_word {L S : List Nat} : ∀ (u : W) (ps : List W) (w r : W), (∀ c ∈ u, c ∈ L) → (u ++ r).foldl (cutStep L S) (some (ps, w)) = r.foldl (cutStep L S) (some (ps, w ++ u))
  | [], ps, w, r, _ => by simp
  | c :: u, ps, w, r, h => by
    have hc : c ∈ L := h c (List.mem_cons_self ..)
    have ih := cut_word (S := S) u ps (w ++ [c]) r fun x hx => h x (List.mem_cons_of_mem _ hx)
    show (u ++ r).foldl (cutStep L S) (cutStep L S (some (ps, w)) c) = _
    rw [show cutStep L S (some (ps, w)) c = some (ps, w ++ [c]) from if_pos hc, ih, List.append_assoc]
    rfl
theorem cut_sign {L S : List Nat} {c : Nat} (h1 : c ∉ L) (h2 : c ∈ S) (ps : List W) (w : W) : cutStep L S (some (ps, w)) c = some (flush ps w ++ [[c]], []) := by
  show (if c ∈ L then _ else if c ∈ S then (if w = [] then _ else _) else _) = _
  rw [if_neg h1, if_pos h2]
  unfold flush
  split <;> rfl
/-! ### trees -/
mutual
inductive Tr where
  | nd (k : W) (ms : List W) (ks : Trs)
inductive Trs where
  | nil
  | cons (t : Tr) (ts : Trs)
end
def headL (k : W) (ms : List W) : W := k ++ (ms.map fun m => 46 :: m).flatten
mutual
def Tr.text : Tr → W
  | .nd k ms ks => headL k ms ++ ks.wrap
def Trs.wrap : Trs → W
  | .nil => []
  | .cons t ts => 40 :: (t.text ++ ts.more)
def Trs.more : Trs → W
  | .nil => [41]
  | .cons t ts => 44 :: (t.text ++ ts.more)
end
mutual
def Tr.toks : Tr → List W
  | .nd k ms ks => headL k ms :: ks.wrapT
def Trs.wrapT : Trs → List W
  | .nil => []
  | .cons t ts => [40] :: (t.toks ++ ts.moreT)
def Trs.moreT : Trs → List W
  | .nil => [[41]]
  | .cons t ts => [44] :: (t.toks ++ ts.moreT)
end
def isName (w : W) : Bool := decide (1 ≤ w.length) && decide (w.length ≤ 8) && w.all fun c => decide (c ∈ lets)
def areNames (ws : List W) : Bool := ws.all isName && decide ws.Nodup
mutual
def Tr.good : Tr → Prop
  | .nd k ms ks => isName k = true ∧ areNames ms = true ∧ ks.good
def Trs.good : Trs → Prop
  | .nil => True
  | .cons t ts => t.good ∧ ts.good
end
/-- what read_rows cuts by -/
def LD : List Nat := lets ++ [46]
def SG : List Nat := [40, 41, 44]
theorem isName_mem {w : W} (h : isName w = true) : w ≠ [] ∧ w.length ≤ 8 ∧ ∀ c ∈ w, c ∈ lets := by
  unfold isName at h
  simp only [Bool.and_eq_true, decide_eq_true_eq, List.all_eq_true] at h
  obtain ⟨⟨h1, h2⟩, h3⟩ := h
  refine ⟨fun e => ?_, h2, h3⟩
  rw [e] at h1
  exact absurd h1 (by decide)
theorem areNames_mem {ws : List W} (h : areNames ws = true) : (∀ w ∈ ws, isName w = true) ∧ ws.Nodup := by
  unfold areNames at h
  simp only [Bool.and_eq_true, decide_eq_true_eq, List.all_eq_true] at h
  exact h
theorem head_in {k : W} {ms : List W} (hk : isName k = true) (hm : areNames ms = true) : headL k ms ≠ [] ∧ ∀ c ∈ headL k ms, c ∈ LD := by
  obtain ⟨k1, _, k2⟩ := isName_mem hk
  obtain ⟨m1, _⟩ := areNames_mem hm
  refine ⟨fun e => k1 (List.append_eq_nil_iff.mp e).1, fun c hc => ?_⟩
  rcases List.mem_append.mp hc with h | h
  · exact List.mem_append_left _ (k2 c h)
  · obtain ⟨l, hl, hc⟩ := List.mem_flatten.mp h
    obtain ⟨m, hm, rfl⟩ := List.mem_map.mp hl
    rcases List.mem_cons.mp hc with rfl | hc
    · exact List.mem_append_right _ (List.mem_cons_self ..)
    · exact List.mem_append_left _ ((isName_mem (m1 m hm)).2.2 c hc)
theorem sg_no {c : Nat} (h : c ∈ SG) : c ∉ LD := by
  unfold SG at h
  unfold LD lets
  simp at h
  rcases h with rfl | rfl | rfl <;> decide
mutual
theorem cut_tree : ∀ (t : Tr), t.good → ∀ (ps : List W) (r : W), ∃ ps' w', (t.text ++ r).foldl (cutStep LD SG) (some (ps, [])) = r.foldl (cutStep LD SG) (some (ps', w')) ∧ flush ps' w' = ps ++ t.toks
  | .nd k ms ks, g, ps, r => by
    obtain ⟨g1, g2, g3⟩ := g
    obtain ⟨h1, h2⟩ := head_in g1 g2
    rw [show (Tr.nd k ms ks).text = headL k ms ++ ks.wrap from by rw [Tr.text], List.append_assoc, cut_word _ _ _ _ h2]
    obtain ⟨ps', w', e1, e2⟩ := cut_wrap ks g3 ps (headL k ms) h1 r
    refine ⟨ps', w', e1, ?_⟩
    rw [e2, Tr.toks]
theorem cut_wrap : ∀ (ks : Trs), ks.good → ∀ (ps : List W) (h : W), h ≠ [] → ∀ r : W, ∃ ps' w', (ks.wrap ++ r).foldl (cutStep LD SG) (some (ps, [] ++ h)) = r.foldl (cutStep LD SG) (some (ps', w')) ∧ flush ps' w' = ps ++ (h :: ks.wrapT)
  | .nil, _, ps, h, nh, r => by
    refine ⟨ps, h, by simp [Trs.wrap], ?_⟩
    unfold flush
    rw [if_neg nh, Trs.wrapT]
  | .cons t ts, g, ps, h, nh, r => by
    rw [Trs.good] at g
    have s : (40 : Nat) ∈ SG := by decide
    rw [Trs.wrap, List.cons_append, List.foldl_cons, cut_sign (sg_no s) s, List.append_assoc]
    obtain ⟨p1, w1, e1, f1⟩ := cut_tree t g.1 (flush ps ([] ++ h) ++ [[40]]) (ts.more ++ r)
    rw [e1]
    obtain ⟨p2, w2, e2, f2⟩ := cut_more ts g.2 p1 w1 r
    refine ⟨p2, w2, e2, ?_⟩
    rw [f2, f1, Trs.wrapT]
    have e3 : flush ps ([] ++ h) = ps ++ [h] := by
      unfold flush
      rw [List.nil_append, if_neg nh]
    rw [e3]
    simp
theorem cut_more : ∀ (ts : Trs), ts.good → ∀ (ps : List W) (w r : W), ∃ ps' w', (ts.more ++ r).foldl (cutStep LD SG) (some (ps, w)) = r.foldl (cutStep LD SG) (some (ps', w')) ∧ flush ps' w' = flush ps w ++ ts.moreT
  | .nil, _, ps, w, r => by
    have s : (41 : Nat) ∈ SG := by decide
    refine ⟨flush ps w ++ [[41]], [], ?_, ?_⟩
    · rw [Trs.more, List.cons_append, List.foldl_cons, cut_sign (sg_no s) s, List.nil_append]
    · rw [Trs.moreT]
      rfl
  | .cons t ts, g, ps, w, r => by
    rw [Trs.good] at g
    have s : (44 : Nat) ∈ SG := by decide
    rw [Trs.more, List.cons_append, List.foldl_cons, cut_sign (sg_no s) s, List.append_assoc]
    obtain ⟨p1, w1, e1, f1⟩ := cut_tree t g.1 (flush ps w ++ [[44]]) (ts.more ++ r)
    rw [e1]
    obtain ⟨p2, w2, e2, f2⟩ := cut_more ts g.2 p1 w1 r
    refine ⟨p2, w2, e2, ?_⟩
    rw [f2, f1, Trs.moreT]
    simp
end
theorem cut_text (t : Tr) (g : t.good) : cutM LD SG t.text = some t.toks := by
  obtain ⟨ps, w, e, f⟩ := cut_tree t g [] []
  unfold cutM
  rw [List.append_nil] at e
  rw [e]
  simp [f]
end DM

namespace DM
abbrev Row := Nat × W × List W
/-- what the reading does with the names of a head: the sorted marks are a parameter -/
def headM (srt : List W → List W) (w : W) : Option (W × List W) :=
  match TL.spl [46] 0 [] w with
  | [] => none
  | k :: ms => if isName k = true ∧ areNames ms = true then some (k, srt ms) else none
def readStep (srt : List W → List W) : Option (Nat × W × List Row) → W → Option (Nat × W × List Row)
  | none, _ => none
  | some (d, b, rs), p =>
    if b = [40] ∨ b = [44] then (match headM srt p with | none => none | some (k, ms) => some (d, p, rs ++ [(d, k, ms)]))
    else if p = [40] ∧ b ≠ [41] then some (d + 1, p, rs)
    else if p = [41] ∧ 0 < d then some (d - 1, p, rs)
    else if p ≠ [44] ∨ d = 0 then none
    else some (d, p, rs)
def readM (srt : List W → List W) (ps : List W) : Option (List Row) :=
  match ps.foldl (readStep srt) (some (0, [44], [])) with
  | none => none
  | some (d, b, rs) => if 0 < d ∨ b = [40] ∨ b = [44] then none else some rs
mutual
def Tr.rows (srt : List W → List W) : Nat → Tr → List Row
  | d, .nd k ms ks => (d, k, srt ms) :: ks.rows srt (d + 1)
def Trs.rows (srt : List W → List W) : Nat → Trs → List Row
  | _, .nil => []
  | d, .cons t ts => t.rows srt d ++ ts.rows srt d
end
theorem headM_good {srt : List W → List W} {k : W} {ms : List W} (hk : isName k = true) (hm : areNames ms = true) : headM srt (headL k ms) = some (k, srt ms) := by
  have n46 : ∀ {w : W}, isName w = true → (46 : Nat) ∉ w := fun {w} h m => by
    have := (isName_mem h).2.2 46 m
    revert this
    decide
  have key : ∀ (ms : List W), (∀ m ∈ ms, isName m = true) → ∀ (k : W), isName k = true → TL.spl [46] 0 [] (headL k ms) = k :: ms := by
    intro ms
    induction ms with
    | nil =>
      intro _ k hk
      have := TL.spl_last1 (S := []) (acc := []) (n46 hk)
      simpa [headL] using this
    | cons m ms ih =>
      intro h k hk
      have h1 := TL.spl_part1 (S := []) (acc := []) (rest := headL m ms) (n46 hk)
      have e : headL k (m :: ms) = k ++ ([46] ++ headL m ms) := by simp [headL]
      rw [e, h1, ih (fun x hx => h x (List.mem_cons_of_mem _ hx)) m (h m (List.mem_cons_self ..))]
      rfl
  unfold headM
  rw [key ms (areNames_mem hm).1 k hk]
  exact if_pos ⟨hk, hm⟩
theorem head_not {k : W} {ms : List W} (hk : isName k = true) {c : Nat} (hc : c ∈ SG) : headL k ms ≠ [c] := by
  obtain ⟨k1, _, k2⟩ := isName_mem hk
  intro e
  unfold headL at e
  cases k with
  | nil => exact k1 rfl
  | cons a k =>
    rw [List.cons_append] at e
    injection e with e1 _
    have := k2 a (List.mem_cons_self ..)
    rw [e1] at this
    exact sg_no hc (List.mem_append_left _ this)
section
variable {srt : List W → List W}
mutual
theorem read_tree : ∀ (t : Tr), t.good → ∀ (d : Nat) (b : W) (rs : List Row) (r : List W), b = [40] ∨ b = [44] →
    ∃ b', b' ≠ [40] ∧ b' ≠ [44] ∧ (t.toks ++ r).foldl (readStep srt) (some (d, b, rs)) = r.foldl (readStep srt) (some (d, b', rs ++ t.rows srt d))
  | .nd k ms ks, g, d, b, rs, r, hb => by
    obtain ⟨g1, g2, g3⟩ := g
    have s : readStep srt (some (d, b, rs)) (headL k ms) = some (d, headL k ms, rs ++ [(d, k, srt ms)]) := by
      show (if b = [40] ∨ b = [44] then _ else _) = _
      rw [if_pos hb, headM_good g1 g2]
    rw [Tr.toks, List.cons_append, List.foldl_cons, s]
    obtain ⟨b', h1, h2, e⟩ := read_wrap ks g3 d (headL k ms) (head_not g1 (by decide)) (head_not g1 (by decide)) (head_not g1 (by decide)) (rs ++ [(d, k, srt ms)]) r
    refine ⟨b', h1, h2, ?_⟩
    rw [e, Tr.rows, List.append_assoc]
    rfl
theorem read_wrap : ∀ (ks : Trs), ks.good → ∀ (d : Nat) (b : W), b ≠ [40] → b ≠ [41] → b ≠ [44] → ∀ (rs : List Row) (r : List W),
    ∃ b', b' ≠ [40] ∧ b' ≠ [44] ∧ (ks.wrapT ++ r).foldl (readStep srt) (some (d, b, rs)) = r.foldl (readStep srt) (some (d, b', rs ++ ks.rows srt (d + 1)))
  | .nil, _, d, b, n1, _, n3, rs, r => ⟨b, n1, n3, by simp [Trs.wrapT, Trs.rows]⟩
  | .cons t ts, g, d, b, n1, n2, n3, rs, r => by
    rw [Trs.good] at g
    have s : readStep srt (some (d, b, rs)) [40] = some (d + 1, [40], rs) := by
      show (if b = [40] ∨ b = [44] then _ else _) = _
      rw [if_neg (fun h => h.elim n1 n3), if_pos ⟨rfl, n2⟩]
    rw [Trs.wrapT, List.cons_append, List.foldl_cons, s, List.append_assoc]
    obtain ⟨b1, h1, h2, e1⟩ := read_tree t g.1 (d + 1) [40] rs (ts.moreT ++ r) (.inl rfl)
    rw [e1]
    obtain ⟨b2, h3, h4, e2⟩ := read_more ts g.2 d b1 h1 h2 (rs ++ t.rows srt (d + 1)) r
    refine ⟨b2, h3, h4, ?_⟩
    rw [e2, Trs.rows, List.append_assoc]
theorem read_more : ∀ (ts : Trs), ts.good → ∀ (d : Nat) (b : W), b ≠ [40] → b ≠ [44] → ∀ (rs : List Row) (r : List W),
    ∃ b', b' ≠ [40] ∧ b' ≠ [44] ∧ (ts.moreT ++ r).foldl (readStep srt) (some (d + 1, b, rs)) = r.foldl (readStep srt) (some (d, b', rs ++ ts.rows srt (d + 1)))
  | .nil, _, d, b, n1, n3, rs, r => by
    have s : readStep srt (some (d + 1, b, rs)) [41] = some (d, [41], rs) := by
      show (if b = [40] ∨ b = [44] then _ else _) = _
      rw [if_neg (fun h => h.elim n1 n3), if_neg (fun h => absurd h.1 (by decide)), if_pos ⟨rfl, Nat.succ_pos d⟩]
      rfl
    refine ⟨[41], by decide, by decide, ?_⟩
    rw [Trs.moreT, List.cons_append, List.foldl_cons, s]
    simp [Trs.rows]
  | .cons t ts, g, d, b, n1, n3, rs, r => by
    rw [Trs.good] at g
    have s : readStep srt (some (d + 1, b, rs)) [44] = some (d + 1, [44], rs) := by
      show (if b = [40] ∨ b = [44] then _ else _) = _
      rw [if_neg (fun h => h.elim n1 n3), if_neg (fun h => absurd h.1 (by decide)), if_neg (fun h => absurd h.1 (by decide)), if_neg (fun h => h.elim (fun q => q rfl) (fun q => absurd q (Nat.succ_ne_zero d)))]
    rw [Trs.moreT, List.cons_append, List.foldl_cons, s, List.append_assoc]
    obtain ⟨b1, h1, h2, e1⟩ := read_tree t g.1 (d + 1) [44] rs (ts.moreT ++ r) (.inr rfl)
    rw [e1]
    obtain ⟨b2, h3, h4, e2⟩ := read_more ts g.2 d b1 h1 h2 (rs ++ t.rows srt (d + 1)) r
    refine ⟨b2, h3, h4, ?_⟩
    rw [e2, Trs.rows, List.append_assoc]
end
theorem read_text (t : Tr) (g : t.good) : readM srt t.toks = some (t.rows srt 0) := by
  obtain ⟨b, h1, h2, e⟩ := read_tree (srt := srt) t g 0 [44] [] [] (.inr rfl)
  unfold readM
  rw [List.append_nil] at e
  rw [e]
  show (if 0 < 0 ∨ b = [40] ∨ b = [44] then none else some ([] ++ t.rows srt 0)) = _
  rw [if_neg (fun h => by rcases h with h | h | h; exact absurd h (by decide); exact h1 h; exact h2 h)]
  rfl
end
/-! ### text_of -/
def pad (b : Int) (d : Nat) : W := if (d : Int) > b ∧ b > -1 then [40] else if (d : Int) ≤ b then List.replicate (b - d).toNat 41 ++ [44] else []
def outStep (x : W × Int) (r : Row) : W × Int := (x.1 ++ (pad x.2 r.1 ++ headL r.2.1 r.2.2), (r.1 : Int))
def shut (x : W × Int) (d : Nat) : W := x.1 ++ List.replicate (x.2 - d).toNat 41
def outM (rs : List Row) : W := shut (rs.foldl outStep ([], -1)) 0
mutual
def Tr.sortT (srt : List W → List W) : Tr → Tr
  | .nd k ms ks => .nd k (srt ms) (ks.sortT srt)
def Trs.sortT (srt : List W → List W) : Trs → Trs
  | .nil => .nil
  | .cons t ts => .cons (t.sortT srt) (ts.sortT srt)
end
section
variable {srt : List W → List W}
theorem shut_succ {x : W × Int} {d : Nat} (h : ((d + 1 : Nat) : Int) ≤ x.2) : shut x d = shut x (d + 1) ++ [41] := by
  unfold shut
  have e : (x.2 - (d : Int)).toNat = (x.2 - ((d + 1 : Nat) : Int)).toNat + 1 := by omega
  rw [e, List.replicate_succ', List.append_assoc]
mutual
theorem out_tree : ∀ (t : Tr) (d : Nat) (x : W × Int), (d : Int) ≤ ((t.rows srt d).foldl outStep x).2 ∧ shut ((t.rows srt d).foldl outStep x) d = x.1 ++ pad x.2 d ++ (t.sortT srt).text
  | .nd k ms ks, d, x => by
    rw [Tr.rows, List.foldl_cons, Tr.sortT, Tr.text]
    obtain ⟨h1, h2⟩ := out_wrap ks d (x.1 ++ (pad x.2 d ++ headL k (srt ms)))
    refine ⟨h1, ?_⟩
    show shut (List.foldl outStep (x.1 ++ (pad x.2 d ++ headL k (srt ms)), (d : Int)) (ks.rows srt (d + 1))) d = _
    rw [h2]
    simp [List.append_assoc]
theorem out_wrap : ∀ (ks : Trs) (d : Nat) (a : W), (d : Int) ≤ ((ks.rows srt (d + 1)).foldl outStep (a, (d : Int))).2 ∧ shut ((ks.rows srt (d + 1)).foldl outStep (a, (d : Int))) d = a ++ (ks.sortT srt).wrap
  | .nil, d, a => by
    rw [Trs.rows, List.foldl_nil, Trs.sortT, Trs.wrap]
    refine ⟨Int.le_refl _, ?_⟩
    unfold shut
    simp
  | .cons t ts, d, a => by
    rw [Trs.rows, List.foldl_append, Trs.sortT, Trs.wrap]
    obtain ⟨h1, h2⟩ := out_tree t (d + 1) (a, (d : Int))
    obtain ⟨h3, h4⟩ := out_more ts d _ h1
    refine ⟨by omega, ?_⟩
    rw [h4, h2]
    have e : pad (d : Int) (d + 1) = [40] := by
      unfold pad
      rw [if_pos ⟨by omega, by omega⟩]
    show a ++ pad (d : Int) (d + 1) ++ _ ++ _ = _
    rw [e]
    simp [List.append_assoc]
theorem out_more : ∀ (ts : Trs) (d : Nat) (x : W × Int), ((d + 1 : Nat) : Int) ≤ x.2 → ((d + 1 : Nat) : Int) ≤ ((ts.rows srt (d + 1)).foldl outStep x).2 ∧ shut ((ts.rows srt (d + 1)).foldl outStep x) d = shut x (d + 1) ++ (ts.sortT srt).more
  | .nil, d, x, h => by
    rw [Trs.rows, List.foldl_nil, Trs.sortT, Trs.more]
    exact ⟨h, shut_succ h⟩
  | .cons t ts, d, x, h => by
    rw [Trs.rows, List.foldl_append, Trs.sortT, Trs.more]
    obtain ⟨h1, h2⟩ := out_tree t (d + 1) x
    obtain ⟨h3, h4⟩ := out_more ts d _ h1
    refine ⟨h3, ?_⟩
    rw [h4, h2]
    have e : pad x.2 (d + 1) = List.replicate (x.2 - ((d + 1 : Nat) : Int)).toNat 41 ++ [44] := by
      unfold pad
      rw [if_neg (fun q => absurd q.1 (by omega)), if_pos h]
    rw [e]
    unfold shut
    simp [List.append_assoc]
end
theorem out_text (t : Tr) : outM (t.rows srt 0) = (t.sortT srt).text := by
  obtain ⟨_, h⟩ := out_tree (srt := srt) t 0 ([], -1)
  unfold outM
  rw [h]
  rfl
end
/-! ### paths_of -/
abbrev Pth := List Nat
def next (q : Pth) (d : Nat) : Pth := if q.length < d then q ++ [0] else if 0 < d then q.take (d - 1) ++ [q.getD (d - 1) 0 + 1] else q
def pathStep (x : List Pth × Pth) (r : Row) : List Pth × Pth := (x.1 ++ [next x.2 r.1], next x.2 r.1)
def pathsM (rs : List Row) : List Pth := (rs.foldl pathStep ([], [])).1
mutual
def Tr.nodes : Pth → Tr → List (Pth × Tr)
  | p, .nd k ms ks => (p, .nd k ms ks) :: ks.nodes p 0
def Trs.nodes : Pth → Nat → Trs → List (Pth × Tr)
  | _, _, .nil => []
  | p, i, .cons t ts => t.nodes (p ++ [i]) ++ ts.nodes p (i + 1)
end
section
variable {srt : List W → List W}
mutual
theorem path_tree : ∀ (t : Tr) (p q : Pth) (ps : List Pth), next q p.length = p →
    ∃ q', (t.rows srt p.length).foldl pathStep (ps, q) = (ps ++ (t.nodes p).map (·.1), q') ∧ p.length ≤ q'.length ∧ q'.take p.length = p
  | .nd k ms ks, p, q, ps, h => by
    rw [Tr.rows, List.foldl_cons, Tr.nodes]
    obtain ⟨q', e, h1, h2⟩ := path_wrap ks p (ps ++ [p])
    refine ⟨q', ?_, h1, h2⟩
    show List.foldl pathStep (ps ++ [next q p.length], next q p.length) _ = _
    rw [h, e]
    simp
theorem path_wrap : ∀ (ks : Trs) (p : Pth) (ps : List Pth), ∃ q', (ks.rows srt (p.length + 1)).foldl pathStep (ps, p) = (ps ++ (ks.nodes p 0).map (·.1), q') ∧ p.length ≤ q'.length ∧ q'.take p.length = p
  | .nil, p, ps => ⟨p, by simp [Trs.rows, Trs.nodes], Nat.le_refl _, List.take_length⟩
  | .cons t ts, p, ps => by
    rw [Trs.rows, List.foldl_append, Trs.nodes]
    have l1 : (p ++ [0]).length = p.length + 1 := by simp
    have n1 : next p (p ++ [0]).length = p ++ [0] := by
      unfold next
      rw [if_pos (by rw [l1]; exact Nat.lt_succ_self _)]
    obtain ⟨q1, e1, h1, h2⟩ := path_tree t (p ++ [0]) p ps n1
    rw [l1] at e1 h1 h2
    rw [e1]
    obtain ⟨q2, e2, h3, h4⟩ := path_more ts p 0 q1 h1 h2 (ps ++ (t.nodes (p ++ [0])).map (·.1))
    refine ⟨q2, ?_, h3, h4⟩
    rw [e2]
    simp
theorem path_more : ∀ (ts : Trs) (p : Pth) (i : Nat) (q : Pth), p.length + 1 ≤ q.length → q.take (p.length + 1) = p ++ [i] → ∀ ps : List Pth,
    ∃ q', (ts.rows srt (p.length + 1)).foldl pathStep (ps, q) = (ps ++ (ts.nodes p (i + 1)).map (·.1), q') ∧ p.length ≤ q'.length ∧ q'.take p.length = p
  | .nil, p, i, q, h1, h2, ps => by
    refine ⟨q, by simp [Trs.rows, Trs.nodes], Nat.le_trans (Nat.le_succ _) h1, ?_⟩
    have := congrArg (List.take p.length) h2
    rw [List.take_take, Nat.min_eq_left (Nat.le_succ _)] at this
    rw [this, List.take_left]
  | .cons t ts, p, i, q, h1, h2, ps => by
    rw [Trs.rows, List.foldl_append, Trs.nodes]
    have l1 : (p ++ [i + 1]).length = p.length + 1 := by simp
    have t1 : q.take p.length = p := by
      have := congrArg (List.take p.length) h2
      rw [List.take_take, Nat.min_eq_left (Nat.le_succ _)] at this
      rw [this, List.take_left]
    have g1 : q.getD p.length 0 = i := by
      have := congrArg (fun l => l.getD p.length 0) h2
      simp only [List.getD_eq_getElem?_getD] at this ⊢
      rw [List.getElem?_take_of_lt (Nat.lt_succ_self _)] at this
      rw [this]
      simp
    have n1 : next q (p ++ [i + 1]).length = p ++ [i + 1] := by
      unfold next
      rw [l1, if_neg (by omega), if_pos (Nat.succ_pos _)]
      show q.take p.length ++ [q.getD p.length 0 + 1] = _
      rw [t1, g1]
    obtain ⟨q1, e1, h3, h4⟩ := path_tree t (p ++ [i + 1]) q ps n1
    rw [l1] at e1 h3 h4
    rw [e1]
    obtain ⟨q2, e2, h5, h6⟩ := path_more ts p (i + 1) q1 h3 h4 (ps ++ (t.nodes (p ++ [i + 1])).map (·.1))
    refine ⟨q2, ?_, h5, h6⟩
    rw [e2]
    simp
end
theorem path_text (t : Tr) : pathsM (t.rows srt 0) = (t.nodes []).map (·.1) := by
  obtain ⟨q, e, _⟩ := path_tree (srt := srt) t [] [] [] rfl
  unfold pathsM
  have e' : List.foldl pathStep ([], []) (t.rows srt 0) = ([] ++ (t.nodes []).map (·.1), q) := e
  rw [e']
  rfl
end
end DM

namespace DM
/-! ### sorting -/
def rises (l : List W) : Prop := l.Pairwise fun a b => ¬ b < a
theorem nlt_trans {a b c : W} (h1 : ¬ b < a) (h2 : ¬ c < b) : ¬ c < a := by
  have h1' : a ≤ b := List.not_lt.mp h1
  have h2' : b ≤ c := List.not_lt.mp h2
  exact List.not_lt.mpr (List.le_trans h1' h2')
theorem nlt_anti {a b : W} (h1 : ¬ b < a) (h2 : ¬ a < b) : a = b := List.le_antisymm (List.not_lt.mp h1) (List.not_lt.mp h2)
theorem rises_uniq {ys zs : List W} (p : ys.Perm zs) (h1 : rises ys) (h2 : rises zs) : ys = zs :=
  List.Perm.eq_of_pairwise (le := fun a b => ¬ b < a) (fun _ _ _ _ a b => nlt_anti a b) h1 h2 p
open Classical in
noncomputable def srt (ms : List W) : List W := if h : ∃ ys : List W, ys.Perm ms ∧ rises ys then Classical.choose h else ms
theorem srt_eq {ys ms : List W} (p : ys.Perm ms) (h : rises ys) : srt ms = ys := by
  unfold srt
  have ex : ∃ ys : List W, ys.Perm ms ∧ rises ys := ⟨ys, p, h⟩
  rw [dif_pos ex]
  obtain ⟨q, r⟩ := Classical.choose_spec ex
  exact rises_uniq (q.trans p.symm) r h
theorem rises_of {zs : List PySem.Str} (h : PyProof.Rows.sortedS zs = true) : rises (zs.map TL.tl) := by
  have key : ∀ (l : List PySem.Str) (p : PySem.Str), PyProof.Rows.risingS p l = true → rises ((p :: l).map TL.tl) := by
    intro l
    induction l with
    | nil => intro p _; exact List.pairwise_singleton _ _
    | cons x r ih =>
      intro p h
      unfold PyProof.Rows.risingS at h
      rw [Bool.and_eq_true] at h
      obtain ⟨h1, h2⟩ := h
      rw [PyProof.Rows.ltCps_eq] at h1
      have h1' : ¬ TL.tl x < TL.tl p := by simpa using h1
      have ih' := ih x h2
      unfold rises at ih' ⊢
      rw [List.map_cons, List.pairwise_cons]
      refine ⟨fun y hy => ?_, ih'⟩
      rw [List.map_cons] at hy ih'
      rcases List.mem_cons.mp hy with rfl | hy
      · exact h1'
      · exact nlt_trans h1' ((List.pairwise_cons.mp ih').1 y hy)
  cases zs with
  | nil => exact List.Pairwise.nil
  | cons x r => exact key r x h
/-! ### trees whose marks are sorted -/
mutual
def Tr.fixed : Tr → Prop
  | .nd k ms ks => rises ms ∧ ks.fixed
def Trs.fixed : Trs → Prop
  | .nil => True
  | .cons t ts => t.fixed ∧ ts.fixed
end
mutual
theorem fix_tree : ∀ t : Tr, t.fixed → t.sortT srt = t
  | .nd k ms ks, h => by
    rw [Tr.fixed] at h
    rw [Tr.sortT, srt_eq (.refl _) h.1, fix_trees ks h.2]
theorem fix_trees : ∀ ts : Trs, ts.fixed → ts.sortT srt = ts
  | .nil, _ => by rw [Trs.sortT]
  | .cons t ts, h => by
    rw [Trs.fixed] at h
    rw [Trs.sortT, fix_tree t h.1, fix_trees ts h.2]
end
mutual
/-- the same tree, the marks of each node in another order -/
def Tr.mix : Tr → Tr → Prop
  | .nd k ms ks, .nd k' ms' ks' => k = k' ∧ ms.Perm ms' ∧ ks.mix ks'
def Trs.mix : Trs → Trs → Prop
  | .nil, .nil => True
  | .cons t ts, .cons t' ts' => t.mix t' ∧ ts.mix ts'
  | _, _ => False
end
mutual
theorem mix_rows : ∀ (t t' : Tr), t.mix t' → t.fixed → (∀ d, t'.rows srt d = t.rows srt d) ∧ True
  | .nd k ms ks, .nd k' ms' ks', h, f => by
    rw [Tr.mix] at h
    obtain ⟨rfl, p, h⟩ := h
    rw [Tr.fixed] at f
    refine ⟨fun d => ?_, trivial⟩
    have e : srt ms' = srt ms := by rw [srt_eq p f.1, srt_eq (.refl _) f.1]
    rw [Tr.rows, Tr.rows, e, (mixs_rows ks ks' h f.2).1 (d + 1)]
theorem mixs_rows : ∀ (t t' : Trs), t.mix t' → t.fixed → (∀ d, t'.rows srt d = t.rows srt d) ∧ True
  | .nil, .nil, _, _ => ⟨fun d => rfl, trivial⟩
  | .nil, .cons _ _, h, _ => by simp [Trs.mix] at h
  | .cons _ _, .nil, h, _ => by simp [Trs.mix] at h
  | .cons t ts, .cons t' ts', h, f => by
    rw [Trs.mix] at h
    rw [Trs.fixed] at f
    refine ⟨fun d => ?_, trivial⟩
    rw [Trs.rows, Trs.rows, (mix_rows t t' h.1 f.1).1 d, (mixs_rows ts ts' h.2 f.2).1 d]
end
mutual
theorem mix_good : ∀ (t t' : Tr), t.mix t' → t.good → t'.good
  | .nd k ms ks, .nd k' ms' ks', h, g => by
    rw [Tr.mix] at h
    obtain ⟨rfl, p, h⟩ := h
    rw [Tr.good] at g ⊢
    refine ⟨g.1, ?_, mixs_good ks ks' h g.2.2⟩
    obtain ⟨a, b⟩ := areNames_mem g.2.1
    unfold areNames
    rw [Bool.and_eq_true, decide_eq_true_eq, List.all_eq_true]
    exact ⟨fun w hw => a w (p.mem_iff.mpr hw), p.nodup b⟩
theorem mixs_good : ∀ (t t' : Trs), t.mix t' → t.good → t'.good
  | .nil, .nil, _, g => g
  | .nil, .cons _ _, h, _ => by simp [Trs.mix] at h
  | .cons _ _, .nil, h, _ => by simp [Trs.mix] at h
  | .cons t ts, .cons t' ts', h, g => by
    rw [Trs.mix] at h
    rw [Trs.good] at g ⊢
    exact ⟨mix_good t t' h.1 g.1, mixs_good ts ts' h.2 g.2⟩
end
/-! ### the rows of a node and all below it -/
def Tr.kind : Tr → W
  | .nd k _ _ => k
def Tr.marks : Tr → List W
  | .nd _ ms _ => ms
def Tr.kids : Tr → Trs
  | .nd _ _ ks => ks
def Trs.len : Trs → Nat
  | .nil => 0
  | .cons _ ts => ts.len + 1
def low (d : Nat) (rs : List Row) : Prop := ∀ r rest, rs = r :: rest → r.1 ≤ d
theorem low_nil (d : Nat) : low d [] := fun _ _ e => nomatch e
theorem rows_head (t : Tr) (d : Nat) : t.rows srt d = (d, t.kind, srt t.marks) :: t.kids.rows srt (d + 1) := by
  cases t
  rw [Tr.rows]
  rfl
theorem low_trees : ∀ (ts : Trs) (d : Nat), low d (ts.rows srt d)
  | .nil, d => by rw [Trs.rows]; exact low_nil d
  | .cons t ts, d => by
    rw [Trs.rows, rows_head]
    intro r rest e
    rw [List.cons_append] at e
    obtain ⟨rfl, _⟩ := List.cons.inj e
    exact Nat.le_refl _
theorem low_append {d e : Nat} {a b : List Row} (ha : low d a) (hb : low e b) (h : e ≤ d) : low d (a ++ b) := by
  intro r rest q
  cases a with
  | nil => exact Nat.le_trans (hb r rest q) h
  | cons x a =>
    rw [List.cons_append] at q
    obtain ⟨rfl, _⟩ := List.cons.inj q
    exact ha x a rfl
mutual
theorem nodes_len : ∀ (t : Tr) (p : Pth) (d : Nat), (t.nodes p).length = (t.rows srt d).length
  | .nd k ms ks, p, d => by
    rw [Tr.nodes, Tr.rows, List.length_cons, List.length_cons, nodess_len ks p 0 (d + 1)]
theorem nodess_len : ∀ (ts : Trs) (p : Pth) (i d : Nat), (ts.nodes p i).length = (ts.rows srt d).length
  | .nil, p, i, d => by rw [Trs.nodes, Trs.rows]; rfl
  | .cons t ts, p, i, d => by
    rw [Trs.nodes, Trs.rows, List.length_append, List.length_append, nodes_len t _ d, nodess_len ts p (i + 1) d]
end
mutual
theorem seg_tree : ∀ (t : Tr) (p : Pth) (i : Nat) (q : Pth) (s : Tr), (t.nodes p)[i]? = some (q, s) →
    p.length ≤ q.length ∧ ∃ post, (t.rows srt p.length).drop i = s.rows srt q.length ++ post ∧ low q.length post
  | .nd k ms ks, p, i, q, s, h => by
    rw [Tr.nodes] at h
    cases i with
    | zero =>
      obtain ⟨rfl, rfl⟩ := Prod.mk.inj (Option.some.inj h)
      exact ⟨Nat.le_refl _, [], by simp, low_nil _⟩
    | succ i =>
      rw [List.getElem?_cons_succ] at h
      obtain ⟨h1, post, h2, h3⟩ := seg_trees ks p 0 i q s h
      refine ⟨Nat.le_trans (Nat.le_succ _) h1, post, ?_, h3⟩
      rw [Tr.rows, List.drop_succ_cons, h2]
theorem seg_trees : ∀ (ts : Trs) (p : Pth) (j i : Nat) (q : Pth) (s : Tr), (ts.nodes p j)[i]? = some (q, s) →
    p.length + 1 ≤ q.length ∧ ∃ post, (ts.rows srt (p.length + 1)).drop i = s.rows srt q.length ++ post ∧ low q.length post
  | .nil, p, j, i, q, s, h => by
    rw [Trs.nodes] at h
    simp at h
  | .cons t ts, p, j, i, q, s, h => by
    rw [Trs.nodes] at h
    have l1 : (p ++ [j]).length = p.length + 1 := by simp
    by_cases c : i < (t.nodes (p ++ [j])).length
    · rw [List.getElem?_append_left c] at h
      obtain ⟨h1, post, h2, h3⟩ := seg_tree t (p ++ [j]) i q s h
      rw [l1] at h1 h2
      refine ⟨h1, post ++ ts.rows srt (p.length + 1), ?_, low_append h3 (low_trees ts _) h1⟩
      rw [Trs.rows, List.drop_append_of_le_length (by rw [← nodes_len t (p ++ [j])]; exact Nat.le_of_lt c), h2, List.append_assoc]
    · have c' : (t.nodes (p ++ [j])).length ≤ i := Nat.le_of_not_lt c
      rw [List.getElem?_append_right c'] at h
      obtain ⟨h1, post, h2, h3⟩ := seg_trees ts p (j + 1) _ q s h
      refine ⟨h1, post, ?_, h3⟩
      rw [Trs.rows, List.drop_append, List.drop_of_length_le (by rw [← nodes_len t (p ++ [j])]; exact c'), List.nil_append, ← nodes_len t (p ++ [j])]
      exact h2
end
mutual
theorem rows_deep : ∀ (t : Tr) (d : Nat), ∀ r ∈ t.rows srt d, d ≤ r.1
  | .nd k ms ks, d => by
    rw [Tr.rows]
    intro r hr
    rcases List.mem_cons.mp hr with rfl | hr
    · exact Nat.le_refl _
    · exact Nat.le_trans (Nat.le_succ d) (rowss_deep ks (d + 1) r hr)
theorem rowss_deep : ∀ (ts : Trs) (d : Nat), ∀ r ∈ ts.rows srt d, d ≤ r.1
  | .nil, d => by
    rw [Trs.rows]
    intro r hr
    exact absurd hr List.not_mem_nil
  | .cons t ts, d => by
    rw [Trs.rows]
    intro r hr
    rcases List.mem_append.mp hr with hr | hr
    · exact rows_deep t d r hr
    · exact rowss_deep ts d r hr
end
/-- as many rows just below as there are children -/
theorem kids_count : ∀ (ts : Trs) (d : Nat), ((ts.rows srt d).filter fun r => decide (r.1 = d)).length = ts.len
  | .nil, d => by rw [Trs.rows]; rfl
  | .cons t ts, d => by
    rw [Trs.rows, List.filter_append, List.length_append, kids_count ts d, rows_head, List.filter_cons, if_pos (decide_eq_true rfl)]
    have e : (t.kids.rows srt (d + 1)).filter (fun r => decide (r.1 = d)) = [] := by
      rw [List.filter_eq_nil_iff]
      intro r hr
      have := rowss_deep t.kids (d + 1) r hr
      simp
      omega
    rw [e, Trs.len]
    simp [Nat.add_comm]
mutual
/-- a part, moved -/
theorem move_tree : ∀ (t : Tr) (d e : Nat), t.rows srt (d + e) = (t.rows srt d).map fun r => (r.1 + e, r.2)
  | .nd k ms ks, d, e => by
    rw [Tr.rows, Tr.rows, List.map_cons, ← move_trees ks (d + 1) e, Nat.add_right_comm]
theorem move_trees : ∀ (ts : Trs) (d e : Nat), ts.rows srt (d + e) = (ts.rows srt d).map fun r => (r.1 + e, r.2)
  | .nil, d, e => by rw [Trs.rows, Trs.rows]; rfl
  | .cons t ts, d, e => by rw [Trs.rows, Trs.rows, List.map_append, move_tree t d e, move_trees ts d e]
end
end DM

/-! len(set(xs)) of a list of texts -/
namespace DR
open PySem PySem.Spec PyProof.Rows L2
/-- how many different ones stand among the first -/
def nn (xs : List Str) : Nat → Nat
  | 0 => 0
  | i + 1 => if (xs.take i).any (· == xs.getD i Str.empty) = true then nn xs i else nn xs i + 1
theorem nn_le (xs : List Str) : ∀ i, nn xs i ≤ i
  | 0 => Nat.le_refl _
  | i + 1 => by
    have := nn_le xs i
    unfold nn
    split <;> omega
theorem nn_full {xs : List Str} : ∀ {i}, i ≤ xs.length → (nn xs i = i ↔ (xs.take i).Nodup)
  | 0, _ => by simp [nn]
  | i + 1, h => by
    have ih := nn_full (xs := xs) (i := i) (by omega)
    have le := nn_le xs i
    have hx : xs[i]? = some (xs.getD i Str.empty) := by
      rw [List.getD_eq_getElem?_getD]
      have : i < xs.length := h
      simp [this]
    have ht : xs.take (i + 1) = xs.take i ++ [xs.getD i Str.empty] := by
      rw [List.take_succ, hx]
      rfl
    unfold nn
    rw [ht, List.nodup_append]
    by_cases c : (xs.take i).any (· == xs.getD i Str.empty) = true
    · rw [if_pos c]
      refine ⟨fun e => by omega, fun ⟨_, _, q⟩ => ?_⟩
      obtain ⟨x, hx1, hx2⟩ := List.any_eq_true.mp c
      exact absurd (by simpa using hx2) (q x hx1 _ (List.mem_singleton.mpr rfl))
    · rw [if_neg c]
      have c' : ∀ x ∈ xs.take i, ¬ x = xs.getD i Str.empty := fun x m e => c (List.any_eq_true.mpr ⟨x, m, by simpa using e⟩)
      constructor
      · intro e
        refine ⟨ih.mp (by omega), by simp, fun a ha b hb => ?_⟩
        rw [List.mem_singleton.mp hb]
        exact c' a ha
      · rintro ⟨q, _⟩
        rw [ih.mpr q]
section
variable {prog : Program} {w : World} {A : Around} {R : Result → Shared → Prop} {I : Addr} {fp wr : List Addr} {G : Array GenState → Array GenState → Prop} {n : Nat} {P : Nat → Value → Prop} {St : Nat → Shared → Prop}
/-- the set of the first i texts lies at S -/
def Upto (prog : Program) (w : World) (h : Heap) (S : Addr) (xs : List Str) (i : Nat) : Prop := h.SetOf (strKind prog w) S (fun k => (xs.take i).any (· == k)) (nn xs i)
theorem Upto.keep {h h2 : Heap} {S : Addr} {xs : List Str} {i : Nat} (u : Upto prog w h S xs i) (k : ∀ o, h.get? S = some o → h2.get? S = some o) : Upto prog w h2 S xs i :=
  let ⟨o, es, ep, t, ho, r⟩ := u
  ⟨o, es, ep, t, k o ho, r⟩
theorem Upto.next {h : Heap} {S : Addr} {xs : List Str} {i : Nat} (hi : i < xs.length)
    (u : h.SetOf (strKind prog w) S (fun k => (xs.take i).any (· == k) || decide (k = xs.getD i Str.empty)) (if (xs.take i).any (· == xs.getD i Str.empty) = true then nn xs i else nn xs i + 1)) : Upto prog w h S xs (i + 1) := by
  have hx : xs[i]? = some (xs.getD i Str.empty) := by
    rw [List.getD_eq_getElem?_getD]
    simp [hi]
  refine SetOf_congr u (fun k => ?_) rfl
  rw [List.take_succ, hx, List.any_append]
  show _ = ((xs.take i).any (· == k) || [xs.getD i Str.empty].any (· == k))
  have : decide (k = xs.getD i Str.empty) = [xs.getD i Str.empty].any (· == k) := by
    generalize xs.getD i Str.empty = y
    show decide (k = y) = ((y == k) || false)
    rw [Bool.or_false]
    by_cases e : k = y
    · rw [decide_eq_true e, e]
      exact (beq_self_eq_true y).symm
    · rw [decide_eq_false e]
      exact (beq_eq_false_iff_ne.mpr fun z => e z.symm).symm
  rw [this]
theorem fill_texts (W : WalksS prog w A.in1 I fp wr G n P St) (S : Addr) (out : S ∉ fp) (xs : List Str) (len : xs.length = n) (few : n + 1 < scanBound)
    (item : ∀ i v, P i v → ∃ t, v = .str (xs.getD i Str.empty) t) :
    ∀ (left i : Nat) (s : Shared), n - i = left → i ≤ n → St i s → Upto prog w s.heap S xs i →
      (∀ s2, Moved (S :: wr) G s s2 → Upto prog w s2.heap S xs n → R (.ok (.ret .none)) s2) → codeAny (model prog w) A (.builtin "set.update.loop" ⟨[.ref S, .ref I], []⟩) R s := by
  have outW : S ∉ wr := fun z => out (W.sub _ z)
  intro left
  induction left with
  | zero =>
    intro i s e le st u goal
    obtain rfl : i = n := by omega
    refine codeAny_builtin PyProof.Rows.F.entry_set_update_loop ?_
    rw [Around.under_plainId PyProof.Rows.F.plain_set_update_loop _]
    refine wpAny_bind (W.done s _ _ st fun s2 mv => ?_)
    exact wpAny_pure (goal s2 (mv.mono fun b hb => List.mem_cons_of_mem _ hb) (u.keep fun o q => mv.heap S _ outW q))
  | succ left again =>
    intro i s e le st u goal
    have lt : i < n := by omega
    refine codeAny_builtin PyProof.Rows.F.entry_set_update_loop ?_
    rw [Around.under_plainId PyProof.Rows.F.plain_set_update_loop _]
    refine wpAny_bind (W.item i s _ _ lt st fun v s2 pv st2 mv => ?_)
    obtain ⟨t, rfl⟩ := item i v pv
    have u2 : Upto prog w s2.heap S xs i := u.keep fun o q => mv.heap S _ outW q
    refine wpAny_bind (wpAny_holding ?_)
    unfold setAdd
    refine wpAny_holding (wpAny_bind ((strKind prog w).pyHash (k := xs.getD i Str.empty) (strKind_is _ _ _ _) ?_))
    have le2 := nn_le xs i
    refine wpAny_setAddHashed_of (knd := strKind prog w) (s := { s2 with toks := s2.toks + 1 }) (strKind_is _ _ _ _) rfl u2 (by omega) fun h3 sb u3 => ?_
    have u4 : Upto prog w h3 S xs (i + 1) := Upto.next (by omega) u3
    refine wpAny_pure ⟨plainId_quiet PyProof.Rows.F.plain_set_update_loop _, again (i + 1) _ (by omega) lt (W.frame _ s2 _ _ st2 (Nat.le_succ _) fun b hb o q => ?_) u4 fun s5 mv5 u5 => goal s5 ?_ u5⟩
    · rw [sb.2 b fun z => out (z ▸ hb)]
      exact q
    · refine Moved.trans W.gtrans ((mv.mono fun b hb => List.mem_cons_of_mem _ hb).then_heap (Nat.le_succ _) fun b o hb q => ?_) mv5
      rw [sb.2 b fun z => hb (z ▸ List.mem_cons_self)]
      exact q
end
/-- the set object as it is made -/
abbrev bare (led : Bool) : Obj := { cls := .type "set", dict := none, data := .set #[] 0 (.fresh 0 0 led) }
section
variable {prog : Program} {w : World} {A : Around} {E : Value → Shared → Prop} {s : Shared}
set_option maxHeartbeats 6400000 in
/-- set(xs), xs a list of texts -/
theorem set_of_texts {l : Addr} {items : Array Value} {xs : List Str} {Q : Value → Shared → Prop} (quiet : A.handled = none) (at_l : s.heap.IsList l items) (texts : StrsAre items.toList xs) (few : xs.length + 1 < scanBound)
    (goal : ∀ (h2 : Heap) (tk : Nat), Upto prog w h2 s.heap.objs.size xs xs.length → (∀ b o, s.heap.get? b = some o → h2.get? b = some o) → Q (.ref s.heap.objs.size) { s with heap := h2, toks := tk }) :
    wpAny (model prog w) A (call (.type "set") [.ref l]) Q E s := by
  have len : xs.length = items.size := by rw [← StrsAre.len_eq texts, Array.length_toList]
  obtain ⟨_, _, mro⟩ := PySem.F.called_set.mro
  have made := PySem.F.called_set.made
  have subs := PySem.F.called_set.sub
  have nott := PySem.F.called_set.notType
  have cancr := PySem.F.called_set.canCreate
  have tcall := PySem.F.typeCall_set_1 (.ref l)
  refine wpAny_call (codeAny_of_tree (wpAny_pure ⟨Code.quiet_builtin _ (by decide +kernel), codeAny_builtin PySem.F.entry_type_call ?_⟩))
  rw [Around.under_plain (weight_type_call_type "set" [.ref l] []) rfl]
  repeat (any_goals (first | assumption | wp_step))
  refine codeAny_mono (code_set_new_1 (.ref l) (E := E) (Q₁ := fun ob s1 => ∃ led : Bool, ob = .ref s.heap.objs.size ∧ s1 = { s with heap := s.heap.push (bare led) }) fun led => ⟨led, rfl, rfl⟩) fun r s1 hr => ?_
  match r, hr with
  | .error _, hr => exact hr
  | .ok .next, hr => exact hr.elim
  | .ok .brk, hr => exact hr.elim
  | .ok .cont, hr => exact hr.elim
  | .ok (.ret ob), ⟨led, e1, e2⟩ =>
    subst e1 e2
    have at_S : (s.heap.push (bare led)).get? s.heap.objs.size = some (bare led) := Heap.get?_push_size _ rfl
    have isS : Shared.TypeIs { s with heap := s.heap.push (bare led) } (.ref s.heap.objs.size) "set" := ⟨_, at_S, rfl⟩
    have look := PySem.F.called_set.init.lookup
    have bind := PySem.F.called_set.init.bind (.ref s.heap.objs.size)
    repeat (any_goals (first | assumption | wp_step))
    refine codeAny_mono (codeAny_call_builtin (R := wants (fun r s2 => r = .none ∧ ∃ h2 tk, s2 = { s with heap := h2, toks := tk } ∧ Upto prog w h2 s.heap.objs.size xs xs.length ∧ (∀ b o, s.heap.get? b = some o → h2.get? b = some o)) E)
      PySem.F.called_set.init.plain PySem.F.entry_set_init (check_set_init_1 isS ?_)) fun r2 s2 hr2 => ?_
    · obtain ⟨⟨oc, od, dat, osl⟩, hol, hc, nl, hd⟩ := at_l
      simp only at hc hd
      subst hc hd
      have old : l < s.heap.objs.size := Heap.lt_size hol
      have at_l2 : (s.heap.push (bare led)).get? l = some { cls := .type "list", dict := od, data := .seq items nl, slots := osl } := Heap.get?_push_of_some _ hol
      have s1 := PySem.F.sub_list_set
      have s2 := PySem.F.sub_list_frozenset
      have s3 : (Value.type "list" == Value.type "dict") = false := by decide
      have isl : (s.heap.push (bare led)).IsList l items := ⟨_, at_l2, rfl, nl, rfl⟩
      unfold Builtin.«set.__init__» noKeywords Builtin.Frozenset.updateFrom
      generalize hPI : pyIter = PI
      wp_walk
      subst hPI
      refine wpAny_pyIter_list isl (wpAny_bind (wpAny_runValue ?_))
      have calm3 : A.in1.in1.in1.handled = none := by simp [quiet]
      have sz : (s.heap.push (bare led)).objs.size = s.heap.objs.size + 1 := Heap.size_push ..
      have ne1 : l ≠ (s.heap.push (bare led)).objs.size := by
        rw [sz]
        exact Nat.ne_of_lt (Nat.lt_succ_of_lt old)
      refine fill_texts ((Walks.list calm3 _ l ne1 items).toS) s.heap.objs.size (fun z => ?_) xs len (len ▸ few)
        (fun i v hv => SS.strs_at texts i v (by rw [Array.getElem?_toList]; exact hv)) (items.size - 0) 0 _ (by omega) (Nat.zero_le _) ⟨⟨_, Heap.get?_push_size _ rfl, rfl, rfl⟩, (isl.push _)⟩ ?start ?stop
      · rw [sz] at z
        rcases List.mem_cons.mp z with e | z
        · exact absurd e (Nat.ne_of_lt (Nat.lt_succ_self _))
        · exact absurd (List.mem_singleton.mp z) (Nat.ne_of_gt old)
      case start =>
        exact SetOf_congr ((setObjOf_fresh (knd := strKind prog w) led).setOf (Heap.get?_push_of_some _ at_S) (by unfold scanBound; omega)) (fun _ => rfl) rfl
      case stop =>
        rintro ⟨h2, g2, d2, tk2, os2⟩ mv u
        obtain rfl : g2 = s.gens := mv.gens
        obtain rfl : d2 = s.drawn := mv.drawn
        obtain rfl : os2 = s.os := mv.os
        refine wpAny_pure (wpAny_pure ⟨rfl, h2, tk2, rfl, len ▸ u, fun b o e => ?_⟩)
        have lt := Heap.lt_size e
        refine mv.heap b o (fun z => ?_) (Heap.get?_push_of_some _ (Heap.get?_push_of_some _ e))
        rcases List.mem_cons.mp z with e2 | z
        · exact absurd e2 (Nat.ne_of_lt lt)
        · have z := List.mem_singleton.mp z
          rw [sz] at z
          exact absurd z (Nat.ne_of_lt (Nat.lt_succ_of_lt lt))
    · match r2, hr2 with
      | .error _, hr2 => exact hr2
      | .ok .next, hr2 => exact hr2.elim
      | .ok .brk, hr2 => exact hr2.elim
      | .ok .cont, hr2 => exact hr2.elim
      | .ok (.ret _), ⟨e, h2, tk, e2, u, k⟩ =>
        subst e e2
        repeat (any_goals (first | assumption | wp_step))
        exact goal _ _ u k
end
/-- len(set(xs)) -/
def tLenSetT (K : PySem.W.Frag) (ta : TE) : TE := fun σ H Q => ta σ H fun x H1 => ∃ (l : Addr) (xs : List Str), x = .ref l ∧ SqL K H1 l (xs.map V.str) ∧ xs.length + 1 < scanBound ∧ ∀ c : Nat, (c = xs.length ↔ xs.Nodup) → Q (.int c) H1
section
variable {X : Cx}
theorem pe_lenSetT {a : Expr} {ta : TE} {p p2 q pos : Pos} (calm : X.calm = true) (g1 : Gl X "len") (m1 : X.mg "len" = none) (g2 : Gl X "set") (m2 : X.mg "set" = none) (ha : PE X a ta)
    (na : starEach [a] X.env = (false, eval a X.env) :: starEach [] X.env := by rfl) : PE X (.Call (.Name "len" p) [.Call (.Name "set" p2) [a] [] q] [] pos) (tLenSetT X.K ta) := by
  refine ⟨fun pins s σ H Q I h => Call_ (ld_blt I g1 m1 PySem.boot_len (callWith_builtin1 (args_cons (Call_ (ld_blt I g2 m2 boot_set
    (callWith_type1 (args_cons (thn (ha.run pins s σ H _ I h) fun v s1 ⟨x, H1, I1, r1, q1⟩ => args_nil ?_) na) na rfl))) rfl) rfl rfl))⟩
  obtain ⟨l, xs, rfl, hq, few, goal⟩ := q1
  cases r1
  obtain ⟨its, rv, pl, _⟩ := I1.list hq
  refine set_of_texts (I1.ok.hd calm) pl.isList (by simpa using strsAre_of rv) few fun h2 tk ⟨o, es, ep, t, ho, ex, hd, _, _, _, hf, hn⟩ k => args_nil ?_
  have le := nn_le xs xs.length
  have I2 : Inv X pins σ H1 { s1 with heap := h2, toks := tk } := I1.kept fun b o e => k b o e
  refine call_len_set ho ex hd hf (by rw [hn]; unfold scanBound at few; omega) ⟨.int (nn xs xs.length), H1, I2.tok _, ⟨_, by rw [hn]⟩, goal _ ?_⟩
  have := nn_full (xs := xs) (Nat.le_refl _)
  rwa [List.take_length] at this
end
end DR

/-! len(set(xs)) of a tuple of texts -/
namespace DR
open PySem PySem.Spec PyProof.Rows L2
section
variable {prog : Program} {w : World} {A : Around} {E : Value → Shared → Prop} {s : Shared}
set_option maxHeartbeats 6400000 in
/-- set(xs), xs a tuple of texts -/
theorem set_of_tuple {l : Addr} {items : Array Value} {xs : List Str} {Q : Value → Shared → Prop} (quiet : A.handled = none) (at_l : s.heap.IsTuple l items) (texts : StrsAre items.toList xs) (few : xs.length + 1 < scanBound)
    (goal : ∀ (h2 : Heap) (tk : Nat), Upto prog w h2 s.heap.objs.size xs xs.length → (∀ b o, s.heap.get? b = some o → h2.get? b = some o) → Q (.ref s.heap.objs.size) { s with heap := h2, toks := tk }) :
    wpAny (model prog w) A (call (.type "set") [.ref l]) Q E s := by
  have len : xs.length = items.size := by rw [← StrsAre.len_eq texts, Array.length_toList]
  obtain ⟨_, _, mro⟩ := PySem.F.called_set.mro
  have made := PySem.F.called_set.made
  have subs := PySem.F.called_set.sub
  have nott := PySem.F.called_set.notType
  have cancr := PySem.F.called_set.canCreate
  have tcall := PySem.F.typeCall_set_1 (.ref l)
  refine wpAny_call (codeAny_of_tree (wpAny_pure ⟨Code.quiet_builtin _ (by decide +kernel), codeAny_builtin PySem.F.entry_type_call ?_⟩))
  rw [Around.under_plain (weight_type_call_type "set" [.ref l] []) rfl]
  repeat (any_goals (first | assumption | wp_step))
  refine codeAny_mono (code_set_new_1 (.ref l) (E := E) (Q₁ := fun ob s1 => ∃ led : Bool, ob = .ref s.heap.objs.size ∧ s1 = { s with heap := s.heap.push (bare led) }) fun led => ⟨led, rfl, rfl⟩) fun r s1 hr => ?_
  match r, hr with
  | .error _, hr => exact hr
  | .ok .next, hr => exact hr.elim
  | .ok .brk, hr => exact hr.elim
  | .ok .cont, hr => exact hr.elim
  | .ok (.ret ob), ⟨led, e1, e2⟩ =>
    subst e1 e2
    have at_S : (s.heap.push (bare led)).get? s.heap.objs.size = some (bare led) := Heap.get?_push_size _ rfl
    have isS : Shared.TypeIs { s with heap := s.heap.push (bare led) } (.ref s.heap.objs.size) "set" := ⟨_, at_S, rfl⟩
    have look := PySem.F.called_set.init.lookup
    have bind := PySem.F.called_set.init.bind (.ref s.heap.objs.size)
    repeat (any_goals (first | assumption | wp_step))
    refine codeAny_mono (codeAny_call_builtin (R := wants (fun r s2 => r = .none ∧ ∃ h2 tk, s2 = { s with heap := h2, toks := tk } ∧ Upto prog w h2 s.heap.objs.size xs xs.length ∧ (∀ b o, s.heap.get? b = some o → h2.get? b = some o)) E)
      PySem.F.called_set.init.plain PySem.F.entry_set_init (check_set_init_1 isS ?_)) fun r2 s2 hr2 => ?_
    · obtain ⟨⟨oc, od, dat, osl⟩, hol, hc, nl, hd⟩ := at_l
      simp only at hc hd
      subst hc hd
      have old : l < s.heap.objs.size := Heap.lt_size hol
      have at_l2 : (s.heap.push (bare led)).get? l = some { cls := .type "tuple", dict := od, data := .seq items nl, slots := osl } := Heap.get?_push_of_some _ hol
      have s1 := PySem.F.sub_tuple_set
      have s2 := PySem.F.sub_tuple_frozenset
      have s3 : (Value.type "tuple" == Value.type "dict") = false := by decide
      have isl : (s.heap.push (bare led)).IsTuple l items := ⟨_, at_l2, rfl, nl, rfl⟩
      unfold Builtin.«set.__init__» noKeywords Builtin.Frozenset.updateFrom
      generalize hPI : pyIter = PI
      wp_walk
      subst hPI
      refine wpAny_pyIter_tuple isl (wpAny_bind (wpAny_runValue ?_))
      have calm3 : A.in1.in1.in1.handled = none := by simp [quiet]
      have sz : (s.heap.push (bare led)).objs.size = s.heap.objs.size + 1 := Heap.size_push ..
      have ne1 : l ≠ (s.heap.push (bare led)).objs.size := by
        rw [sz]
        exact Nat.ne_of_lt (Nat.lt_succ_of_lt old)
      refine fill_texts ((Walks.tuple calm3 _ l ne1 items).toS) s.heap.objs.size (fun z => ?_) xs len (len ▸ few)
        (fun i v hv => SS.strs_at texts i v (by rw [Array.getElem?_toList]; exact hv)) (items.size - 0) 0 _ (by omega) (Nat.zero_le _) ⟨⟨_, Heap.get?_push_size _ rfl, rfl, rfl⟩, (isl.push _)⟩ ?start ?stop
      · rw [sz] at z
        rcases List.mem_cons.mp z with e | z
        · exact absurd e (Nat.ne_of_lt (Nat.lt_succ_self _))
        · exact absurd (List.mem_singleton.mp z) (Nat.ne_of_gt old)
      case start =>
        exact SetOf_congr ((setObjOf_fresh (knd := strKind prog w) led).setOf (Heap.get?_push_of_some _ at_S) (by unfold scanBound; omega)) (fun _ => rfl) rfl
      case stop =>
        rintro ⟨h2, g2, d2, tk2, os2⟩ mv u
        obtain rfl : g2 = s.gens := mv.gens
        obtain rfl : d2 = s.drawn := mv.drawn
        obtain rfl : os2 = s.os := mv.os
        refine wpAny_pure (wpAny_pure ⟨rfl, h2, tk2, rfl, len ▸ u, fun b o e => ?_⟩)
        have lt := Heap.lt_size e
        refine mv.heap b o (fun z => ?_) (Heap.get?_push_of_some _ (Heap.get?_push_of_some _ e))
        rcases List.mem_cons.mp z with e2 | z
        · exact absurd e2 (Nat.ne_of_lt lt)
        · have z := List.mem_singleton.mp z
          rw [sz] at z
          exact absurd z (Nat.ne_of_lt (Nat.lt_succ_of_lt lt))
    · match r2, hr2 with
      | .error _, hr2 => exact hr2
      | .ok .next, hr2 => exact hr2.elim
      | .ok .brk, hr2 => exact hr2.elim
      | .ok .cont, hr2 => exact hr2.elim
      | .ok (.ret _), ⟨e, h2, tk, e2, u, k⟩ =>
        subst e e2
        repeat (any_goals (first | assumption | wp_step))
        exact goal _ _ u k
end
/-- len(set(xs)) -/
def tLenSetU (K : PySem.W.Frag) (ta : TE) : TE := fun σ H Q => ta σ H fun x H1 => ∃ (l : Addr) (xs : List Str), x = .ref l ∧ SqT K H1 l (xs.map V.str) ∧ xs.length + 1 < scanBound ∧ ∀ c : Nat, (c = xs.length ↔ xs.Nodup) → Q (.int c) H1
section
variable {X : Cx}
theorem pe_lenSetU {a : Expr} {ta : TE} {p p2 q pos : Pos} (calm : X.calm = true) (g1 : Gl X "len") (m1 : X.mg "len" = none) (g2 : Gl X "set") (m2 : X.mg "set" = none) (ha : PE X a ta)
    (na : starEach [a] X.env = (false, eval a X.env) :: starEach [] X.env := by rfl) : PE X (.Call (.Name "len" p) [.Call (.Name "set" p2) [a] [] q] [] pos) (tLenSetU X.K ta) := by
  refine ⟨fun pins s σ H Q I h => Call_ (ld_blt I g1 m1 PySem.boot_len (callWith_builtin1 (args_cons (Call_ (ld_blt I g2 m2 boot_set
    (callWith_type1 (args_cons (thn (ha.run pins s σ H _ I h) fun v s1 ⟨x, H1, I1, r1, q1⟩ => args_nil ?_) na) na rfl))) rfl) rfl rfl))⟩
  obtain ⟨l, xs, rfl, hq, few, goal⟩ := q1
  cases r1
  obtain ⟨its, rv, pl, _⟩ := I1.tuple hq
  refine set_of_tuple (I1.ok.hd calm) pl (by simpa using strsAre_of rv) few fun h2 tk ⟨o, es, ep, t, ho, ex, hd, _, _, _, hf, hn⟩ k => args_nil ?_
  have le := nn_le xs xs.length
  have I2 : Inv X pins σ H1 { s1 with heap := h2, toks := tk } := I1.kept fun b o e => k b o e
  refine call_len_set ho ex hd hf (by rw [hn]; unfold scanBound at few; omega) ⟨.int (nn xs xs.length), H1, I2.tok _, ⟨_, by rw [hn]⟩, goal _ ?_⟩
  have := nn_full (xs := xs) (Nat.le_refl _)
  rwa [List.take_length] at this
end
end DR

/-! sorted(xs), xs a tuple of texts -/
namespace DR
open PySem PySem.Spec PyProof.Rows L2
section
variable {prog : Program} {w : World} {A : Around} {E : Value → Shared → Prop} {s : Shared}
theorem tup_sorted {l : Addr} {ob : Obj} {its : Array Value} {k : Nat} {xs : List Str} {Q : Value → Shared → Prop} (at_l : s.heap.get? l = some ob) (cl : ob.cls = .type "tuple") (da : ob.data = .seq its k)
    (texts : StrsAre its.toList xs) (few : its.toList.length < 64)
    (goal : ∀ (h1 h2 : Heap) (out : Array Value) (ys : List Str) (e : Nat), (∀ b o, s.heap.get? b = some o → h1.get? b = some o) → (∀ b o, h1.get? b = some o → h2.get? b = some o) → h2.get? h1.objs.size = some (seqObj "list" out e) →
      StrsAre out.toList ys → ys.Perm xs → sortedS ys = true → Q (.ref h1.objs.size) { s with heap := h2 }) :
    wpAny (model prog w) A (call (.builtin "sorted") [.ref l]) Q E s := by
  refine PySem.Calls.call_function_entry kind_sorted plain_sorted entry_sorted (args_sorted1 _) ?_
  unfold Builtin.«sorted»
  refine wpAny_bind (m := checkCount "sorted" 1 1 _) (wpAny_pure ?_)
  refine wpAny_bind (PySem.wpAny_collect_seq l (.inr rfl) at_l cl da (fun h1 keep => ?_) (by rw [← Array.length_toList]; exact small64 few))
  refine wpAny_bind (wpAny_newList ?_ )
  have new : (h1.push (seqObj "list" its.toList.toArray 0)).get? h1.objs.size = some (seqObj "list" its.toList.toArray 0) := Heap.get?_push_size _ rfl
  refine wpAny_bind (wpAny_holding (wpAny_call_entry slot_list_sort ⟨_, new, rfl⟩ entry_list_sort (list_sort_treeK strKind_oneLt new texts.keysOf (fun v₁ v₂ rest e => keyKind_strs (by rw [← e]; exact texts)) few fun st hp hs => ⟨_, rfl, ?_⟩) (args_list_sort _)))
  refine wpAny_pure ⟨_, rfl, ?_⟩
  obtain ⟨ys, t1, t2, t3⟩ := sorted_out_str texts hp hs
  obtain ⟨e, he⟩ := sortedHeap_at (vs := its.toList) (out := (arrOf st).map (·.2)) new
  refine goal h1 _ _ ys e keep (fun b o q => ?_) he t1 t2 t3
  have lt : b < h1.objs.size := Heap.lt_size q
  rw [sortedHeap_old (Nat.ne_of_lt lt) (by rw [size_push']; exact Nat.lt_succ_of_lt lt)]
  exact Heap.get?_push_of_some _ q
end
/-- sorted(xs), xs a tuple of texts, or a list -/
def rSortedU (K : PySem.W.Frag) : List V → Hp → VK → Prop := fun vs H Q => ∃ (a : Addr) (xs : List Str), vs = [V.ref a] ∧ (H a = some (.tup (xs.map V.str)) ∨ H a = some (.lst (xs.map V.str))) ∧ xs.length < 64 ∧
  ∀ (ys : List Str) (p : Addr), ys.Perm xs → sortedS ys = true → H p = none → Q (.ref p) (upd H p (.lst (ys.map V.str)))
theorem cr_sortedU {X : Cx} : CallR X (.builtin "sorted") (rSortedU X.K) := by
  intro pins s σ H vs us Q I r h
  obtain ⟨a, xs, rfl, hs | hs, h64, q⟩ := h
  · rw [Vals.ref1 r]
    obtain ⟨_, its, rv, ob, e, c⟩ := (show ObjOk X.prog X.w H s.heap a (.tup (xs.map V.str)) from I.hok a _ hs)
    have texts : StrsAre its xs := rv.strs
    obtain ⟨cl, k, da⟩ : ob.cls = .type "tuple" ∧ ∃ k, ob.data = .seq its.toArray k := by
      exact c
    refine tup_sorted (its := its.toArray) e cl da (by simpa using texts) (by have := rv.length; rw [List.length_map] at this; simpa [← this] using h64) fun h1 h2 out ys ep keep keep2 he t1 t2 t3 => ?_
    have free : s.heap.get? h1.objs.size = none := by
      cases z : s.heap.get? h1.objs.size with
      | none => rfl
      | some o => exact absurd (Heap.lt_size (keep _ _ z)) (Nat.lt_irrefl _)
    have hn : H h1.objs.size = none := by
      cases z : H h1.objs.size with
      | none => rfl
      | some o =>
        obtain ⟨u, hu⟩ := objOk_get (I.hok _ _ z)
        rw [free] at hu
        cases hu
    have hlen : (ys.map V.str).length ≤ sizeLine := by rw [List.length_map, t2.length_eq]; exact small64 h64
    exact ⟨.ref _, upd H h1.objs.size (.lst (ys.map V.str)), I.laidN (t' := s.toks) (fun b u z => keep2 _ _ (keep _ _ z)) free hn ⟨hlen, out.toList, ep, vals_of_strs t1, he⟩, rfl, q ys _ t2 t3 hn⟩
  · exact cr_sortedS pins s σ H _ us Q I r ⟨a, xs, rfl, SqL.of hs, h64, q⟩
end DR

/-! enumerate(t), t a tuple -/
namespace DR
open PySem PySem.Spec PyProof.Rows L2
abbrev itT (t : Addr) : Obj := { cls := .type "tuple_iterator", data := .fields #[.ref t, .int 0 0] }
abbrev enT (it : Addr) : Obj := { cls := .type "enumerate", data := .fields #[.none, .bool false, .ref it, rawInt 0, .none, .none] }
theorem meets_enum_tup (t : Addr) (xs : Array Value) (n : Nat) (dd : Option Addr) (sl : Array (Option Value)) :
    Meets (Builtin.«enumerate.__new__» ⟨[.type "enumerate", .ref t], []⟩) (fun _ R s => s.heap.get? t = some { cls := .type "tuple", dict := dd, data := .seq xs n, slots := sl } ∧
      R (.ok (.ret (.ref (s.heap.push (itT t)).objs.size))) { s with heap := (s.heap.push (itT t)).push (enT s.heap.objs.size) }) :=
  .of_wp fun prog w A R s h => by
    obtain ⟨hp, g, d, tk, os⟩ := s
    obtain ⟨at_t, h⟩ := h
    have sb := sub_enumerate
    have isT : Heap.IsTuple (Shared.heap ⟨hp, g, d, tk, os⟩) t xs := ⟨_, at_t, rfl, n, rfl⟩
    wp_walk using AutoSeq1.wpAny_loadPart' at_t
    refine wpAny_stack_any fun st => wpAny_pure ?_
    split
    · rename_i c _ _ _ _ _
      cases (c == Value.type "enumerate") <;>
      · wp_walk using AutoSeq1.wpAny_loadPart' at_t, wpAny_pyIter_tuple isT
        exact ⟨_, rfl, h⟩
    · wp_walk using AutoSeq1.wpAny_loadPart' at_t, wpAny_pyIter_tuple isT
      exact ⟨_, rfl, h⟩
section
variable {prog : Program} {w : World} {A : Around} {E : Value → Shared → Prop} {s : Shared}
theorem call_enum_tup {t : Addr} {xs : Array Value} {Q : Value → Shared → Prop} (isT : s.heap.IsTuple t xs)
    (h : ∀ h2, IsEnum h2 (s.heap.objs.size + 1) s.heap.objs.size 0 .none → h2.IsTupleIter s.heap.objs.size t 0 → (∀ b o, s.heap.get? b = some o → h2.get? b = some o) → Q (.ref (s.heap.objs.size + 1)) { s with heap := h2 }) :
    wpAny (model prog w) A (call (.type "enumerate") [.ref t]) Q E s := by
  obtain ⟨⟨c, dd, dt, sl⟩, ht, hc, n, hd⟩ := isT
  have hc : c = .type "tuple" := hc
  have hd : dt = .seq xs n := hd
  subst hc hd
  refine callType_new F.called_enumerate (by decide) (F.typeCall_enumerate_1 _) (F.newCall_enumerate_1 _) (fun ob => F.args_object_init_2 ob _) F.entry_enumerate_new (meets_enum_tup t xs n dd sl) ⟨ht, ?_⟩
  have sz : (s.heap.push (itT t)).objs.size = s.heap.objs.size + 1 := Heap.size_push ..
  show _ ∧ _
  rw [sz]
  have en : IsEnum ((s.heap.push (itT t)).push (enT s.heap.objs.size)) (s.heap.objs.size + 1) s.heap.objs.size 0 .none := by
    have q := Heap.get?_push_size (s.heap.push (itT t)) (o := enT s.heap.objs.size) rfl
    rw [sz] at q
    exact q
  exact ⟨⟨_, en, rfl⟩, h _ en ⟨_, Heap.get?_push_of_some _ (Heap.get?_push_size _ rfl), rfl, rfl⟩ fun b o q => Heap.get?_push_of_some _ (Heap.get?_push_of_some _ q)⟩
end
theorem apart {h : Heap} {e it a : Addr} {i : Int} {old : Value} {xs : Array Value} (he : IsEnum h e it i old) (t : h.IsTuple a xs) : e ≠ a := fun z => by
  obtain ⟨o, h1, h2, _⟩ := t
  rw [← z, show h.get? e = some _ from he] at h1
  cases h1
  exact absurd (show Value.type "enumerate" = Value.type "tuple" from h2) (by decide)
/-- the tuple at a at each turn, each item in a new pair -/
def Etp (K : PySem.W.Frag) (a : Addr) : It :=
  ⟨fun i H => ∃ (xs : List V) (x : V), SqT K H a xs ∧ xs[i]? = some x, fun i H v H' => ∃ T x, v = .ref T ∧ H T = none ∧ H' = upd H T (.tup [.int (i : Nat), x]) ∧ ∀ xs, SqT K H a xs → xs[i]? = some x, fun i H => ∃ xs : List V, SqT K H a xs ∧ xs.length = i⟩
theorem turn_etp {P : Program} {w : World} {K : PySem.W.Frag} {elts : List Expr} {kk : Nat} {tpos : Pos} (a e it : Addr) (na : a ≠ it) :
    Turn P w K (.Tuple elts kk tpos) (Etp K a) [e, it] e (fun i h => (∃ old, IsEnum h e it ((i : Nat) : Int) old) ∧ h.IsTupleIter it a i ∧ e ≠ it) where
  mem := by simp
  obj := fun i h st b hb => by
    obtain ⟨⟨old, he⟩, ⟨o, ho, hc, hd⟩, _⟩ := st
    rcases List.mem_cons.mp hb with z | hb
    · rw [z]
      exact ⟨_, he, fun v q => nomatch q⟩
    · rw [List.mem_singleton.mp hb]
      exact ⟨o, ho, fun v q => by rw [hd] at q; cases q⟩
  keep := fun i h h' st k => by
    obtain ⟨⟨old, he⟩, ⟨o, ho, r⟩, ne⟩ := st
    exact ⟨⟨old, k e (by simp) _ he⟩, ⟨o, k it (by simp) _ ho, r⟩, ne⟩
  item := by
    intro X hP hw hK hc i pins s σ H E I hf st hg
    subst hP hw hK
    obtain ⟨⟨old, he⟩, hit, ne⟩ := st
    obtain ⟨xs, x, hq, hx⟩ := hg
    obtain ⟨its, rv, isT, hz⟩ := I.tuple hq
    obtain ⟨u, hu, ru⟩ := rv.get hx
    have le : e < s.heap.objs.size := Heap.lt_size he
    have li : it < s.heap.objs.size := by
      obtain ⟨_, q, _⟩ := hit
      exact Heap.lt_size q
    have calm1 : X.A.in1.handled = none := by simp [I.ok.hd hc]
    have ea : e ≠ a := apart he isT
    have bound : i < its.toArray.size := by
      have := (List.getElem?_eq_some_iff.mp hu).1
      simpa using this
    refine wpAny_pyNext_enum_itemD (Draws.tuple calm1 it a na its.toArray) he ⟨hit, isT⟩ bound ne (by simp [ne, ea]) fun u2 h2 tk hu2 out2 st2 new2 size2 keep2 => ?_
    obtain rfl : u2 = u := by
      have q : its.toArray[i]? = some u := by simpa using hu
      exact Option.some.inj (hu2.symm.trans q)
    refine ⟨_, rfl, wpAny_letOwnedTupleGo_enum (s := { s with heap := h2, toks := tk + 1 }) out2 fun h3 he3 sb => ?_⟩
    have new3 : h3.get? s.heap.objs.size = some { cls := .type "tuple", data := .seq #[.int i tk, u2] } := (sb.2 _ (Nat.ne_of_gt le)).trans new2
    have laid : ObjOk X.prog X.w (upd H s.heap.objs.size (.tup [.int (i : Nat), x])) h3 s.heap.objs.size (.tup [.int (i : Nat), x]) :=
      ⟨by show 2 ≤ sizeLine; decide, [.int i tk, u2], .cons ⟨_, rfl⟩ (.cons ru .nil), ⟨_, new3, rfl, _, rfl⟩⟩
    have I2 : Inv X pins σ (upd H s.heap.objs.size (.tup [.int (i : Nat), x])) { s with heap := h3, toks := tk + 1 } :=
      I.turnedNew (ch := [e, it]) (fun b ob out q => (sb.2 b fun z => out (by simp [z])).trans (keep2 b ob (fun z => out (by simp [z])) (fun z => out (by simp [z])) q)) hf (Nat.le_refl _) laid
    refine ⟨.ref s.heap.objs.size, _, I2, rfl, ⟨_, x, rfl, I.hok.fresh (Nat.le_refl _), rfl, fun ys hy => ?_⟩, ⟨⟨u2, ?_⟩, ?_, ne⟩, fun b hb => ?_⟩
    · rw [I.tuple_inj hy hq]
      exact hx
    · rw [show ((i + 1 : Nat) : Int) = (i : Int) + 1 by omega]
      exact he3
    · obtain ⟨o, ho, r⟩ := st2.1
      exact ⟨o, (sb.2 it (Ne.symm ne)).trans ho, r⟩
    · have lb : b < s.heap.objs.size := by
        rcases List.mem_cons.mp hb with z | z
        · rw [z]
          exact le
        · rw [List.mem_singleton.mp z]
          exact li
      rw [upd_ne (Nat.ne_of_lt lb)]
      exact (hf b hb).1
  done := by
    intro X hP hw hK hc i pins s σ H E I hf st hg
    subst hP hw hK
    obtain ⟨⟨old, he⟩, hit, ne⟩ := st
    obtain ⟨xs, hq, hx⟩ := hg
    obtain ⟨its, rv, isT, hz⟩ := I.tuple hq
    have calm1 : X.A.in1.handled = none := by simp [I.ok.hd hc]
    obtain ⟨f0, f1, f2, f3, f4, f5⟩ := hf it (by simp)
    have len : its.toArray.size = i := by
      rw [List.size_toArray, ← rv.length]
      exact hx
    subst len
    exact wpAny_pyNext_enum_endD (Draws.tuple calm1 it a na its.toArray) he ⟨hit, isT⟩ fun h2 eb => ⟨rfl, I.turned (t' := s.toks) (fun b o out q => eb b o out q) f0 f1 f3 f4 f5⟩
  self := fun A i s Q E st h => let ⟨⟨_, he⟩, _⟩ := st; wpAny_pyIter_enum he h
def iEnumT (K : PySem.W.Frag) (ta : TA) : TI := fun σ H R => ta σ H fun vs H1 => ∃ a xs, vs = [.ref a] ∧ SqT K H1 a xs ∧ R (Etp K a) H1
theorem pi_enumT {X : Cx} {e : Expr} {ta : TA} {p pos tpos : Pos} {elts : List Expr} {kk : Nat} (hg : Gl X "enumerate") (hm : X.mg "enumerate" = none) (ha : PA X [e] ta) (hs : starEach [e] X.env = [(false, eval e X.env)] := by rfl) :
    PI X (.Tuple elts kk tpos) (.Call (.Name "enumerate" p) [e] [] pos) (iEnumT X.K ta) := by
  refine ⟨fun pins s σ H R I h => ?_⟩
  refine Call_ (ld_blt I hg hm boot_enumerate (PyProof.Rows.callWith_type1 (thn (ha.run pos pins s σ H _ I h) fun us s1 ⟨vs, H1, I1, r1, q1⟩ => ?_) hs rfl))
  obtain ⟨a, xs, ex, hq, q⟩ := q1
  subst ex
  obtain ⟨u, rfl, r⟩ := vals1 r1
  cases r
  obtain ⟨its, rv, isT, _⟩ := I1.tuple hq
  have old : a < s1.heap.objs.size := by
    obtain ⟨o, q, _⟩ := isT
    exact Heap.lt_size q
  refine call_enum_tup isT fun h2 he hit keep => wpAny_pyIter_enum he ?_
  have I2 : Inv X pins σ H1 { s1 with heap := h2 } := I1.kept (t' := s1.toks) keep
  refine ⟨s1.heap.objs.size + 1, [s1.heap.objs.size + 1, s1.heap.objs.size], _, _, H1, rfl, I2, turn_etp a (s1.heap.objs.size + 1) s1.heap.objs.size (Nat.ne_of_lt old), ⟨⟨.none, he⟩, hit, Nat.succ_ne_self _⟩, fun b hb => ?_, q⟩
  have above : s1.heap.objs.size ≤ b := by
    rcases List.mem_cons.mp hb with z | z
    · rw [z]
      exact Nat.le_succ _
    · exact Nat.le_of_eq (List.mem_singleton.mp z).symm
  exact I1.fpOk above (I1.hok.fresh above)
theorem walk_enumT {K : PySem.W.Frag} {a : Addr} {xs : List V} : Walk (Etp K a) xs.length (fun H => SqT K H a xs) (YPair (fun i => some (.int (i : Nat))) (fun i => xs[i]?)) :=
  by
  refine ⟨fun i _ hi q => ⟨xs, xs[i], q, by simp [hi]⟩, fun _ q => ⟨xs, q, rfl⟩, fun i H v H' _ q y => ?_⟩
  obtain ⟨T, x, h1, h2, h3, h4⟩ := y
  exact ⟨T, .int (i : Nat), x, h1, h2, h3, rfl, h4 xs q⟩
end DR

/-! {k: v for ..}, the keys tuples of ints and texts -/
namespace DR
open PySem PySem.Spec PyProof.Rows L2
/-- what a comprehension does at one item -/
theorem dictSet_tup {X : Cx} {pins : List (Addr × Obj)} {σ : L2.St} {H : Hp} {s : Shared} {E : Value → Shared → Prop} {D b : Addr} {kvs : List (List Key × V)} {k : List Key} {v : V} {r : Value} {Q : Unit → Shared → Prop} (few : X.A.units < cLine)
    (I : Inv X pins σ H s) (hD : H D = some (.dT kvs)) (hb : H b = some (.tup (k.map kV))) (len : kvs.length < sizeLine) (rv : RelV v r) (goal : ∀ s', Inv X pins σ (upd H D (.dT (putK kvs k v))) s' → Q () s') :
    wpAny (model X.prog X.w) X.A (dictSet D (.ref b) r) Q E s := by
  obtain ⟨_, sm, xs, rel, dd⟩ := dt_of I.hok hD
  have xl : xs.length ≤ sizeLine := by
    rw [← Paired.length rel]
    omega
  have pl : (putK kvs k v).length ≤ sizeLine := by
    have := length_putK kvs k v
    omega
  refine wpAny_dictSet_heap (hsz := xl) (knd := tupleKind (mixKind X.prog X.w)) few (key_of I.hok hb) dd fun h2 d2 sb => goal _ ?_
  obtain ⟨o, es, ep, at2, c2, c3, c4, _, c5⟩ := d2
  refine d_write I (by rw [hD]; exact True.intro) sb ⟨o, at2⟩ ⟨pl, sm, _, (rel.put k hb rv).keeps fun c ys ec => ?_, o, es, ep, at2, c2, c3, c4, c5⟩
  rw [upd_ne (ne_of ec hD (fun z => nomatch z))]
  exact ec
def tDcT (wi : TI) (g : TG) (tt : TT) (tk tv : TE) (vs : List Nat) : TE := fun σ H Q => wi σ H fun J H1 => ∀ D, H1 D = none → ∃ W : Nat → Nat → Hp → Prop, (∃ m, W 0 m (upd H1 D (.dT []))) ∧ ∀ i m H, W i m H →
  (J.stop i H ∧ Q (.ref D) H) ∨ (J.go i H ∧ ∃ Nx : Hp → Prop, (∀ H', Nx H' → ∃ m', m' < m ∧ W (i + 1) m' H') ∧ ∀ x H', J.yld i H x H' → g x (wipe σ vs) H' fun σ2 H2 => wipe σ2 vs = wipe σ vs ∧ tt σ2 H2 fun b H3 =>
    if b = true then tk σ2 H3 fun y H4 => tv σ2 H4 fun z H5 => ∃ a kvs k, y = .ref a ∧ H5 a = some (.tup (k.map kV)) ∧ H5 D = some (.dT kvs) ∧ kvs.length < sizeLine ∧ Nx (upd H5 D (.dT (putK kvs k z))) else Nx H3)
section
variable {X : Cx}
abbrev AtBlk (X : Cx) (scope : Scope) (p : Cx → Prop) : Prop := ∀ (s : Shared) (H : Hp) (C : Addr) (cl : List (Str × Addr)) (fp : List Addr), p (X.blk s H scope (compEnvC scope cl C X.env) fp)
theorem pe_dcT {kx vx tg iter : Expr} {ifs : List Expr} {scope : Scope} {own : List (Str × Nat)} {pos : Pos} {wi : TI} {g : TG} {tt : TT} {tk tv : TE} (few : X.A.units < cLine) (calm : X.calm = true) (nd : X.N.Nodup) (hi : PI X tg iter wi) (ok : BlkOk X.N X.env.scope scope own)
    (hg : AtBlk X scope fun Y => PG Y tg g) (ht : AtBlk X scope fun Y => PTs Y ifs tt) (hk : AtBlk X scope fun Y => PE Y kx tk) (hv : AtBlk X scope fun Y => PE Y vx tv) (fold : ∀ x, foldedSetIterable iter X.env x = pure x := by intro _; rfl) :
    PE X (.DictComp kx vx [⟨tg, iter, ifs, 0⟩] scope pos) (tDcT wi g tt tk tv (own.map (·.2))) := by
  refine ⟨fun pins s σ H Q I h => ?_⟩
  rw [arm_eval_DictComp]
  have isfree : ∀ y ∈ scope.names, y.2 = .free → ∃ c, X.env.cells.lookup y.1 = some c := fun y hy e => (ok.free y hy e).elim (fun k => I.ok.has _ (.inl k)) fun k => I.ok.has _ (.inr k)
  refine wpAny_comprehension_free rfl fold (closure_ok isfree) ok.kind (fun y hy e => by rw [ok.uniq y hy, e]) (thn (hi.run pins s σ H _ I h) fun xv s1 hx => thn hx fun itv s2 ⟨it, fp, tn, J, H2, e, I2, T, st2, f2, q⟩ => ?_)
  subst e
  refine wpAny_newObj_type (newEnv_comp ?_)
  generalize eD : s2.heap.objs.size = D
  obtain ⟨W, ⟨m0, w0⟩, turn⟩ := q D (I2.hok.fresh (Nat.le_of_eq eD))
  generalize e3 : ({ s2 with heap := s2.heap.push { cls := .type "dict", data := .dict #[] } } : Shared) = s3
  have p3 : s3.heap = s2.heap.push { cls := .type "dict", data := .dict #[] } := by rw [← e3]
  have below : ∀ b ∈ fp, b < s2.heap.objs.size := fun b hb => let ⟨o, q, _⟩ := T.obj _ _ st2 b hb; Heap.lt_size q
  generalize eH : upd H2 D (.dT []) = H3 at w0
  have I3 : Inv X pins σ H3 s3 := by
    rw [← eH, ← e3]
    refine I2.laid (t' := s2.toks) (fun b o q => Heap.get?_push_of_some _ q) (Nat.le_of_eq eD) ?_
    rw [← eD]
    exact dt_empty s2.heap I2.big
  have ok3 : ∀ b ∈ fp, FpOk X pins H3 b ∧ b < s3.heap.objs.size := fun b hb => by
    have lt := below b hb
    refine ⟨⟨?_, (f2 b hb).2⟩, ?_⟩
    · rw [← eH, upd_ne (by rw [← eD]; exact Nat.ne_of_lt lt)]
      exact (f2 b hb).1
    · rw [p3, Heap.size_push]
      exact Nat.lt_succ_of_lt lt
  have st3 : tn 0 s3.heap := T.keep _ _ _ st2 fun b _ o q => by
    rw [p3]
    exact Heap.get?_push_of_some _ q
  have I4 := block_start I3 ok nd ok3
  generalize eC : cellsFrom (s3.heap.objs.size + 1) scope.names (cloFrom X.env.cells scope.names []) = cl at I4
  have rg := hg s3 H3 s3.heap.objs.size cl fp
  have rt := ht s3 H3 s3.heap.objs.size cl fp
  have rk := hk s3 H3 s3.heap.objs.size cl fp
  have rv := hv s3 H3 s3.heap.objs.size cl fp
  show codeAny _ _ (.compStart (.DictComp kx vx [⟨tg, iter, ifs, 0⟩] scope pos) 0 (.ref it) (.ref D) (compEnvC scope cl s3.heap.objs.size X.env)) (compPost (model X.prog X.w) X.A X.xe none (EP X pins σ Q) (.ref D) s3.heap.objs.size)
    { s3 with heap := pushCells (s3.heap.push { cls := .type "dict", data := .dict #[] }) scope.names }
  generalize eE : compEnvC scope cl s3.heap.objs.size X.env = env at I4 rg rt rk rv ⊢
  have loc : env.locals = s3.heap.objs.size := by
    rw [← eE]
    rfl
  generalize e4 : ({ s3 with heap := pushCells (s3.heap.push { cls := .type "dict", data := .dict #[] }) scope.names } : Shared) = s4 at I4 ⊢
  have st4 : tn 0 s4.heap := T.keep _ _ _ st3 fun b _ o q => by
    rw [← e4]
    exact pushCells_keeps _ _ _ _ (Heap.get?_push_of_some _ q)
  have free3 : ∀ b ∈ fp, H3 b = none := fun b hb => (ok3 b hb).1.1
  have held : ∀ {σ' : L2.St} {H' : Hp} {s' : Shared}, Inv (X.blk s3 H3 scope env fp) [] σ' H' s' → (∀ b ∈ fp, H' b = none) → ∀ b ∈ fp, FpOk (X.blk s3 H3 scope env fp) [] H' b := fun {σ' H' s'} J' fr b hb =>
    ⟨fr b hb, (J'.ok.exf b hb).1, J'.ok.exfs b hb, .inl hb, fun x c e => (J'.ok.exf b hb).2 x c e, fun p hp => absurd (show p ∈ ([] : List (Addr × Obj)) ++ [] from hp) (by simp)⟩
  have loop : codeAny (model X.prog X.w) X.A (.compLoop (.DictComp kx vx [⟨tg, iter, ifs, 0⟩] scope pos) 0 (.ref it) (.ref D) env) (compPost (model X.prog X.w) X.A X.xe none (EP X pins σ Q) (.ref D) s3.heap.objs.size) s4 := by
    refine compLoop_anyD (fun n s' => ∃ i H', Inv (X.blk s3 H3 scope env fp) [] (wipe σ (own.map (·.2))) H' s' ∧ tn i s'.heap ∧ (∀ b ∈ fp, H' b = none) ∧ W i n H') ?_ m0 ⟨0, H3, I4, st4, free3, w0⟩
    rintro n s5 ⟨i, H5, I5, st5, fr5, w5⟩
    rcases turn i n H5 w5 with ⟨stop, end_⟩ | ⟨go, Nx, goes, step⟩
    · refine thnF (T.done (X.blk s3 H3 scope env fp) rfl rfl rfl calm i [] s5 _ H5 (fun _ _ => False) I5 (held I5 fr5) st5 stop) fun r s6 ⟨hr, I6⟩ => ?_
      subst hr
      have back : Inv X pins σ H5 s6 := I3.call' (ch := fp) I6.os I6.base I6.hok I6.bare fun b hb => ⟨(ok3 b hb).1.2.2.2.1, (ok3 b hb).1.2.1, (ok3 b hb).1.2.2.2.2.1, (ok3 b hb).1.2.2.2.2.2⟩
      have noC : H5 s3.heap.objs.size = none := loc ▸ (show H5 env.locals = none from I6.free)
      obtain ⟨m, ns, _⟩ := I6.loc
      have ns : s6.heap.Ns s3.heap.objs.size m := loc ▸ (show s6.heap.Ns env.locals m from ns)
      obtain ⟨a0, a1, a2, a3, a4, a5⟩ := I3.fpOk (Nat.le_refl _) noC
      exact ⟨m, ns, fun h2 sb => ⟨.ref D, H5, back.turned (t' := s6.toks) (fun b o hb q => (sb.2 b hb).trans q) a0 a1 a3 a4 a5, rfl, end_⟩⟩
    · refine thnF (T.item (X.blk s3 H3 scope env fp) rfl rfl rfl calm i [] s5 _ H5 (fun _ _ => False) I5 (held I5 fr5) st5 go) fun r s6 ⟨u, hr, h6⟩ => ?_
      subst hr
      refine thnF h6 fun _ s7 ⟨x, H7, I7, r7, y7, st7, fr7⟩ => ?_
      refine thnF (rg.run _ s7 _ H7 x u _ (I7.pinned (held I7 fr7) (T.obj _ _ st7)) r7 (step x H7 y7)) fun _ s8 ⟨σ8, H8, I8, same8, q8⟩ => ?_
      refine thnF (rt.run _ s8 σ8 H8 _ I8 q8) fun b s9 ⟨H9, I9, q9⟩ => ?_
      have fin : ∀ {s' : Shared} {H' : Hp}, Inv (X.blk s3 H3 scope env fp) ([] ++ pinsAt fp s7.heap) σ8 H' s' → Nx H' → ∃ m, m < n ∧ ∃ i H', Inv (X.blk s3 H3 scope env fp) [] (wipe σ (own.map (·.2))) H' s' ∧ tn i s'.heap ∧ (∀ b ∈ fp, H' b = none) ∧ W i m H' := fun {s' H'} J' nx => by
        obtain ⟨m', less, w'⟩ := goes H' nx
        have pinned : ∀ b ∈ fp, ∀ o, s7.heap.get? b = some o → s'.heap.get? b = some o ∧ H' b = none := fun b hb o e =>
          let z := J'.pin (b, o) (List.mem_append_right _ (List.mem_append_right _ (mem_pinsAt hb e)))
          ⟨z.1, z.2.1⟩
        refine ⟨m', less, i + 1, H', (J'.unpinned (pins := [])).weak (by rw [← same8, wipe_length]) (fun j v e => (wipe_some (same8 ▸ e)).1), T.keep _ _ _ st7 fun b hb o e => (pinned b hb o e).1, fun b hb => ?_, w'⟩
        obtain ⟨o, e, _⟩ := T.obj _ _ st7 b hb
        exact (pinned b hb o e).2
      cases b with
      | false =>
        rw [if_neg (by decide)] at q9
        rw [if_neg (by decide)]
        exact fin I9 q9
      | true =>
        rw [if_pos rfl] at q9
        rw [if_pos rfl]
        refine thnF (rk.run _ s9 σ8 H9 _ I9 q9) fun z s10 ⟨yk, H10, I10, r10, q10⟩ => ?_
        refine thnF (rv.run _ s10 σ8 H10 _ I10 q10) fun z2 s11 ⟨yv, H11, I11, r11, a, kvs, k, ek, ha, hD, len, nx⟩ => ?_
        subst ek
        cases r10
        exact dictSet_tup (X := X.blk s3 H3 scope env fp) few I11 hD ha len r11 fun s12 I12 => fin I12 nx
  exact codeAny_compStart_dict loop (T.self X.A 0 _ _ _ st4 loop)
/-- over any walk -/
theorem dcT_it {J : It} {n : Nat} {G : Hp → Prop} {Y : Nat → Hp → V → Hp → Prop} (w : Walk J n G Y) {g : TG} {tt : TT} {tk tv : TE} {vs : List Nat} {σ : L2.St} {H1 : Hp} {D : Addr} {Qd : Hp → Prop} (Pv : Nat → Hp → Prop) (h0 : Pv 0 (upd H1 D (.dT []))) (hG : ∀ i H, i ≤ n → Pv i H → G H)
    (hs : ∀ i x H H', i < n → Pv i H → Y i H x H' → g x (wipe σ vs) H' fun σ2 H2 => wipe σ2 vs = wipe σ vs ∧ tt σ2 H2 fun b H3 =>
      if b = true then tk σ2 H3 fun y H4 => tv σ2 H4 fun z H5 => ∃ a kvs k, y = .ref a ∧ H5 a = some (.tup (k.map kV)) ∧ H5 D = some (.dT kvs) ∧ kvs.length < sizeLine ∧ Pv (i + 1) (upd H5 D (.dT (putK kvs k z))) else Pv (i + 1) H3) (hd : ∀ H, Pv n H → Qd H) :
    ∃ W : Nat → Nat → Hp → Prop, (∃ m, W 0 m (upd H1 D (.dT []))) ∧ ∀ i m H, W i m H →
      (J.stop i H ∧ Qd H) ∨ (J.go i H ∧ ∃ Nx : Hp → Prop, (∀ H', Nx H' → ∃ m', m' < m ∧ W (i + 1) m' H') ∧ ∀ x H', J.yld i H x H' → g x (wipe σ vs) H' fun σ2 H2 => wipe σ2 vs = wipe σ vs ∧ tt σ2 H2 fun b H3 =>
        if b = true then tk σ2 H3 fun y H4 => tv σ2 H4 fun z H5 => ∃ a kvs k, y = .ref a ∧ H5 a = some (.tup (k.map kV)) ∧ H5 D = some (.dT kvs) ∧ kvs.length < sizeLine ∧ Nx (upd H5 D (.dT (putK kvs k z))) else Nx H3) := by
  refine ⟨fun i m H => m + i = n ∧ Pv i H, ⟨n, rfl, h0⟩, ?_⟩
  rintro i m H ⟨e, p⟩
  have g0 := hG i H (by omega) p
  cases m with
  | zero =>
    obtain rfl : i = n := by omega
    exact .inl ⟨w.stops H g0, hd H p⟩
  | succ m => exact .inr ⟨w.goes i H (by omega) g0, Pv (i + 1), fun H' p' => ⟨m, Nat.lt_succ_self m, by omega, p'⟩, fun x H' y => hs i x H H' (by omega) p (w.yields i H x H' (by omega) g0 y)⟩
end
end DR

/-! x in o, x not in o, o == x by an own def -/
namespace DR
open PySem PySem.Spec PyProof.Rows L2
section
variable {X : Cx} {CX : CXT} {k : Nat} {C f : Addr} {fd : FuncData} {ps : List Str} {sp : Sp} {E : XK}
/-- an own def asked about x: it says a bool -/
def rAsk (C : Addr) (sp : Sp) (E : XK) (no : Bool → Bool) : R2 := fun x y H Q => ∃ a dx fs, y = .ref a ∧ H a = some (.ins C dx fs) ∧ sp [.ref a, x] H (fun v H' => ∃ b, v = .bl b ∧ Q (.bl (no b)) H') E
theorem op_inM (F : FnOk X.prog X.w X.K X.mg X.base CX k f fd ps sp) (hr : Room k X.A) (hb : Binds X.K fd ps []) (hs : PySem.W.findIn X.K (.ref C) "__contains__" = some (some (.ref f))) (hf : PySem.W.isFn X.K (.ref f) = true) (hx : Passes CX X E) :
    OpR X (compareOp .In) (rAsk C sp E id) := by
  intro pins s σ H x y v u Q I rx ry ⟨a, dx, fs, ey, ea, q⟩
  subst ey
  cases (show u = Value.ref a from ry)
  obtain ⟨mA, O, _⟩ := ins_get I.hok ea
  obtain ⟨od, J, _⟩ := O.look
  obtain ⟨m, fr⟩ := I.fr
  refine PySem.W.in_K fr I.ok.mod.kin J hs hf (wpAny_mono (run_fn (us := [.ref a, v]) (vs := [.ref a, x]) F hr hb .nil hx I (.cons rfl (.cons rx .nil)) q) (fun r s2 ⟨z, H2, I2, rz, b, ez, qz⟩ => ?_) fun _ _ z => z)
  subst ez
  cases rz
  exact wpAny_truthy_bool ⟨.bl b, H2, I2, rfl, qz⟩
theorem op_notInM (F : FnOk X.prog X.w X.K X.mg X.base CX k f fd ps sp) (hr : Room k X.A) (hb : Binds X.K fd ps []) (hs : PySem.W.findIn X.K (.ref C) "__contains__" = some (some (.ref f))) (hf : PySem.W.isFn X.K (.ref f) = true) (hx : Passes CX X E) :
    OpR X (compareOp .NotIn) (rAsk C sp E not) := by
  intro pins s σ H x y v u Q I rx ry ⟨a, dx, fs, ey, ea, q⟩
  subst ey
  cases (show u = Value.ref a from ry)
  obtain ⟨mA, O, _⟩ := ins_get I.hok ea
  obtain ⟨od, J, _⟩ := O.look
  obtain ⟨m, fr⟩ := I.fr
  refine PySem.W.notIn_K fr I.ok.mod.kin J hs hf (wpAny_mono (run_fn (us := [.ref a, v]) (vs := [.ref a, x]) F hr hb .nil hx I (.cons rfl (.cons rx .nil)) q) (fun r s2 ⟨z, H2, I2, rz, b, ez, qz⟩ => ?_) fun _ _ z => z)
  subst ez
  cases rz
  exact wpAny_truthy_bool ⟨.bl (!b), H2, I2, rfl, qz⟩
/-- what stands on the right of an own == -/
inductive TyR (K : PySem.W.Frag) (H : Hp) : V → Value → Prop where
  | int (i : Int) : TyR K H (.int i) (.type "int")
  | str (x : Str) : TyR K H (.str x) (.type "str")
  | ins {a C dx : Addr} {fs : List (Str × V)} (e : H a = some (.ins C dx fs)) : TyR K H (.ref a) (.ref C)
theorem TyR.looks {pins : List (Addr × Obj)} {σ : L2.St} {H : Hp} {s : Shared} {x : V} {u t : Value} (h : TyR X.K H x t) (I : Inv X pins σ H s) (r : RelV x u) : PySem.W.Looks (model X.prog X.w) s.heap (typeOf u) t := by
  cases h with
  | int i =>
    obtain ⟨k, e⟩ := (show ∃ k, u = Value.int i k from r)
    subst e
    exact PySem.W.Looks.now
  | str i =>
    obtain ⟨k, e⟩ := (show ∃ k, u = Value.str i k from r)
    subst e
    exact PySem.W.Looks.now
  | @ins a C dx fs e =>
    cases (show u = Value.ref a from r)
    obtain ⟨mA, O, _⟩ := ins_get I.hok e
    obtain ⟨od, J, _⟩ := O.look
    exact J.type
def rEqM (K : PySem.W.Frag) (C : Addr) (sp : Sp) (E : XK) : R2 := fun x y H Q => ∃ a dx fs t, x = .ref a ∧ H a = some (.ins C dx fs) ∧ TyR K H y t ∧ PySem.W.notFirst K C t = true ∧ sp [.ref a, y] H (fun v H' => ∃ b, v = .bl b ∧ Q (.bl b) H') E
theorem op_eqM (F : FnOk X.prog X.w X.K X.mg X.base CX k f fd ps sp) (hr : Room k X.A) (hb : Binds X.K fd ps []) (hs : PySem.W.findIn X.K (.ref C) "__eq__" = some (some (.ref f))) (hf : PySem.W.isFn X.K (.ref f) = true) (hx : Passes CX X E) :
    OpR X (compareOp .Eq) (rEqM X.K C sp E) := by
  intro pins s σ H x y v u Q I rx ry ⟨a, dx, fs, t, ex, ea, ty, nf, q⟩
  subst ex
  cases (show v = Value.ref a from rx)
  obtain ⟨mA, O, _⟩ := ins_get I.hok ea
  obtain ⟨od, J, _⟩ := O.look
  obtain ⟨m, fr⟩ := I.fr
  show wpAny _ _ (richCompare .Eq (.ref a) u) _ _ _
  refine PySem.W.cmp_K (op := .Eq) hr.units0 fr I.ok.mod.kin J (ty.looks I ry) nf hs hf (wpAny_mono (run_fn (us := [.ref a, u]) (vs := [.ref a, y]) F hr hb .nil hx I (.cons rfl (.cons ry .nil)) q) (fun r s2 ⟨z, H2, I2, rz, b, ez, qz⟩ => ?_) fun _ _ z => z)
  subst ez
  cases rz
  exact ⟨.bl b, H2, I2, rfl, qz⟩
end
end DR

/-! f(k = e), o.m(k = e) -/
namespace DR
open PySem PySem.Spec PyProof.Rows L2
section
variable {X : Cx} {CX : CXT} {k : Nat} {C f : Addr} {fd : FuncData} {ps : List Str} {sp : Sp} {E : XK} {x kw m : Str} {p pos apos kpos : Pos} {e o : Expr} {te ta : TE}
theorem run_kw {pins : List (Addr × Obj)} {σ : L2.St} {H : Hp} {s : Shared} {Q : VK} {us : List Value} {vs : List V} {args : Args} (F : FnOk X.prog X.w X.K X.mg X.base CX k f fd ps sp) (hr : Room k X.A) (hb : BindsTo s fd args (ps.zip us)) (hx : Passes CX X E) (I : Inv X pins σ H s) (r : Vals vs us) (h : sp vs H Q E) :
    wpAny (model X.prog X.w) X.A (call (.ref f) args.pos args.kw) (EP X pins σ Q) X.xe s := by
  refine wpAny_call (codeAny_mono (F.run X.A X.stack s H args us vs Q E hr I.env0 hb r h) fun res s2 hq => ?_)
  match res, hq with
  | .error er, hq => exact hx pins σ H s er s2 I hq
  | .ok (.ret u), hq => exact I.after hq
  | .ok .next, hq => exact hq.elim
  | .ok .brk, hq => exact hq.elim
  | .ok .cont, hq => exact hq.elim
def tCallK1 (sp : Sp) (E : XK) (te : TE) : TE := fun σ H Q => te σ H fun y H1 => sp [y] H1 Q E
theorem pe_callK1 (lp : ps.length = 1) (F : FnOk X.prog X.w X.K X.mg X.base CX k f fd ps sp) (hr : Room k X.A) (hg : Gl X x) (hm : X.mg x = some (.ref f)) (hk : PySem.W.keepIn X.K (.ref f) = true) (hb : ∀ (s : Shared) (v : Value), BindsTo s fd ⟨[], [(kw, v)]⟩ (ps.zip [v])) (hx : Passes CX X E) (he : PE X e te)
    (hall : (backToKw pos (keywordEach [⟨some kw, e, kpos⟩] X.env)).all (·.1.isSome) = true := by rfl) (hks : (backToKw pos (keywordEach [⟨some kw, e, kpos⟩] X.env)).filterMap (·.1) = [kw] := by rfl) (hdb : (x == ("__debug__" : Str)) = false := by decide)
    (hpl : ((backTo pos (starEach [] X.env)).any (·.1) || (backToKw pos (keywordEach [⟨some kw, e, kpos⟩] X.env)).any (·.1.isNone)) = false := by rfl) : PE X (.Call (.Name x p) [] [⟨some kw, e, kpos⟩] pos) (tCallK1 sp E te) := by
  refine ⟨fun pins s σ H Q I h => ?_⟩
  refine wpAny_Call_Name_kw (ld_glob I hg hm ?_ hdb)
  refine PySem.W.callWith_KW0 (h₀ := X.base) I.ok.mod.kin hk hall ?_ hpl
  have args : PK X [⟨some kw, e, kpos⟩] (tCons te tNil) := pk_cons he pk_nil
  refine thn (args.run pos pins s σ H (fun zs H1 => sp zs H1 Q E) I h) fun ws s2 ⟨zs, H2, I2, rz, q⟩ => ⟨I2.kIn, ?_⟩
  obtain ⟨y, rfl⟩ : ∃ y, zs = [y] := by
    have l := (F.len _ _ _ _ q).trans lp
    match zs, l with
    | [y], _ => exact ⟨y, rfl⟩
  · obtain ⟨u, rfl, r⟩ := vals1 rz
    rw [hks]
    exact run_kw (args := ⟨[], [(kw, u)]⟩) F hr (hb s2 u) hx I2 (.cons r .nil) q
def tMethK1 (C : Addr) (m : Str) (sp : Sp) (E : XK) (ta te : TE) : TE := fun σ H Q => ta σ H fun x H1 => ∃ a dx fs, x = .ref a ∧ H1 a = some (.ins C dx fs) ∧ fs.lookup m = none ∧ te σ H1 fun y H2 => sp [x, y] H2 Q E
theorem pe_methK1 {pl : Sem Bool} (lp : ps.length = 2) (ho : PE X o ta) (c : Cls X.K C) (hm : Meth X.K C m f) (F : FnOk X.prog X.w X.K X.mg X.base CX k f fd ps sp) (hr : Room k X.A) (hb : ∀ (s : Shared) (a v : Value), BindsTo s fd ⟨[a], [(kw, v)]⟩ (ps.zip [a, v])) (hx : Passes CX X E) (he : PE X e te)
    (hall : (backToKw pos (keywordEach [⟨some kw, e, kpos⟩] X.env)).all (·.1.isSome) = true := by rfl) (hks : (backToKw pos (keywordEach [⟨some kw, e, kpos⟩] X.env)).filterMap (·.1) = [kw] := by rfl)
    (hpl : ((backTo pos (starEach [] X.env)).any (·.1) || (backToKw pos (keywordEach [⟨some kw, e, kpos⟩] X.env)).any (·.1.isNone)) = false := by rfl)
    (ht : eval (.Call (.Attribute o m apos) [] [⟨some kw, e, kpos⟩] pos) X.env = (do
      let ov ← eval o X.env
      standAt apos.atName
      let (f, first) ← holding [ov] (getMethod ov m pl)
      callWith pos f first (backTo pos (starEach [] X.env)) (backToKw pos (keywordEach [⟨some kw, e, kpos⟩] X.env))) := by rfl) :
    PE X (.Call (.Attribute o m apos) [] [⟨some kw, e, kpos⟩] pos) (tMethK1 C m sp E ta te) := by
  refine ⟨fun pins s σ H Q I h => ?_⟩
  refine PySem.W.methodCall_KW (pl := pl) (thn (ho.run pins s σ H _ I h) fun u s1 ⟨x, H1, I1, rx, a, dx, fs, ex, ea, l, q⟩ => ?_) ht
  subst ex
  obtain rfl : u = Value.ref a := rx
  refine getmeth_ok I1 ea c hm l ?_
  refine PySem.W.callWith_KW0 (first := [.ref a]) (h₀ := X.base) I.ok.mod.kin hm.kp hall ?_ hpl
  have args : PK X [⟨some kw, e, kpos⟩] (tCons te tNil) := pk_cons he pk_nil
  refine thn (args.run pos pins s1 σ H1 (fun zs H2 => sp (.ref a :: zs) H2 Q E) I1 q) fun ws s2 ⟨zs, H2, I2, rz, q⟩ => ⟨I2.kIn, ?_⟩
  obtain ⟨y, rfl⟩ : ∃ y, zs = [y] := by
    have l := (F.len _ _ _ _ q).trans lp
    match zs, l with
    | [y], _ => exact ⟨y, rfl⟩
  · obtain ⟨u, rfl, r⟩ := vals1 rz
    rw [hks]
    exact run_kw (args := ⟨[.ref a], [(kw, u)]⟩) (us := [.ref a, u]) (vs := [.ref a, y]) F hr (hb s2 (.ref a) u) hx I2 (.cons rfl (.cons r .nil)) q
end
end DR

/-! o.m(x, k = e), o.m(x, k1 = e1, k2 = e2) -/
namespace DR
open PySem PySem.Spec PyProof.Rows L2
section
variable {X : Cx} {CX : CXT} {k : Nat} {C f : Addr} {fd : FuncData} {ps : List Str} {sp : Sp} {E : XK} {kw kw2 m : Str} {p pos apos kpos kpos2 : Pos} {e e1 e2 o : Expr} {te te1 te2 ta : TE}
def tMeth11 (C : Addr) (m : Str) (sp : Sp) (E : XK) (ta te1 te : TE) : TE := fun σ H Q => ta σ H fun x H1 => ∃ a dx fs, x = .ref a ∧ H1 a = some (.ins C dx fs) ∧ fs.lookup m = none ∧ tCons te1 tNil σ H1 fun ys H2 => tCons te tNil σ H2 fun zs H3 => ∃ y z, ys = [y] ∧ zs = [z] ∧ sp [x, y, z] H3 Q E
theorem pe_meth11 {pl : Sem Bool} (ho : PE X o ta) (c : Cls X.K C) (hm : Meth X.K C m f) (F : FnOk X.prog X.w X.K X.mg X.base CX k f fd ps sp) (hr : Room k X.A) (hb : ∀ (s : Shared) (a u v : Value), BindsTo s fd ⟨[a, u], [(kw, v)]⟩ (ps.zip [a, u, v])) (hx : Passes CX X E) (h1 : PE X e1 te1) (he : PE X e te)
    (hall : (backToKw pos (keywordEach [⟨some kw, e, kpos⟩] X.env)).all (·.1.isSome) = true := by rfl) (hks : (backToKw pos (keywordEach [⟨some kw, e, kpos⟩] X.env)).filterMap (·.1) = [kw] := by rfl)
    (hpl : ((backTo pos (starEach [e1] X.env)).any (·.1) || (backToKw pos (keywordEach [⟨some kw, e, kpos⟩] X.env)).any (·.1.isNone)) = false := by rfl)
    (hst : starEach (e1 :: []) X.env = (false, eval e1 X.env) :: starEach [] X.env := by rfl)
    (ht : eval (.Call (.Attribute o m apos) [e1] [⟨some kw, e, kpos⟩] pos) X.env = (do
      let ov ← eval o X.env
      standAt apos.atName
      let (f, first) ← holding [ov] (getMethod ov m pl)
      callWith pos f first (backTo pos (starEach [e1] X.env)) (backToKw pos (keywordEach [⟨some kw, e, kpos⟩] X.env))) := by rfl) :
    PE X (.Call (.Attribute o m apos) [e1] [⟨some kw, e, kpos⟩] pos) (tMeth11 C m sp E ta te1 te) := by
  refine ⟨fun pins s σ H Q I h => ?_⟩
  refine PySem.W.methodCall_KW (pl := pl) (thn (ho.run pins s σ H _ I h) fun u s1 ⟨x, H1, I1, rx, a, dx, fs, ex, ea, l, q⟩ => ?_) ht
  subst ex
  obtain rfl : u = Value.ref a := rx
  refine getmeth_ok I1 ea c hm l ?_
  have pos1 : PA X [e1] (tCons te1 tNil) := pa_cons h1 pa_nil hst
  have kws : PK X [⟨some kw, e, kpos⟩] (tCons te tNil) := pk_cons he pk_nil
  refine PySem.W.callWith_KW (first := [.ref a]) (h₀ := X.base) I.ok.mod.kin hm.kp hall (thn (pos1.run pos pins s1 σ H1 _ I1 q) fun us s2 ⟨ys, H2, I2, ry, q2⟩ => ?_) hpl hst
  · refine thn (kws.run pos pins s2 σ H2 _ I2 q2) fun ws s3 ⟨zs, H3, I3, rz, y, z, ey, ez, q3⟩ => ⟨I3.kIn, ?_⟩
    subst ey ez
    obtain ⟨uy, rfl, r1⟩ := vals1 ry
    obtain ⟨uz, rfl, r2⟩ := vals1 rz
    rw [hks]
    exact run_kw (args := ⟨[.ref a, uy], [(kw, uz)]⟩) (us := [.ref a, uy, uz]) (vs := [.ref a, y, z]) F hr (hb s3 (.ref a) uy uz) hx I3 (.cons rfl (.cons r1 (.cons r2 .nil))) q3
def tMeth12 (C : Addr) (m : Str) (sp : Sp) (E : XK) (ta te1 te te2 : TE) : TE := fun σ H Q => ta σ H fun x H1 => ∃ a dx fs, x = .ref a ∧ H1 a = some (.ins C dx fs) ∧ fs.lookup m = none ∧ tCons te1 tNil σ H1 fun ys H2 => tCons te (tCons te2 tNil) σ H2 fun zs H3 => ∃ y z z2, ys = [y] ∧ zs = [z, z2] ∧ sp [x, y, z2, z] H3 Q E
theorem pe_meth12 {pl : Sem Bool} (ho : PE X o ta) (c : Cls X.K C) (hm : Meth X.K C m f) (F : FnOk X.prog X.w X.K X.mg X.base CX k f fd ps sp) (hr : Room k X.A) (hb : ∀ (s : Shared) (a u v v2 : Value), BindsTo s fd ⟨[a, u], [(kw, v), (kw2, v2)]⟩ (ps.zip [a, u, v2, v])) (hx : Passes CX X E) (h1 : PE X e1 te1) (he : PE X e te) (he2 : PE X e2 te2)
    (hall : (backToKw pos (keywordEach [⟨some kw, e, kpos⟩, ⟨some kw2, e2, kpos2⟩] X.env)).all (·.1.isSome) = true := by rfl) (hks : (backToKw pos (keywordEach [⟨some kw, e, kpos⟩, ⟨some kw2, e2, kpos2⟩] X.env)).filterMap (·.1) = [kw, kw2] := by rfl)
    (hpl : ((backTo pos (starEach [e1] X.env)).any (·.1) || (backToKw pos (keywordEach [⟨some kw, e, kpos⟩, ⟨some kw2, e2, kpos2⟩] X.env)).any (·.1.isNone)) = false := by rfl)
    (hst : starEach (e1 :: []) X.env = (false, eval e1 X.env) :: starEach [] X.env := by rfl)
    (ht : eval (.Call (.Attribute o m apos) [e1] [⟨some kw, e, kpos⟩, ⟨some kw2, e2, kpos2⟩] pos) X.env = (do
      let ov ← eval o X.env
      standAt apos.atName
      let (f, first) ← holding [ov] (getMethod ov m pl)
      callWith pos f first (backTo pos (starEach [e1] X.env)) (backToKw pos (keywordEach [⟨some kw, e, kpos⟩, ⟨some kw2, e2, kpos2⟩] X.env))) := by rfl) :
    PE X (.Call (.Attribute o m apos) [e1] [⟨some kw, e, kpos⟩, ⟨some kw2, e2, kpos2⟩] pos) (tMeth12 C m sp E ta te1 te te2) := by
  refine ⟨fun pins s σ H Q I h => ?_⟩
  refine PySem.W.methodCall_KW (pl := pl) (thn (ho.run pins s σ H _ I h) fun u s1 ⟨x, H1, I1, rx, a, dx, fs, ex, ea, l, q⟩ => ?_) ht
  subst ex
  obtain rfl : u = Value.ref a := rx
  refine getmeth_ok I1 ea c hm l ?_
  have pos1 : PA X [e1] (tCons te1 tNil) := pa_cons h1 pa_nil hst
  have kws : PK X [⟨some kw, e, kpos⟩, ⟨some kw2, e2, kpos2⟩] (tCons te (tCons te2 tNil)) := pk_cons he (pk_cons he2 pk_nil)
  refine PySem.W.callWith_KW (first := [.ref a]) (h₀ := X.base) I.ok.mod.kin hm.kp hall (thn (pos1.run pos pins s1 σ H1 _ I1 q) fun us s2 ⟨ys, H2, I2, ry, q2⟩ => ?_) hpl hst
  · refine thn (kws.run pos pins s2 σ H2 _ I2 q2) fun ws s3 ⟨zs, H3, I3, rz, y, z, z2, ey, ez, q3⟩ => ⟨I3.kIn, ?_⟩
    subst ey ez
    obtain ⟨uy, rfl, r1⟩ := vals1 ry
    obtain ⟨uz, uz2, rfl, r2, r3⟩ := vals2 rz
    rw [hks]
    exact run_kw (args := ⟨[.ref a, uy], [(kw, uz), (kw2, uz2)]⟩) (us := [.ref a, uy, uz2, uz]) (vs := [.ref a, y, z2, z]) F hr (hb s3 (.ref a) uy uz uz2) hx I3 (.cons rfl (.cons r1 (.cons r3 (.cons r2 .nil)))) q3
end
end DR

namespace K03
open PySem L2 DR DM TL
def top (i : Nat) : Stmt := PySem.Challenge.pw_deadrules_k03_whole_documents_edited.main.body.getD i (.Pass ⟨0, 0, 0, 0⟩)
def toS (w : W) : Str := ⟨w.toArray⟩
def sv (w : W) : V := .str (toS w)
theorem tl_toS (w : W) : tl (toS w) = w := rfl
theorem toS_len (w : W) : (toS w).length = w.length := by rw [len_tl, tl_toS]
theorem toS_tl (x : Str) : toS (tl x) = x := mk_tl x
theorem toS_app (a b : W) : toS a ++ toS b = toS (a ++ b) := ext_tl (by rw [tl_append, tl_toS, tl_toS, tl_toS])
theorem toS_one (c : Nat) : (⟨#[c]⟩ : Str) = toS [c] := rfl
theorem same_new {H : Hp} {p : Addr} {o : HO} (h : H p = none) : Same H (upd H p o) := fun b u e => by
  rw [upd_ne (ne_of_none e h), e]
/-- what was tracked ahead of p stays where p alone is written -/
theorem same_put {H H' : Hp} {p : Addr} {o : HO} (s : Same H H') (h : H p = none) : Same H (upd H' p o) := fun b u e => by
  rw [upd_ne (ne_of_none e h)]
  exact s b u e
/-! ### cut -/
abbrev sCut : Stmt := top 8
def spCut : Sp := fun vs H Q _ => ∃ (t L S : Str), vs = [.str t, .str L, .str S] ∧ (tl t).length ≤ 30000 ∧ (cutM (tl L) (tl S) (tl t) = none → ∀ H', Same H H' → Q .non H') ∧
  ∀ ps p H', cutM (tl L) (tl S) (tl t) = some ps → H p = none → Same H H' → H' p = some (.lst (ps.map sv)) → Q (.ref p) H'
theorem big : 200000 < sizeLine := by decide
section
variable {P : Program} {w : World} {K : PySem.W.Frag} {mg : Str → Option Value} {base : Heap}
theorem scCut : FnScope ["text", "letters", "signs", "pieces", "word", "sign"] ["text", "letters", "signs"] (defScope sCut) := ⟨rfl, rfl, rfl, by decide +kernel, rfl, by decide +kernel, by decide +kernel⟩
theorem flush_nil (ps : List W) : flush ps [] = ps := rfl
theorem cut_step {L S : List Nat} {t : W} {i c : Nat} {x : Option (List W × W)} (h : t[i]? = some c) (e : (t.take i).foldl (cutStep L S) (some ([], [])) = x) : (t.take (i + 1)).foldl (cutStep L S) (some ([], [])) = cutStep L S x c := by
  have hi : i < t.length := (List.getElem?_eq_some_iff.mp h).1
  rw [List.take_succ, h, List.foldl_append, e]
  rfl
theorem cut_bad {L S : List Nat} {t : W} {i : Nat} (e : (t.take i).foldl (cutStep L S) (some ([], [])) = none) : cutM L S t = none := by
  unfold cutM
  rw [← List.take_append_drop i t, List.foldl_append, e, cut_none]
  rfl
theorem append_rule {X : Cx} {o e : Expr} {to : TE} {ta : TA} {apos cpos pos : Pos} (ho : PE X o to) (ha : PA X [e] ta)
    (h1 : attributeBase o "append" X.env (eval o X.env) = eval o X.env := by rfl) (h2 : ((backTo cpos (starEach [e] X.env)).all (fun x => !x.1) && (backToKw cpos (keywordEach [] X.env)).all (fun x => x.1.isSome) && decide (([e] : List Expr).length + ([] : List Keyword).length + (if ([] : List Keyword).isEmpty then 0 else 1) < 30)) = true := by rfl)
    (h3 : (apos.endLine == cpos.line) = true := by rfl) (h4 : starEach [e] X.env = (false, eval e X.env) :: starEach [] X.env := by rfl) (h5 : (backTo cpos (starEach [] X.env)).any (·.1) = false := by rfl)
    (hs : swapsWith (.Call (.Attribute o "append" apos) [e] [] cpos) none pos.line X.env = pure false := by rfl) :
    PS X (.Expr (.Call (.Attribute o "append" apos) [e] [] cpos) pos) (tDrop (tBM X.K "list" rAppend to ta)) :=
  ps_expr (pe_bm PySem.F.plainAttrs_list PySem.F.slot_list_append PySem.F.type_list_append mt_append ho ha h1 h2 h3 h4 h5) hs
theorem ok_cut {f : Addr} {fd : FuncData} (F : Fun K "cut" "cut" sCut f fd) : FnOk P w K mg base CX0 1 f fd ["text", "letters", "signs"] spCut := by
  refine F.ok scCut (fun vs H Q E h => ?_) (fun cdv A outer s H vs Q E hr h => ?_)
  · obtain ⟨_, _, _, rfl, _⟩ := h
    rfl
  · obtain ⟨t, L, S, rfl, len, no, yes⟩ := h
    refine ⟨_, pss_cons (ps_set (i := 3) scCut.nd rfl (Or.inl rfl) (pe_lst pa_nil))
      (pss_cons (ps_set (i := 4) scCut.nd rfl (Or.inl rfl) pe_str)
      (pss_cons (ps_for PassesOwn.never rfl (pi_str (pv 0)) (pg_name (i := 5) scCut.nd rfl (Or.inl rfl))
        (pss_cons (ps_if (pt_cmpR op_in_sign (pv 5) (pv 1) rfl) (pss_cons (ps_aug (i := 4) scCut.nd rfl (Or.inl rfl) (pv 5) iop_add_str) (pss_one ps_continue)) pss_nil)
        (pss_cons (ps_if (pt_cmpR op_notIn_sign (pv 5) (pv 2) rfl) (pss_one (ps_ret pe_non)) pss_nil)
        (pss_cons (ps_if (pt_truth (pv 4) (by intro _; rfl)) (pss_cons (append_rule (pv 3) (pa_cons (pv 4) pa_nil)) (pss_one (ps_set (i := 4) scCut.nd rfl (Or.inl rfl) pe_str))) pss_nil)
        (pss_one (append_rule (pv 3) (pa_cons (pv 5) pa_nil)))))))
      (pss_cons (ps_if (pt_truth (pv 4) (by intro _; rfl)) (pss_one (append_rule (pv 3) (pa_cons (pv 4) pa_nil))) pss_nil)
      (pss_one (ps_ret (pv 3)))))), ?_⟩
    refine ⟨by show 0 ≤ sizeLine; decide, fun p hp => ?_⟩
    have len' : t.cps.size = (tl t).length := by simp
    refine ⟨_, rfl, t, rfl, for_it walk_str (fun i σ H' => ∃ ps u o5, ((tl t).take i).foldl (cutStep (tl L) (tl S)) (some ([], [])) = some (ps, u) ∧ σ = [some (.str t), some (.str L), some (.str S), some (.ref p), some (sv u), o5] ∧ Same H H' ∧ H' p = some (.lst (ps.map sv)) ∧ u.length ≤ i ∧ ps.length ≤ 2 * i)
      ⟨[], [], none, rfl, rfl, same_new hp, upd_same, Nat.le_refl _, Nat.le_refl _⟩ (fun _ _ _ _ _ => trivial) ?_ ?_⟩
    · rintro i x σ H1 H2 hi ⟨ps, u, o5, ef, rfl, s1, m1, l1, l2⟩ ⟨rfl, c, hc, rfl⟩
      have hi' : i < 30000 := by omega
      have hc' : (tl t)[i]? = some c := by simpa using hc
      have st := cut_step hc' ef
      have B := big
      refine ⟨_, rfl, _, rfl, c, L, rfl, rfl, _, rfl, ?_⟩
      refine ite2 (fun c1 => ?_) (fun c1 => ?_)
      · have c1' : c ∈ tl L := of_decide_eq_true c1
        refine ⟨_, rfl, _, rfl, _, _, rfl, rfl, ?_, ?_⟩
        · rw [toS_len]
          show u.length + 1 ≤ _
          omega
        · refine ⟨ps, u ++ [c], some (.str ⟨#[c]⟩), ?_, ?_, s1, m1, ?_, ?_⟩
          · rw [st]
            exact if_pos c1'
          · have e : toS u ++ (⟨#[c]⟩ : Str) = toS (u ++ [c]) := by rw [toS_one, toS_app]
            show [some (V.str t), some (V.str L), some (V.str S), some (V.ref p), some (V.str (toS u ++ ⟨#[c]⟩)), some (V.str ⟨#[c]⟩)] = _
            rw [e]
            rfl
          · rw [List.length_append]
            show u.length + 1 ≤ _
            omega
          · omega
      · have c1' : c ∉ tl L := fun q => c1 (decide_eq_true q)
        refine ⟨_, rfl, _, rfl, c, S, rfl, rfl, _, rfl, ?_⟩
        by_cases c2 : c ∈ tl S
        · refine if_eq (decide_eq_true c2) ?_
          refine ⟨_, rfl, _, ⟨by rw [toS_len]; omega, rfl⟩, ?_⟩
          have e2 : cutStep (tl L) (tl S) (some (ps, u)) c = some (flush ps u ++ [[c]], []) := cut_sign c1' c2 ps u
          rw [e2] at st
          by_cases c3 : u = []
          · subst c3
            refine iteF ?_
            refine ⟨_, rfl, .inl ⟨rfl, _, .inl (.inl m1)⟩, _, rfl, p, _, _, rfl, rfl, m1, ?_, ?_⟩
            · rw [List.length_map]
              omega
            · refine ⟨_, [], _, st, rfl, same_put s1 hp, ?_, Nat.zero_le _, ?_⟩
              · rw [upd_same, flush_nil, List.map_append]
                rfl
              · rw [flush_nil, List.length_append]
                show ps.length + 1 ≤ _
                omega
          · have c4 : (((toS u).length : Int) != 0) = true := by
              rw [toS_len]
              have : u.length ≠ 0 := fun z => c3 (List.length_eq_zero_iff.mp z)
              simp
              omega
            rw [c4]
            refine iteT ?_
            have ef' : flush ps u = ps ++ [u] := if_neg c3
            rw [ef'] at st
            refine ⟨_, rfl, .inl ⟨rfl, _, .inl (.inl m1)⟩, _, rfl, p, _, _, rfl, rfl, m1, (by rw [List.length_map]; omega), ?_⟩
            have m2 : upd H2 p (.lst (List.map sv ps ++ [.str (toS u)])) p = some (.lst (List.map sv (ps ++ [u]))) := by
              rw [upd_same, List.map_append]
              rfl
            have s2 : Same H (upd H2 p (.lst (List.map sv ps ++ [.str (toS u)]))) := same_put s1 hp
            refine ⟨_, rfl, .inl ⟨rfl, _, .inl (.inl m2)⟩, _, rfl, p, _, _, rfl, rfl, m2, ?_, ?_⟩
            · rw [List.length_map, List.length_append]
              show ps.length + 1 < _
              omega
            · refine ⟨_, [], _, st, rfl, same_put s2 hp, ?_, Nat.zero_le _, ?_⟩
              · rw [upd_same, List.map_append (l₁ := ps ++ [u])]
                rfl
              · rw [List.length_append, List.length_append]
                show ps.length + 1 + 1 ≤ _
                omega
        · have bad : cutM (tl L) (tl S) (tl t) = none := by
            refine cut_bad (i := i + 1) ?_
            rw [st]
            show (if c ∈ tl L then _ else if c ∈ tl S then _ else _) = _
            rw [if_neg c1', if_neg c2]
          rw [decide_eq_false c2]
          exact iteT (no bad _ s1)
    · rintro σ H1 ⟨ps, u, o5, ef, rfl, s1, m1, l1, l2⟩
      have B := big
      have lt : t.cps.size ≤ 30000 := by omega
      have all : (tl t).foldl (cutStep (tl L) (tl S)) (some ([], [])) = some (ps, u) := by
        rw [List.take_of_length_le (Nat.le_of_eq len'.symm)] at ef
        exact ef
      have cm : cutM (tl L) (tl S) (tl t) = some (flush ps u) := by
        unfold cutM
        rw [all]
        rfl
      refine ⟨_, rfl, _, ⟨by rw [toS_len]; omega, rfl⟩, ?_⟩
      by_cases c3 : u = []
      · subst c3
        exact iteF ⟨_, rfl, yes _ p _ cm hp s1 m1⟩
      · have c4 : (((toS u).length : Int) != 0) = true := by
          rw [toS_len]
          have : u.length ≠ 0 := fun z => c3 (List.length_eq_zero_iff.mp z)
          simp
          omega
        rw [c4]
        refine iteT ?_
        have ef' : flush ps u = ps ++ [u] := if_neg c3
        rw [ef'] at cm
        refine ⟨_, rfl, .inl ⟨rfl, _, .inl (.inl m1)⟩, _, rfl, p, _, _, rfl, rfl, m1, (by rw [List.length_map]; omega), ?_⟩
        refine ⟨_, rfl, yes _ p _ cm hp (same_put s1 hp) ?_⟩
        rw [upd_same, List.map_append]
        rfl
end
end K03

namespace K03
open PySem L2 DR DM TL
/-- what the top leaves of the names that are called -/
structure Txt (mg : Str → Option Value) : Prop where
  int : mg "int" = none
  bool : mg "bool" = none
  str : mg "str" = none
  list : mg "list" = none
  tuple : mg "tuple" = none
  set : mg "set" = none
  len : mg "len" = none
  all : mg "all" = none
  sorted : mg "sorted" = none
  isi : mg "isinstance" = none
  enum : mg "enumerate" = none
  range : mg "range" = none
  max : mg "max" = none
  min : mg "min" = none
  lets : ∃ u, mg "LETTERS" = some u ∧ RelV (.str (toS lets)) u
  longest : ∃ u, mg "LONGEST_NAME" = some u ∧ RelV (.int 8) u
  most : ∃ u, mg "MOST_NODES" = some u ∧ RelV (.int 200) u
/-- one def as it is called -/
def Has (P : Program) (w : World) (K : PySem.W.Frag) (mg : Str → Option Value) (base : Heap) (k : Nat) (x : Str) (ps : List Str) (sp : Sp) : Prop :=
  ∃ f fd, FnOk P w K mg base CX0 k f fd ps sp ∧ mg x = some (.ref f) ∧ PySem.W.keepIn K (.ref f) = true ∧ Binds K fd ps []
abbrev sInt : Stmt := top 4
abbrev sName : Stmt := top 6
abbrev sNames : Stmt := top 7
abbrev sIsPath : Stmt := top 24
def spInt (K : PySem.W.Frag) : Sp := fun vs H Q _ => ∃ (x : V) (t : Value) (b1 b2 : Bool), vs = [x] ∧ TyX K H x t ∧ PySem.W.kitOne K t (.type "int") = some b1 ∧ PySem.W.kitOne K t (.type "bool") = some b2 ∧ Q (.bl (b1 && !b2)) H
def spName : Sp := fun vs H Q _ => ∃ t : Str, vs = [.str t] ∧ (tl t).length ≤ 30000 ∧ ∀ H', Same H H' → Q (.bl (isName (tl t))) H'
def spNames (K : PySem.W.Frag) : Sp := fun vs H Q _ => ∃ (p : Addr) (ts : List Str), vs = [.ref p] ∧ H p = some (.lst (ts.map V.str)) ∧ ts.length ≤ 1000 ∧ (∀ t ∈ ts, (tl t).length ≤ 30000) ∧ ∀ H', Same H H' → Q (.bl (areNames (ts.map tl))) H'
theorem nodup_tl {ts : List Str} : ts.Nodup ↔ (ts.map tl).Nodup := by
  induction ts with
  | nil => simp
  | cons t ts ih =>
    rw [List.map_cons, List.nodup_cons, List.nodup_cons, ih]
    refine and_congr_left fun _ => not_congr ⟨fun h => List.mem_map.mpr ⟨t, h, rfl⟩, fun h => ?_⟩
    obtain ⟨z, h1, h2⟩ := List.mem_map.mp h
    exact ext_tl h2 ▸ h1
section
variable {P : Program} {w : World} {K : PySem.W.Frag} {mg : Str → Option Value} {base : Heap}
theorem scInt : FnScope ["value"] ["value"] (defScope sInt) := ⟨rfl, rfl, rfl, by decide +kernel, rfl, by decide +kernel, by decide +kernel⟩
theorem ok_int {f : Addr} {fd : FuncData} (F : Fun K "is_integer" "is_integer" sInt f fd) (T : Txt mg) : FnOk P w K mg base CX0 1 f fd ["value"] (spInt K) := by
  refine F.ok scInt (fun vs H Q E h => ?_) (fun cdv A outer s H vs Q E hr h => ?_)
  · obtain ⟨_, _, _, _, rfl, _⟩ := h
    rfl
  · obtain ⟨x, t, b1, b2, rfl, ty, h1, h2, fin⟩ := h
    refine ⟨_, pss_one (ps_ret (pe_and (pe_callB call_isi (by rfl) T.isi PyProof.Rows.boot_isinstance (pa_cons (pv 0) (pa_cons (pe_bltn (v := .ty "int") (by rfl) T.int (by decide +kernel) rfl) pa_nil)))
      (pe_one (pe_not (pe_callB call_isi (by rfl) T.isi PyProof.Rows.boot_isinstance (pa_cons (pv 0) (pa_cons (pe_bltn (v := .ty "bool") (by rfl) T.bool (by decide +kernel) rfl) pa_nil))))))), ?_⟩
    refine ⟨_, rfl, x, _, t, _, b1, rfl, .ty _, ty, h1, b1, rfl, ?_⟩
    cases b1 with
    | false => exact iteF fin
    | true => exact iteT ⟨_, rfl, x, _, t, _, b2, rfl, .ty _, ty, h2, b2, rfl, fin⟩
theorem scName : FnScope ["value", "sign"] ["value"] (defScope sName) := ⟨rfl, rfl, rfl, by decide +kernel, rfl, by decide +kernel, by decide +kernel⟩
theorem ok_name {f : Addr} {fd : FuncData} (F : Fun K "is_name" "is_name" sName f fd) (T : Txt mg) : FnOk P w K mg base CX0 1 f fd ["value"] spName := by
  obtain ⟨uL, mL, rL⟩ := T.lets
  obtain ⟨uN, mN, rN⟩ := T.longest
  refine F.ok scName (fun vs H Q E h => ?_) (fun cdv A outer s H vs Q E hr h => ?_)
  · obtain ⟨_, rfl, _⟩ := h
    rfl
  · obtain ⟨t, rfl, len, fin⟩ := h
    refine ⟨_, pss_cons (ps_if (PW.pt (pw_or (pt_not (pt_val (pe_callB call_isi (by rfl) T.isi PyProof.Rows.boot_isinstance (pa_cons (pv 0) (pa_cons (pe_bltn (v := .ty "str") (by rfl) T.str (by decide +kernel) rfl) pa_nil)))))
        (pw_or1 (pt_not (pt_chain op_le op_le pe_int (pe_callB call_len_str (by rfl) T.len PySem.boot_len (pa_cons (pv 0) pa_nil)) (pe_glob (v := .int 8) (by rfl) mN rN)))))) (pss_one (ps_ret pe_bl)) pss_nil)
      (pss_one (ps_ret (pe_callB (cr_all rfl) (by rfl) T.all PyProof.Rows.boot_all (pa_cons (pe_lc (own := [("sign", 1)]) (g := gName 1) (tt := tYes) rfl scName.nd (pi_str (pv 0))
        (blkOk_by (N := ["value", "sign"]) (sc := defScope sName) (by decide +kernel)) (fun _ _ _ _ _ => pg_name (i := 1) scName.nd rfl (Or.inl rfl)) (fun _ _ _ _ _ => pts_nil)
        (fun _ _ _ _ _ => pe_cmpR op_in_sign (pv 1) (pe_glob (v := .str (toS lets)) (by rfl) mL rL) rfl)) pa_nil)))), ?_⟩
    have B := big
    have len' : t.cps.size = (tl t).length := by simp
    have tlen : t.length = (tl t).length := len_tl t
    refine ⟨_, rfl, .str t, _, .type "str", _, true, rfl, .ty _, .base (.str t), by rfl, true, rfl, ?_⟩
    refine iteF ⟨_, rfl, t, rfl, by omega, _, _, rfl, rfl, _, rfl, ?_⟩
    have short : ¬ (1 ≤ (tl t).length ∧ (tl t).length ≤ 8) → isName (tl t) = false := fun n => by
      unfold isName
      cases e : (decide (1 ≤ (tl t).length) && decide ((tl t).length ≤ 8)) with
      | false => rfl
      | true =>
        simp only [Bool.and_eq_true, decide_eq_true_eq] at e
        exact absurd e n
    refine ite2 (fun c1 => ?_) (fun c1 => ?_)
    · have c1' := of_decide_eq_true c1
      refine ⟨_, _, rfl, rfl, _, rfl, ?_⟩
      by_cases c2 : ((t.length : Nat) : Int) ≤ 8
      · refine if_eq (decide_eq_true c2) ?_
        refine ⟨_, rfl, t, rfl, fun D hD => lc_it walk_str (fun i H' => H' = upd H D (.lst (((tl t).take i).map fun c => V.bl (decide (c ∈ lets))))) rfl (fun _ _ _ _ => trivial) ?_ ?_⟩
        · rintro i x H1 H2 hi rfl ⟨rfl, c, hc, rfl⟩
          refine ⟨rfl, ?_⟩
          unfold tYes
          refine iteT ⟨_, rfl, c, toS lets, rfl, rfl, _, upd_same, ?_, ?_⟩
          · rw [List.length_map]
            exact Nat.lt_of_le_of_lt (List.length_take_le _ _) (by omega)
          · have hc' : (tl t)[i]? = some c := by simpa using hc
            rw [upd_upd, List.take_succ, hc', List.map_append]
            rfl
        · rintro H1 rfl
          refine ⟨D, (tl t).map fun c => decide (c ∈ lets), rfl, SqL.of ?_, ?_⟩
          · rw [upd_same, List.map_map, len', List.take_length]
            rfl
          · have : isName (tl t) = ((tl t).map fun c => decide (c ∈ lets)).all id := by
              unfold isName
              rw [decide_eq_true (show 1 ≤ (tl t).length by omega), decide_eq_true (show (tl t).length ≤ 8 by omega), List.all_map]
              rfl
            rw [← this]
            exact fin _ (same_new hD)
      · rw [decide_eq_false c2]
        refine iteT ?_
        have e := short fun q => c2 (by omega)
        rw [e] at fin
        exact fin _ (Same.refl _)
    · have c1' : ¬ (1 : Int) ≤ ((t.length : Nat) : Int) := fun q => c1 (decide_eq_true q)
      have e := short fun q => c1' (by omega)
      rw [e] at fin
      exact ⟨_, rfl, iteT (fin _ (Same.refl _))⟩
theorem scNames : FnScope ["values", "value"] ["values"] (defScope sNames) := ⟨rfl, rfl, rfl, by decide +kernel, rfl, by decide +kernel, by decide +kernel⟩
theorem ok_names {f : Addr} {fd : FuncData} (F : Fun K "are_names" "are_names" sNames f fd) (T : Txt mg) (D : Has P w K mg base 1 "is_name" ["value"] spName) : FnOk P w K mg base CX0 2 f fd ["values"] (spNames K) := by
  obtain ⟨fN, fdN, GN, mN, kN, bN⟩ := D
  refine F.ok scNames (fun vs H Q E h => ?_) (fun cdv A outer s H vs Q E hr h => ?_)
  · obtain ⟨_, _, rfl, _⟩ := h
    rfl
  · obtain ⟨p, ts, rfl, hp, few, len, fin⟩ := h
    have hr1 : Room 1 _ := hr.mono (by decide)
    refine ⟨_, pss_cons (ps_if (pt_not (pt_val (pe_callB call_isiT (by rfl) T.isi PyProof.Rows.boot_isinstance (pa_cons (pv 0) (pa_cons (pe_tup (pa_cons (pe_bltn (v := .ty "list") (by rfl) T.list (by decide +kernel) rfl) (pa_cons (pe_bltn (v := .ty "tuple") (by rfl) T.tuple (by decide +kernel) rfl) pa_nil))) pa_nil))))) (pss_one (ps_ret pe_bl)) pss_nil)
      (pss_one (ps_ret (pe_and (pe_callB (cr_all rfl) (by rfl) T.all PyProof.Rows.boot_all (pa_cons (pe_lc (own := [("value", 1)]) (g := gName 1) (tt := tYes) rfl scNames.nd (pi_list (pv 0))
        (blkOk_by (N := ["values", "value"]) (sc := defScope sNames) (by decide +kernel)) (fun _ _ _ _ _ => pg_name (i := 1) scNames.nd rfl (Or.inl rfl)) (fun _ _ _ _ _ => pts_nil)
        (fun _ _ _ _ _ => pe_call GN hr1 (by rfl) mN kN bN .nil pass0 (pa_cons (pv 1) pa_nil))) pa_nil))
        (pe_one (pe_cmpR op_eq (pe_lenSetT rfl (by rfl) T.len (by rfl) T.set (pv 0)) (pe_callB call_len_seq (by rfl) T.len PySem.boot_len (pa_cons (pv 0) pa_nil)) rfl))))), ?_⟩
    have B := big
    refine ⟨_, rfl, by show 2 ≤ sizeLine; decide, fun q hq => ?_⟩
    generalize g1 : upd H q _ = H1
    have s1 : Same H H1 := g1 ▸ same_new hq
    have m1 : H1 q = some (.tup [.ty "list", .ty "tuple"]) := g1 ▸ upd_same
    refine ⟨.ref p, q, _, .type "list", _, true, rfl, m1, .cons (.ty _) (.cons (.ty _) .nil), .base (.lst (s1 _ _ hp)), by rfl, true, rfl, ?_⟩
    refine iteF ⟨_, rfl, p, rfl, ⟨_, SqL.of (s1 _ _ hp)⟩, fun D hD => lc_it (walk_list (K := K) (a := p) (xs := ts.map V.str)) (fun i H' => Same H1 H' ∧ H' D = some (.lst ((ts.take i).map fun t => V.bl (isName (tl t)))))
      ⟨same_new hD, upd_same⟩ (fun i H' _ ⟨s, _⟩ => s.seq (SqL.of (s1 _ _ hp))) ?_ ?_⟩
    · rintro i x H2 H3 hi ⟨s2, m2⟩ ⟨rfl, hx⟩
      rw [List.getElem?_map] at hx
      obtain ⟨t, ht, rfl⟩ := Option.map_eq_some_iff.mp hx
      refine ⟨rfl, ?_⟩
      unfold tYes
      refine iteT ⟨_, rfl, t, rfl, len t (List.mem_of_getElem? ht), fun H4 s4 => ⟨_, s4 _ _ m2, ?_, ?_, ?_⟩⟩
      · rw [List.length_map]
        exact Nat.lt_of_le_of_lt (List.length_take_le _ _) (by rw [List.length_map] at hi; omega)
      · exact same_put (s2.trans s4) hD
      · rw [upd_same, List.take_succ, ht, List.map_append]
        rfl
    · rintro H2 ⟨s2, m2⟩
      rw [List.length_map, List.take_length] at m2
      refine ⟨D, ts.map fun t => isName (tl t), rfl, SqL.of (by rw [m2, List.map_map]; rfl), _, rfl, ?_⟩
      have all : (ts.map fun t => isName (tl t)).all id = (ts.map tl).all isName := by
        rw [List.all_map, List.all_map]
        rfl
      rw [all]
      refine ite2 (fun c1 => ?_) (fun c1 => ?_)
      · refine ⟨_, rfl, p, ts, rfl, SqL.of (s2 _ _ (s1 _ _ hp)), by unfold PySem.scanBound; omega, fun c hc => ⟨_, rfl, p, _, rfl, .inl (SqL.of (s2 _ _ (s1 _ _ hp))), ?_⟩⟩
        have e : areNames (ts.map tl) = decide (V.int (c : Int) = V.int (((ts.map V.str).length : Nat) : Int)) := by
          unfold areNames
          rw [c1, Bool.true_and, List.length_map, decide_eq_decide, ← nodup_tl, ← hc]
          exact ⟨fun q => by rw [q], fun q => by injection q with q; omega⟩
        rw [e] at fin
        exact ⟨rfl, fin _ (s1.trans s2)⟩
      · have e : areNames (ts.map tl) = false := by
          unfold areNames
          rw [Bool.eq_false_iff.mpr c1]
          rfl
        rw [e] at fin
        exact fin _ (s1.trans s2)
end
end K03

namespace K03
open PySem L2 DR DM TL
theorem cut_from (xs : List V) (k : Nat) : cutV xs (some (k : Int)) none = xs.drop k := by
  unfold cutV
  rw [HT.sIx_nat, HT.sIx_none]
  by_cases h : k ≤ xs.length
  · rw [Nat.min_eq_left h, List.take_of_length_le]
    rw [List.length_drop]
    exact Nat.le_refl _
  · rw [Nat.min_eq_right (by omega), Nat.sub_self, List.take_zero, List.drop_eq_nil_iff.mpr (by omega)]
theorem spl_len (S : List Nat) : ∀ (l : List Nat) (k : Nat) (acc : List Nat), ∀ w ∈ spl S k acc l, w.length ≤ acc.length + l.length
  | [], k, acc, w, h => by
    rw [spl_nil] at h
    rw [List.mem_singleton.mp h]
    exact Nat.le_add_right _ _
  | c :: r, 0, acc, w, h => by
    by_cases p : pre S (c :: r) = true
    · rw [spl_hit p] at h
      rcases List.mem_cons.mp h with rfl | h
      · exact Nat.le_add_right _ _
      · have := spl_len S r _ [] w h
        simp only [List.length_nil, List.length_cons] at this ⊢
        omega
    · rw [spl_miss (Bool.eq_false_iff.mpr p)] at h
      have := spl_len S r _ _ w h
      simp only [List.length_append, List.length_cons, List.length_nil] at this ⊢
      omega
  | c :: r, k + 1, acc, w, h => by
    have := spl_len S r k acc w h
    simp only [List.length_cons]
    omega
theorem spl_ne (S : List Nat) : ∀ (l : List Nat) (k : Nat) (acc : List Nat), spl S k acc l ≠ []
  | [], k, acc => by
    rw [spl_nil]
    exact fun z => nomatch z
  | c :: r, 0, acc => by
    by_cases p : pre S (c :: r) = true
    · rw [spl_hit p]
      exact fun z => nomatch z
    · rw [spl_miss (Bool.eq_false_iff.mpr p)]
      exact spl_ne S r _ _
  | c :: r, k + 1, acc => spl_ne S r k acc
theorem split_dot (t : Str) : (Txt.split t ".").map tl = spl [46] 0 [] (tl t) := by
  refine split_spl t "." (by decide) ?_
  have h1 : Builtin.Str.strKind "." = 1 := by decide +kernel
  rw [h1]
  unfold Builtin.Str.strKind
  split
  · decide
  · split <;> decide
abbrev sHead : Stmt := top 20
def spHead : Sp := fun vs H Q _ => ∃ t : Str, vs = [.str t] ∧ (tl t).length ≤ 30000 ∧ (spl [46] 0 [] (tl t)).length < 64 ∧ (headM srt (tl t) = none → ∀ H', Same H H' → Q .non H') ∧
  ∀ k ms p m H', headM srt (tl t) = some (k, ms) → H p = none → Same H H' → H' p = some (.tup [sv k, .ref m]) → H' m = some (.tup (ms.map sv)) → Q (.ref p) H'
section
variable {P : Program} {w : World} {K : PySem.W.Frag} {mg : Str → Option Value} {base : Heap}
theorem scHead : FnScope ["text", "names", "marks"] ["text"] (defScope sHead) := ⟨rfl, rfl, rfl, by decide +kernel, rfl, by decide +kernel, by decide +kernel⟩
theorem ok_head {f : Addr} {fd : FuncData} (F : Fun K "read_head" "read_head" sHead f fd) (T : Txt mg) (D1 : Has P w K mg base 1 "is_name" ["value"] spName) (D2 : Has P w K mg base 2 "are_names" ["values"] (spNames K)) :
    FnOk P w K mg base CX0 3 f fd ["text"] spHead := by
  obtain ⟨fN, fdN, GN, mN, kN, bN⟩ := D1
  obtain ⟨fA, fdA, GA, mA, kA, bA⟩ := D2
  refine F.ok scHead (fun vs H Q E h => ?_) (fun cdv A outer s H vs Q E hr h => ?_)
  · obtain ⟨_, rfl, _⟩ := h
    rfl
  · obtain ⟨t, rfl, len, few, no, yes⟩ := h
    have hr1 : Room 1 _ := hr.mono (by decide)
    refine ⟨_, pss_cons (ps_set (i := 1) scHead.nd rfl (Or.inl rfl) (pe_split (pv 0) pe_str))
      (pss_cons (ps_set (i := 2) scHead.nd rfl (Or.inl rfl) (pe_slice sl_list (pv 1) (po_some pe_int) po_none))
      (pss_cons (ps_if (PW.pt (pw_or (pt_not (pt_val (pe_call GN hr1 (by rfl) mN kN bN .nil pass0 (pa_cons (pe_ix ix_list (pv 1) pe_int (fun _ _ => rfl)) pa_nil))))
        (pw_or1 (pt_not (pt_val (pe_call GA hr (by rfl) mA kA bA .nil pass0 (pa_cons (pv 2) pa_nil))))))) (pss_one (ps_ret pe_non)) pss_nil)
      (pss_one (ps_ret (pe_tup (pa_cons (pe_ix ix_list (pv 1) pe_int (fun _ _ => rfl)) (pa_cons (pe_callTy call_tuple_of (by rfl) T.tuple (by decide +kernel)
        (pa_cons (pe_callB cr_sortedS (by rfl) T.sorted PyProof.Rows.boot_sorted (pa_cons (pv 2) pa_nil)) pa_nil)) pa_nil))))))), ?_⟩
    have B := big
    have tlen : t.length = (tl t).length := len_tl t
    have sd := split_dot t
    obtain ⟨k, ms, ek⟩ : ∃ k ms, Txt.split t "." = k :: ms := by
      cases e : Txt.split t "." with
      | nil =>
        rw [e] at sd
        exact absurd sd.symm (spl_ne _ _ _ _)
      | cons k ms => exact ⟨k, ms, rfl⟩
    rw [ek, List.map_cons] at sd
    have small : ∀ w ∈ tl k :: ms.map tl, w.length ≤ 30000 := fun w h => by
      have := spl_len [46] (tl t) 0 [] w (sd ▸ h)
      rw [List.length_nil] at this
      omega
    have hM : headM srt (tl t) = if isName (tl k) = true ∧ areNames (ms.map tl) = true then some (tl k, srt (ms.map tl)) else none := by
      unfold headM
      rw [← sd]
    have few' : ms.length + 1 < 64 := by
      rw [← sd, List.length_cons, List.length_map] at few
      exact few
    refine ⟨_, rfl, ⟨t, rfl⟩, t, ".", rfl, rfl, by decide, by omega, fun p hp => ?_⟩
    rw [ek]
    generalize g1 : upd H p _ = H1
    have s1 : Same H H1 := g1 ▸ same_new hp
    have m1 : H1 p = some (.lst ((k :: ms).map V.str)) := g1 ▸ upd_same
    refine ⟨_, rfl, _, rfl, p, _, rfl, SqL.of m1, fun q hq => ?_⟩
    have ct : cutV ((k :: ms).map V.str) (some 1) none = ms.map V.str := cut_from ((k :: ms).map V.str) 1
    rw [ct]
    generalize g2 : upd H1 q _ = H2
    have s2 : Same H1 H2 := g2 ▸ same_new hq
    have m2 : H2 q = some (.lst (ms.map V.str)) := g2 ▸ upd_same
    refine ⟨_, rfl, p, _, 0, _, rfl, rfl, SqL.of (s2 _ _ m1), atI_nat (j := 0) rfl, k, rfl, small _ (List.mem_cons_self ..), fun H3 s3 => ⟨_, rfl, ?_⟩⟩
    have no' : ¬ (isName (tl k) = true ∧ areNames (ms.map tl) = true) → ∀ H', Same H2 H' → Q .non H' := fun c H' s => no (by rw [hM, if_neg c]) _ (s1.trans (s2.trans s))
    refine ite2 (fun c1 => ?_) (fun c1 => ?_)
    · exact iteT (no' (fun c => by rw [c.1] at c1; exact absurd c1 (by decide)) _ s3)
    · have c1' : isName (tl k) = true := by simpa using c1
      refine ⟨_, rfl, q, ms, rfl, s3 _ _ m2, by omega, fun u hu => small _ (List.mem_cons_of_mem _ (List.mem_map.mpr ⟨u, hu, rfl⟩)), fun H4 s4 => ⟨_, rfl, ?_⟩⟩
      refine ite2 (fun c2 => ?_) (fun c2 => ?_)
      · exact no' (fun c => by rw [c.2] at c2; exact absurd c2 (by decide)) _ (s3.trans s4)
      · have c2' : areNames (ms.map tl) = true := by simpa using c2
        have s5 := s3.trans s4
        refine ⟨_, rfl, p, _, 0, _, rfl, rfl, SqL.of (s5 _ _ (s2 _ _ m1)), atI_nat (j := 0) rfl, _, rfl, q, ms, rfl, SqL.of (s5 _ _ m2), by omega, fun ys a pe so ha => ?_⟩
        refine ⟨a, _, rfl, .inl ⟨SqL.of upd_same, fun b hb => ⟨by show 2 ≤ sizeLine; decide, fun c hc => ?_⟩⟩⟩
        have es : (srt (ms.map tl)).map sv = ys.map V.str := by
          rw [srt_eq (pe.map tl) (rises_of so), List.map_map]
          refine List.map_congr_left fun y _ => ?_
          show V.str (toS (tl y)) = V.str y
          rw [toS_tl]
        refine yes (tl k) (srt (ms.map tl)) c b _ (by rw [hM, if_pos ⟨c1', c2'⟩]) ?_ ?_ ?_ ?_
        · exact (s1.trans (s2.trans s5)).free ((same_new ha).free ((same_new hb).free hc))
        · exact (s1.trans (s2.trans s5)).trans ((same_new ha).trans ((same_new hb).trans (same_new hc)))
        · rw [upd_same, show sv (tl k) = V.str k from congrArg V.str (toS_tl k)]
        · rw [upd_ne (ne_of_none upd_same hc), upd_same, es]
end
end K03

namespace K03
open PySem L2 DR DM TL
/-- a node's row: the tuple of the depth, the kind and the marks -/
def RowAt (H : Hp) (v : V) (r : Row) : Prop := ∃ a m, v = .ref a ∧ H a = some (.tup [.int (r.1 : Nat), sv r.2.1, .ref m]) ∧ H m = some (.tup (r.2.2.map sv))
theorem RowAt.same {H H' : Hp} {v : V} {r : Row} (s : Same H H') (h : RowAt H v r) : RowAt H' v r :=
  let ⟨a, m, e, h1, h2⟩ := h
  ⟨a, m, e, s _ _ h1, s _ _ h2⟩
theorem RowAt.put {H : Hp} {k : Addr} {xs : List V} {o : HO} {v : V} {r : Row} (hk : H k = some (.lst xs)) (h : RowAt H v r) : RowAt (upd H k o) v r :=
  let ⟨a, m, e, h1, h2⟩ := h
  ⟨a, m, e, by rw [upd_ne (ne_of h1 hk (fun z => by cases z))]; exact h1, by rw [upd_ne (ne_of h2 hk (fun z => by cases z))]; exact h2⟩
abbrev RowsAt (H : Hp) (vs : List V) (rs : List Row) : Prop := Paired (RowAt H) vs rs
theorem RowsAt.same {H H' : Hp} {vs : List V} {rs : List Row} (s : Same H H') (h : RowsAt H vs rs) : RowsAt H' vs rs := Paired.mapP h fun _ _ q => q.same s
theorem RowsAt.put {H : Hp} {k : Addr} {xs : List V} {o : HO} {vs : List V} {rs : List Row} (hk : H k = some (.lst xs)) (h : RowsAt H vs rs) : RowsAt (upd H k o) vs rs := Paired.mapP h fun _ _ q => q.put hk
theorem cut_flat {L S : List Nat} : ∀ (t : W) (ps0 ps : List W) (w0 w : W), t.foldl (cutStep L S) (some (ps0, w0)) = some (ps, w) → ps.flatten ++ w = ps0.flatten ++ w0 ++ t ∧ ps.length ≤ ps0.length + 2 * t.length
  | [], ps0, ps, w0, w, h => by
    injection h with h
    injection h with h1 h2
    subst h1 h2
    simp
  | c :: t, ps0, ps, w0, w, h => by
    rw [List.foldl_cons] at h
    by_cases c1 : c ∈ L
    · rw [show cutStep L S (some (ps0, w0)) c = some (ps0, w0 ++ [c]) from if_pos c1] at h
      obtain ⟨h1, h2⟩ := cut_flat t _ _ _ _ h
      refine ⟨by rw [h1]; simp, ?_⟩
      rw [List.length_cons]
      omega
    · by_cases c2 : c ∈ S
      · rw [cut_sign c1 c2] at h
        obtain ⟨h1, h2⟩ := cut_flat t _ _ _ _ h
        unfold flush at h1 h2
        split at h1
        · rename_i e
          subst e
          refine ⟨by rw [h1]; simp, ?_⟩
          simp at h2 ⊢
          omega
        · rename_i e
          rw [if_neg e] at h2
          refine ⟨by rw [h1]; simp, ?_⟩
          simp at h2 ⊢
          omega
      · rw [show cutStep L S (some (ps0, w0)) c = none from by show (if c ∈ L then _ else if c ∈ S then _ else _) = _; rw [if_neg c1, if_neg c2], cut_none] at h
        cases h
theorem cut_small {L S : List Nat} {t : W} {ps : List W} (h : cutM L S t = some ps) : (∀ p ∈ ps, p.length ≤ t.length) ∧ ps.length ≤ 2 * t.length + 1 := by
  unfold cutM at h
  cases e : t.foldl (cutStep L S) (some ([], [])) with
  | none =>
    rw [e] at h
    cases h
  | some x =>
    rw [e] at h
    injection h with h
    have h : flush x.1 x.2 = ps := h
    obtain ⟨h1, h2⟩ := cut_flat t [] x.1 [] x.2 e
    have fl : ps.flatten = t := by
      rw [← h]
      unfold flush
      split
      · rename_i e2
        rw [e2] at h1
        simpa using h1
      · simpa using h1
    refine ⟨fun p hp => ?_, ?_⟩
    · rw [← fl]
      exact List.Sublist.length_le (List.sublist_flatten_of_mem hp)
    · rw [← h]
      unfold flush
      split
      · simp at h2
        omega
      · simp at h2 ⊢
        omega
theorem toS_inj {u v : W} (h : toS u = toS v) : u = v := by
  have := congrArg tl h
  exact this
theorem sv_is (u v : W) : decide (sv u = sv v) = decide (u = v) := by
  rw [decide_eq_decide]
  exact ⟨fun h => toS_inj (by injection h), fun h => by rw [h]⟩
theorem s_open : V.str "(" = sv [40] := by decide +kernel
theorem s_shut : V.str ")" = sv [41] := by decide +kernel
theorem s_comma : V.str "," = sv [44] := by decide +kernel
theorem eqV_sv (u v : W) : eqV (sv u) (sv v) = decide (u = v) := by
  show (toS u == toS v) = _
  by_cases h : u = v
  · rw [h, decide_eq_true rfl]
    exact beq_self_eq_true _
  · rw [decide_eq_false h]
    exact beq_eq_false_iff_ne.mpr fun z => h (toS_inj z)
theorem in_two (b : W) : (if false = true then !inV (sv b) [.str "(", .str ","] else inV (sv b) [.str "(", .str ","]) = decide (b = [40] ∨ b = [44]) := by
  rw [if_neg (by decide), s_open, s_comma]
  unfold inV
  rw [List.any_cons, List.any_cons, List.any_nil, eqV_sv, eqV_sv, Bool.or_false]
  by_cases h1 : b = [40]
  · subst h1
    decide
  · by_cases h2 : b = [44]
    · subst h2
      decide
    · rw [decide_eq_false (fun z => h1 z.symm), decide_eq_false (fun z => h2 z.symm), decide_eq_false (fun z => z.elim h1 h2)]
      rfl
theorem read_none : ∀ l : List W, l.foldl (readStep srt) none = none
  | [] => rfl
  | _ :: l => read_none l
abbrev sRows : Stmt := top 19
def spRows : Sp := fun vs H Q _ => ∃ t : Str, vs = [.str t] ∧ (tl t).length ≤ 30000 ∧ (∀ ps, cutM LD SG (tl t) = some ps → ∀ p ∈ ps, (spl [46] 0 [] p).length < 64) ∧
  ((cutM LD SG (tl t)).bind (readM srt) = none → ∀ H', Same H H' → Q .non H') ∧
  ∀ rs p vs H', (cutM LD SG (tl t)).bind (readM srt) = some rs → rs.length ≤ 60001 → H p = none → Same H H' → H' p = some (.lst vs) → RowsAt H' vs rs → Q (.ref p) H'
section
variable {P : Program} {w : World} {K : PySem.W.Frag} {mg : Str → Option Value} {base : Heap}
theorem scRows : FnScope ["text", "pieces", "rows", "depth", "before", "piece", "head"] ["text"] (defScope sRows) := ⟨rfl, rfl, rfl, by decide +kernel, rfl, by decide +kernel, by decide +kernel⟩
theorem ok_rows {f : Addr} {fd : FuncData} (F : Fun K "read_rows" "read_rows" sRows f fd) (T : Txt mg) (D1 : Has P w K mg base 1 "cut" ["text", "letters", "signs"] spCut) (D2 : Has P w K mg base 3 "read_head" ["text"] spHead) :
    FnOk P w K mg base CX0 4 f fd ["text"] spRows := by
  obtain ⟨uL, mL, rL⟩ := T.lets
  obtain ⟨fC, fdC, GC, mC, kC, bC⟩ := D1
  obtain ⟨fH, fdH, GH, mH, kH, bH⟩ := D2
  refine F.ok scRows (fun vs H Q E h => ?_) (fun cdv A outer s H vs Q E hr h => ?_)
  · obtain ⟨_, rfl, _⟩ := h
    rfl
  · obtain ⟨t, rfl, len, few, no, yes⟩ := h
    have hr1 : Room 1 _ := hr.mono (by decide)
    refine ⟨_, pss_cons (ps_set (i := 1) scRows.nd rfl (Or.inl rfl) (pe_call GC hr1 (by rfl) mC kC bC .nil pass0 (pa_cons (pv 0) (pa_cons (pe_op op_add_str (pe_glob (v := .str (toS lets)) (by rfl) mL rL) pe_str) (pa_cons pe_str pa_nil)))))
      (pss_cons (ps_if (pt_cmpR op_isN (pv 1) pe_non rfl) (pss_one (ps_ret pe_non)) pss_nil)
      (pss_cons (ps_set (i := 2) scRows.nd rfl (Or.inl rfl) (pe_lst pa_nil))
      (pss_cons (ps_set (i := 3) scRows.nd rfl (Or.inl rfl) pe_int)
      (pss_cons (ps_set (i := 4) scRows.nd rfl (Or.inl rfl) pe_str)
      (pss_cons (ps_for PassesOwn.never rfl (pi_list (pv 1)) (pg_name (i := 5) scRows.nd rfl (Or.inl rfl))
        (pss_cons (ps_if (pt_cmpR op_in_seq (pv 4) (pe_tup (pa_cons pe_str (pa_cons pe_str pa_nil))) rfl)
            (pss_cons (ps_set (i := 6) scRows.nd rfl (Or.inl rfl) (pe_call GH hr (by rfl) mH kH bH .nil pass0 (pa_cons (pv 5) pa_nil)))
            (pss_cons (ps_if (pt_cmpR op_isN (pv 6) pe_non rfl) (pss_one (ps_ret pe_non)) pss_nil)
            (pss_one (append_rule (pv 2) (pa_cons (pe_tup (pa_cons (pv 3) (StX.pa_star (pv 6) pa_nil))) pa_nil)))))
            (pss_one (ps_if (PW.pt (pw_and (pt_cmpR op_eq (pv 5) pe_str rfl) (pw_and1 (pt_cmpR op_ne (pv 4) pe_str rfl)))) (pss_one (ps_aug (i := 3) scRows.nd rfl (Or.inl rfl) pe_int iop_add))
            (pss_one (ps_if (PW.pt (pw_and (pt_cmpR op_eq (pv 5) pe_str rfl) (pw_and1 (pt_cmpR op_gt (pv 3) pe_int rfl)))) (pss_one (ps_aug (i := 3) scRows.nd rfl (Or.inl rfl) pe_int iop_sub))
            (pss_one (ps_if (PW.pt (pw_or (pt_cmpR op_ne (pv 5) pe_str rfl) (pw_or1 (pt_cmpR op_eq (pv 3) pe_int rfl)))) (pss_one (ps_ret pe_non)) pss_nil)))))))
        (pss_one (ps_set (i := 4) scRows.nd rfl (Or.inl rfl) (pv 5)))))
      (pss_cons (ps_if (PW.pt (pw_or (pt_cmpR op_gt (pv 3) pe_int rfl) (pw_or1 (pt_cmpR op_in_seq (pv 4) (pe_tup (pa_cons pe_str (pa_cons pe_str pa_nil))) rfl)))) (pss_one (ps_ret pe_non)) pss_nil)
      (pss_one (ps_ret (pv 2))))))))), ?_⟩
    have B := big
    have e1 : tl (toS lets ++ ".") = LD := by decide +kernel
    have e2 : tl ("(),") = SG := by decide +kernel
    refine ⟨_, rfl, _, _, rfl, rfl, by decide +kernel, t, _, _, rfl, len, ?_, ?_⟩
    · rw [e1, e2]
      intro e H1 s1
      rw [e] at no
      refine ⟨_, rfl, rfl, true, rfl, iteT ?_⟩
      exact no rfl _ s1
    rw [e1, e2]
    intro ps p H1 e hp s1 m1
    rw [e] at no yes
    obtain ⟨cs1, cs2⟩ := cut_small e
    refine ⟨_, rfl, rfl, false, rfl, iteF ?_⟩
    refine ⟨by show 0 ≤ sizeLine; decide, fun r hr0 => ?_⟩
    generalize g2 : upd H1 r _ = H2
    have s2 : Same H1 H2 := g2 ▸ same_new hr0
    have m2 : H2 r = some (.lst []) := g2 ▸ upd_same
    have pp : H2 p = some (.lst (ps.map sv)) := s2 _ _ m1
    refine ⟨_, rfl, p, rfl, ⟨_, SqL.of pp⟩, for_it (walk_list (K := K) (a := p) (xs := ps.map sv)) (fun i σ H' => ∃ d b rs vs o6 o7, (ps.take i).foldl (readStep srt) (some (0, [44], [])) = some (d, b, rs) ∧
        σ = [some (.str t), some (.ref p), some (.ref r), some (.int (d : Nat)), some (sv b), o6, o7] ∧ Same H1 H' ∧ H' r = some (.lst vs) ∧ RowsAt H' vs rs ∧ rs.length ≤ i ∧ d ≤ i)
      ⟨0, [44], [], [], none, none, rfl, rfl, s2, m2, .nil, Nat.le_refl _, Nat.le_refl _⟩ ?_ ?_ ?_⟩
    · rintro i σ H' _ ⟨_, _, _, _, _, _, _, _, s, _⟩
      exact s.seq (SqL.of m1)
    · rintro i x σ H0 H3 hi ⟨d, b, rs, vs, o6, o7, ef, rfl, s3, m3, ra, l1, l2⟩ ⟨rfl, hx⟩
      rw [List.getElem?_map] at hx
      obtain ⟨u, hu, rfl⟩ := Option.map_eq_some_iff.mp hx
      rw [List.length_map] at hi
      have st : (ps.take (i + 1)).foldl (readStep srt) (some (0, [44], [])) = readStep srt (some (d, b, rs)) u := by
        rw [List.take_succ, hu, List.foldl_append, ef]
        rfl
      have mu := List.mem_of_getElem? hu
      have bad : readStep srt (some (d, b, rs)) u = none → readM srt ps = none := fun z => by
        have : ps.foldl (readStep srt) (some (0, [44], [])) = none := by
          rw [← List.take_append_drop (i + 1) ps, List.foldl_append, st, z, read_none]
        unfold readM
        rw [this]
      refine ⟨_, rfl, by show 2 ≤ sizeLine; decide, fun q hq => ?_⟩
      generalize g4 : upd H3 q _ = H4
      have s4 : Same H3 H4 := g4 ▸ same_new hq
      have m4 : H4 q = some (.tup [.str "(", .str ","]) := g4 ▸ upd_same
      have r4 := s4 _ _ m3
      have a4 := ra.same s4
      refine ⟨q, _, rfl, .inr (.inl (.inl m4)), rfl, rfl, _, congrArg V.bl (in_two b), ?_⟩
      refine ite2 (fun c1 => ?_) (fun c1 => ?_)
      · -- a node is asked for
        have c1' := of_decide_eq_true c1
        have rs1 : readStep srt (some (d, b, rs)) u = match headM srt u with | none => none | some (k, ms) => some (d, u, rs ++ [(d, k, ms)]) := if_pos c1'
        refine ⟨_, rfl, toS u, rfl, Nat.le_trans (cs1 u mu) len, few _ e u mu, fun z H5 s5 => ?_, fun k ms p5 m5 H5 z n5 s5 t5 k5 => ?_⟩
        · refine ⟨_, rfl, rfl, true, rfl, iteT ?_⟩
          exact no (bad (by rw [rs1, show headM srt u = none from z])) _ (s1.trans (s3.trans (s4.trans s5)))
        · refine ⟨_, rfl, rfl, false, rfl, iteF ?_⟩
          refine ⟨_, rfl, .inl ⟨rfl, _, .inl (.inl (s5 _ _ r4))⟩, _, rfl, _, rfl, p5, _, rfl, .inl (.inl (.inl t5)), by show 3 ≤ sizeLine; decide, fun p6 n6 => ?_⟩
          generalize g6 : upd H5 p6 _ = H6
          have s6 : Same H5 H6 := g6 ▸ same_new n6
          have m6 : H6 p6 = some (.tup [.int (d : Nat), sv k, .ref m5]) := g6 ▸ upd_same
          have r6 := s6 _ _ (s5 _ _ r4)
          refine ⟨r, _, _, rfl, rfl, r6, ?_, ?_⟩
          · rw [a4.length]
            omega
          · refine ⟨_, rfl, ?_⟩
            refine ⟨d, u, rs ++ [(d, k, ms)], vs ++ [.ref p6], some (sv u), some (.ref p5), ?_, rfl, ?_, upd_same, ?_, ?_, by omega⟩
            · rw [st, rs1, show headM srt u = some (k, ms) from z]
            · exact same_put (s3.trans (s4.trans (s5.trans s6))) hr0
            · refine RowsAt.put r6 (Paired.snoc ((a4.same s5).same s6) ⟨p6, m5, rfl, m6, s6 _ _ k5⟩)
            · rw [List.length_append]
              show rs.length + 1 ≤ _
              omega
      · have c1' : ¬ (b = [40] ∨ b = [44]) := fun z => c1 (decide_eq_true z)
        have rs1 : readStep srt (some (d, b, rs)) u = if u = [40] ∧ b ≠ [41] then some (d + 1, u, rs) else if u = [41] ∧ 0 < d then some (d - 1, u, rs) else if u ≠ [44] ∨ d = 0 then none else some (d, u, rs) := if_neg c1'
        have q40 : decide (sv u = V.str "(") = decide (u = [40]) := by rw [s_open, sv_is]
        have q41 : decide (sv u = V.str ")") = decide (u = [41]) := by rw [s_shut, sv_is]
        have q44 : (!decide (sv u = V.str ",")) = !decide (u = [44]) := by rw [s_comma, sv_is]
        have b41 : (!decide (sv b = V.str ")")) = !decide (b = [41]) := by rw [s_shut, sv_is]
        have s14 := s3.trans s4
        have stop : readStep srt (some (d, b, rs)) u = none → Q .non H4 := fun z => no (bad z) _ (s1.trans s14)
        have nx : ∀ d', d' ≤ i + 1 → readStep srt (some (d, b, rs)) u = some (d', u, rs) → ∃ d1 b1 rs1 vs1 o61 o71, (ps.take (i + 1)).foldl (readStep srt) (some (0, [44], [])) = some (d1, b1, rs1) ∧
            [some (V.str t), some (V.ref p), some (V.ref r), some (V.int (d' : Nat)), some (sv u), some (sv u), o7] = [some (V.str t), some (V.ref p), some (V.ref r), some (V.int (d1 : Nat)), some (sv b1), o61, o71] ∧ Same H1 H4 ∧ H4 r = some (.lst vs1) ∧ RowsAt H4 vs1 rs1 ∧ rs1.length ≤ i + 1 ∧ d1 ≤ i + 1 :=
          fun d' l z => ⟨d', u, rs, vs, _, _, st.trans z, rfl, s14, r4, a4, by omega, l⟩
        refine ⟨_, rfl, rfl, _, congrArg V.bl q40, ?_⟩
        by_cases u40 : u = [40]
        · rw [decide_eq_true u40]
          refine iteT ⟨_, rfl, rfl, _, congrArg V.bl b41, ?_⟩
          by_cases bb : b = [41]
          · rw [decide_eq_true bb]
            refine iteF ⟨_, rfl, rfl, _, congrArg V.bl q41, ?_⟩
            rw [decide_eq_false (fun z => by rw [u40] at z; exact absurd z (by decide) : ¬ u = [41])]
            refine iteF (iteF ⟨_, rfl, rfl, _, congrArg V.bl q44, ?_⟩)
            have u44 : ¬ u = [44] := fun z => by rw [u40] at z; exact absurd z (by decide)
            rw [decide_eq_false u44]
            refine iteT (iteT (stop ?_))
            rw [rs1, if_neg (fun z => z.2 bb), if_neg (fun z => by rw [u40] at z; exact absurd z.1 (by decide)), if_pos (.inl u44)]
          · rw [decide_eq_false bb]
            refine iteT ⟨_, rfl, _, _, rfl, rfl, ⟨_, rfl, ?_⟩⟩
            exact nx (d + 1) (by omega) (by rw [rs1, if_pos ⟨u40, bb⟩])
        · rw [decide_eq_false u40]
          refine iteF (iteF ⟨_, rfl, rfl, _, congrArg V.bl q41, ?_⟩)
          have n1 : ¬ (u = [40] ∧ b ≠ [41]) := fun z => u40 z.1
          by_cases u41 : u = [41]
          · rw [decide_eq_true u41]
            refine iteT ⟨_, rfl, _, _, rfl, rfl, _, rfl, ?_⟩
            by_cases d0 : 0 < d
            · have d0' : (0 : Int) < ((d : Nat) : Int) := by omega
              rw [decide_eq_true d0']
              have e3 : ((d : Nat) : Int) - 1 = ((d - 1 : Nat) : Int) := by omega
              refine iteT ⟨_, rfl, _, _, rfl, rfl, ⟨_, rfl, ?_⟩⟩
              show ∃ d1 b1 rs1 vs1 o61 o71, _ ∧ [some (V.str t), some (V.ref p), some (V.ref r), some (V.int (((d : Nat) : Int) - 1)), some (sv u), some (sv u), o7] = _ ∧ _
              rw [e3]
              exact nx (d - 1) (by omega) (by rw [rs1, if_neg n1, if_pos ⟨u41, d0⟩])
            · have d0' : ¬ (0 : Int) < ((d : Nat) : Int) := by omega
              rw [decide_eq_false d0']
              refine iteF ⟨_, rfl, rfl, _, congrArg V.bl q44, ?_⟩
              have u44 : ¬ u = [44] := fun z => by rw [u41] at z; exact absurd z (by decide)
              rw [decide_eq_false u44]
              refine iteT (iteT (stop ?_))
              rw [rs1, if_neg n1, if_neg (fun z => d0 z.2), if_pos (.inl u44)]
          · rw [decide_eq_false u41]
            refine iteF (iteF ⟨_, rfl, rfl, _, congrArg V.bl q44, ?_⟩)
            by_cases u44 : u = [44]
            · rw [decide_eq_true u44]
              refine iteF ⟨_, rfl, rfl, _, rfl, ?_⟩
              by_cases d0 : d = 0
              · subst d0
                refine iteT (stop ?_)
                rw [rs1, if_neg n1, if_neg (fun z => u41 z.1), if_pos (.inr rfl)]
              · have d0' : ¬ V.int ((d : Nat) : Int) = V.int 0 := fun z => by injection z with z; omega
                rw [decide_eq_false d0']
                refine iteF ⟨_, rfl, ?_⟩
                exact nx d (by omega) (by rw [rs1, if_neg n1, if_neg (fun z => u41 z.1), if_neg (fun z => z.elim (fun z => z u44) d0)])
            · rw [decide_eq_false u44]
              refine iteT (iteT (stop ?_))
              rw [rs1, if_neg n1, if_neg (fun z => u41 z.1), if_pos (.inl u44)]
    · rintro σ H3 ⟨d, b, rs, vs, o6, o7, ef, rfl, s3, m3, ra, l1, l2⟩
      rw [List.length_map] at ef l1 l2
      have full : ps.foldl (readStep srt) (some (0, [44], [])) = some (d, b, rs) := by
        rw [List.take_length] at ef
        exact ef
      have hM : readM srt ps = if 0 < d ∨ b = [40] ∨ b = [44] then none else some rs := by
        unfold readM
        rw [full]
      refine ⟨_, rfl, _, _, rfl, rfl, _, rfl, ?_⟩
      by_cases d0 : 0 < d
      · have d0' : (0 : Int) < ((d : Nat) : Int) := by omega
        rw [decide_eq_true d0']
        refine iteT (iteT ?_)
        exact no (show readM srt ps = none by rw [hM, if_pos (.inl d0)]) _ (s1.trans s3)
      · have d0' : ¬ (0 : Int) < ((d : Nat) : Int) := by omega
        rw [decide_eq_false d0']
        refine iteF ⟨_, rfl, by show 2 ≤ sizeLine; decide, fun q hq => ?_⟩
        generalize g4 : upd H3 q _ = H4
        have s4 : Same H3 H4 := g4 ▸ same_new hq
        have m4 : H4 q = some (.tup [.str "(", .str ","]) := g4 ▸ upd_same
        refine ⟨q, _, rfl, .inr (.inl (.inl m4)), rfl, rfl, _, congrArg V.bl (in_two b), ?_⟩
        refine ite2 (fun c1 => ?_) (fun c1 => ?_)
        · exact no (show readM srt ps = none by rw [hM, if_pos (.inr (of_decide_eq_true c1))]) _ (s1.trans (s3.trans s4))
        · refine ⟨_, rfl, ?_⟩
          refine yes rs r vs _ (show readM srt ps = some rs by rw [hM, if_neg (fun z => z.elim d0 fun z => c1 (decide_eq_true z))]) (by omega) (s1.free hr0) (s1.trans (s3.trans s4)) (s4 _ _ m3) (ra.same s4)
end
end K03

namespace K03
open PySem L2 DR DM TL
theorem fold_cat (c : Nat) : ∀ (k : Nat) (a : Array Nat), ((List.replicate k (#[c] : Array Nat)).foldl (· ++ ·) a).toList = a.toList ++ List.replicate k c
  | 0, a => by simp
  | k + 1, a => by
    rw [List.replicate_succ, List.foldl_cons, fold_cat c k, List.replicate_succ]
    simp
theorem mul_one_sign (c : Nat) (n : Int) : Txt.mul ⟨#[c]⟩ n = toS (List.replicate n.toNat c) := by
  refine ext_tl ?_
  rw [tl_toS]
  unfold Txt.mul
  by_cases h : n < 1
  · rw [if_pos h, show n.toNat = 0 by omega]
    rfl
  · rw [if_neg h]
    by_cases h1 : n = 1
    · subst h1
      rfl
    · have : (n == 1 || (⟨#[c]⟩ : Str).length == 0) = false := by
        rw [beq_eq_false_iff_ne.mpr h1]
        rfl
      rw [if_neg (by rw [this]; decide)]
      show ((List.replicate n.toNat (#[c] : Array Nat)).foldl (· ++ ·) #[]).toList = _
      rw [fold_cat]
      simp
section
variable {X : Cx}
theorem op_mul_sign : OpR X (binaryOp .Mult) (fun x y H Q => ∃ (c : Nat) (n : Int), x = .str ⟨#[c]⟩ ∧ y = .int n ∧ n ≤ 1000 ∧ -1000 ≤ n ∧ Q (.str (toS (List.replicate n.toNat c))) H) := by
  intro pins s σ H x y v u Q I rx ry h
  obtain ⟨c, n, rfl, rfl, h1, h2, q⟩ := h
  obtain ⟨t, rfl⟩ := rx
  obtain ⟨t', rfl⟩ := ry
  refine SB.mul ⟨by simp; omega, fun g _ => ?_, fun g _ => ?_⟩ fun t' k => ⟨.str (toS (List.replicate n.toNat c)), H, I.tok _, ⟨_, by rw [mul_one_sign]⟩, q⟩
  · show ¬ (((1 : Nat) : Int) > (2 ^ 63 - 1) / n)
    have : 1 ≤ (2 ^ 63 - 1) / n := (Int.le_ediv_iff_mul_le (by omega)).mpr (by omega)
    omega
  · have : (⟨#[c]⟩ : Str).length * n.toNat ≤ 1000 := by
      show 1 * n.toNat ≤ 1000
      omega
    have B := big
    unfold Builtin.Str.tooLong
    simp
    omega
end
theorem join_head (k : W) : ∀ ms : List W, joinL [46] (k :: ms) = headL k ms
  | [] => by simp [joinL, headL]
  | m :: ms => by
    have ih := join_head m ms
    show k ++ ([46] ++ joinL [46] (m :: ms)) = _
    rw [ih]
    simp [headL]
theorem join_nil : ∀ l : List W, joinL [] l = l.flatten
  | [] => rfl
  | [p] => by simp [joinL]
  | p :: q :: r => by
    show p ++ ([] ++ joinL [] (q :: r)) = _
    rw [join_nil (q :: r)]
    simp
theorem sum_len : ∀ l : List W, ((l.map toS).map (·.length)).sum = l.flatten.length
  | [] => rfl
  | p :: l => by
    have ih := sum_len l
    rw [List.map_cons, List.map_cons, List.sum_cons, ih, toS_len]
    simp
theorem head_len (k : W) (ms : List W) : (headL k ms).length = (k :: ms).flatten.length + ms.length := by
  unfold headL
  induction ms generalizing k with
  | nil => simp
  | cons m ms ih =>
    have := ih k
    simp at this ⊢
    omega
theorem join_text (y : W) (l : List W) : Txt.join (toS y) (l.map toS) = toS (joinL y l) := by
  rw [join_eq]
  refine ext_tl ?_
  rw [tl_join, tl_toS, tl_toS, List.map_map]
  congr 1
  exact (List.map_congr_left fun x _ => tl_toS x).trans (List.map_id _)
theorem row_get {H : Hp} : ∀ {us : List V} {rs : List Row}, RowsAt H us rs → ∀ {i : Nat} {x : V}, us[i]? = some x → ∃ r, rs[i]? = some r ∧ RowAt H x r
  | _, _, .cons r _, 0, x, h => by
    injection h with h
    exact ⟨_, rfl, h ▸ r⟩
  | _, _, .cons _ t, i + 1, x, h => row_get t (i := i) h
  | _, _, .nil, i, x, h => by simp at h
abbrev sText : Stmt := top 21
/-- bounds that each row keeps -/
def Few (rs : List Row) : Prop := rs.length ≤ 200 ∧ ∀ r ∈ rs, r.1 ≤ 200 ∧ (headL r.2.1 r.2.2).length ≤ 5000
def spText : Sp := fun vs H Q _ => ∃ (p : Addr) (us : List V) (rs : List Row), vs = [.ref p] ∧ H p = some (.tup us) ∧ RowsAt H us rs ∧ Few rs ∧ ∀ H', Same H H' → Q (sv (outM rs)) H'
section
variable {P : Program} {w : World} {K : PySem.W.Frag} {mg : Str → Option Value} {base : Heap}
theorem scText : FnScope ["rows", "pieces", "before", "depth", "kind", "marks"] ["rows"] (defScope sText) := ⟨rfl, rfl, rfl, by decide +kernel, rfl, by decide +kernel, by decide +kernel⟩
theorem ok_text {f : Addr} {fd : FuncData} (F : Fun K "text_of" "text_of" sText f fd) : FnOk P w K mg base CX0 1 f fd ["rows"] spText := by
  refine F.ok scText (fun vs H Q E h => ?_) (fun cdv A outer s H vs Q E hr h => ?_)
  · obtain ⟨_, _, _, rfl, _⟩ := h
    rfl
  · obtain ⟨p, us, rs, rfl, hp, ra, ⟨few, small⟩, fin⟩ := h
    refine ⟨_, pss_cons (ps_set (i := 1) scText.nd rfl (Or.inl rfl) (pe_lst pa_nil))
      (pss_cons (ps_set (i := 2) scText.nd rfl (Or.inl rfl) (pe_un un_neg pe_int))
      (pss_cons (ps_for PassesOwn.never rfl (pi_tup (pv 0)) (pg_tup rfl (pgs_cons (pg_name (i := 3) scText.nd rfl (Or.inl rfl)) (pgs_cons (pg_name (i := 4) scText.nd rfl (Or.inl rfl)) (pgs_cons (pg_name (i := 5) scText.nd rfl (Or.inl rfl)) pgs_nil))))
        (pss_cons (ps_if (pt_chain op_gt op_gt (pv 3) (pv 2) (pe_un un_neg pe_int)) (pss_one (append_rule (pv 1) (pa_cons pe_str pa_nil)))
          (pss_one (ps_if (pt_cmpR op_le (pv 3) (pv 2) rfl) (pss_one (append_rule (pv 1) (pa_cons (pe_op op_add_str (pe_op op_mul_sign pe_str (pe_op op_sub (pv 2) (pv 3))) pe_str) pa_nil))) pss_nil)))
        (pss_cons (append_rule (pv 1) (pa_cons (pe_join pe_str (pe_lst (pa_cons (pv 4) (StX.pa_star (pv 5) pa_nil)))) pa_nil))
        (pss_one (ps_set (i := 2) scText.nd rfl (Or.inl rfl) (pv 3))))))
      (pss_cons (append_rule (pv 1) (pa_cons (pe_op op_mul_sign pe_str (pv 2)) pa_nil))
      (pss_one (ps_ret (pe_join pe_str (pv 1))))))), ?_⟩
    have B := big
    refine ⟨by show 0 ≤ sizeLine; decide, fun q hq => ?_⟩
    generalize g1 : upd H q _ = H1
    have s1 : Same H H1 := g1 ▸ same_new hq
    have m1 : H1 q = some (.lst []) := g1 ▸ upd_same
    refine ⟨_, rfl, _, rfl, p, rfl, ⟨_, .inl (.inl (s1 _ _ hp))⟩, for_it (walk_tup (K := K) (a := p) (xs := us)) (fun i σ H' => ∃ (b : Int) (o3 o4 o5 : Option V) (ys : List W), σ = [some (.ref p), some (.ref q), some (.int b), o3, o4, o5] ∧ Same H H' ∧ H' q = some (.lst (ys.map sv)) ∧
        (rs.take i).foldl outStep ([], -1) = (ys.flatten, b) ∧ ys.length ≤ 2 * i ∧ ys.flatten.length ≤ 5300 * i ∧ b ≤ 200 ∧ -1 ≤ b) ⟨-1, none, none, none, [], rfl, s1, m1, rfl, Nat.le_refl _, Nat.le_refl _, by decide, by decide⟩ ?_ ?_ ?_⟩
    · rintro i σ H' _ ⟨_, _, _, _, _, _, s, _⟩
      exact .inl (.inl (s _ _ hp))
    · rintro i x σ H0 H2 hi ⟨b, o3, o4, o5, ys, rfl, s2, m2, ef, l1, l2, b1, b2⟩ ⟨rfl, hx⟩
      have hi' : i < 200 := by
        have := ra.length
        omega
      obtain ⟨r, hr1, a, m, rfl, ha, hm⟩ : ∃ r, rs[i]? = some r ∧ RowAt H x r := by
        have hl : i < rs.length := by
          have := ra.length
          omega
        obtain ⟨y, hy, z⟩ := row_get ra hx
        exact ⟨y, hy, z⟩
      obtain ⟨d, k, ms⟩ := r
      obtain ⟨d1, lenH⟩ := small _ (List.mem_of_getElem? hr1)
      have hl := head_len k ms
      have st : (rs.take (i + 1)).foldl outStep ([], -1) = outStep ((rs.take i).foldl outStep ([], -1)) (d, k, ms) := by
        rw [List.take_succ, hr1, List.foldl_append]
        rfl
      have mk : H2 m = some (.tup (ms.map sv)) := s2 _ _ hm
      have lenk : ((sv k) :: (ms.map sv ++ [])).length ≤ sizeLine := by
        simp
        have : (headL k ms).length ≤ 5000 := lenH
        omega
      have lenH' : (headL k ms).length ≤ 5000 := lenH
      have lenj : (((k :: ms).map toS).map (·.length)).sum + ((k :: ms).map toS).length * Str.length "." = (headL k ms).length + 1 := by
        rw [sum_len, hl, List.length_map]
        show _ + (ms.length + 1) * 1 = _
        omega
      have headj : V.str (Txt.join "." ((k :: ms).map toS)) = sv (headL k ms) := by
        rw [show (("." : Str)) = toS [46] by decide +kernel, join_text, join_head]
        rfl
      refine ⟨a, _, rfl, .inl (.inl (s2 _ _ ha)), rfl, _, _, rfl, _, _, rfl, _, _, rfl, rfl, ?_⟩
      refine ⟨_, rfl, _, rfl, _, _, rfl, rfl, _, rfl, ?_⟩
      by_cases h1 : b < (d : Int)
      · rw [decide_eq_true h1]
        refine iteT ⟨_, rfl, _, _, rfl, rfl, _, rfl, ?_⟩
        by_cases h2 : -1 < b
        · rw [decide_eq_true h2]
          refine iteT ?_
          refine ⟨_, rfl, .inl ⟨rfl, _, .inl (.inl m2)⟩, q, _, _, rfl, rfl, m2, by rw [List.length_map]; omega, ?_⟩
          generalize g3 : upd H2 q _ = H3
          have s3 : Same H H3 := g3 ▸ same_put s2 hq
          have m3 : H3 q = some (.lst ((ys ++ [[40]]).map sv)) := g3 ▸ (upd_same.trans (by rw [List.map_append, s_open]; rfl))
          have pd : pad b d = [40] := if_pos ⟨by omega, by omega⟩
          have ly : (ys ++ [[40]]).length ≤ 2 * i + 1 := by simp; omega
          have lf : (ys ++ [[40]]).flatten.length ≤ 5300 * i + 1 := by simp at l2 ⊢; omega
          refine ⟨_, rfl, .inl ⟨rfl, _, .inl (.inl m3)⟩, ⟨".", rfl⟩, _, rfl, _, rfl, m, _, rfl, .inl (.inl (.inl (s3 _ _ hm))), lenk, fun j hj => ?_⟩
          generalize gj : upd H3 j _ = Hj
          have sj : Same H3 Hj := gj ▸ same_new hj
          have mj : Hj j = some (.lst ((k :: ms).map sv)) := gj ▸ (upd_same.trans (by rw [List.append_nil]; rfl))
          have lj := sj _ _ m3
          refine ⟨".", j, (k :: ms).map toS, rfl, rfl, .inl (SqL.of (by rw [mj, List.map_map]; rfl)), by rw [lenj]; omega, q, _, _, rfl, rfl, lj, by rw [List.length_map]; omega, ⟨_, rfl, ?_⟩⟩
          rw [headj]
          refine ⟨(d : Nat), _, _, _, (ys ++ [[40]]) ++ [headL k ms], rfl, ?_, ?_, ?_, ?_, ?_, by omega, by omega⟩
          · exact same_put (s3.trans sj) hq
          · rw [upd_same, List.map_append (l₁ := (ys ++ [[40]]))]
            rfl
          · rw [st, ef]
            show (ys.flatten ++ (pad b d ++ headL k ms), ((d : Nat) : Int)) = _
            rw [pd]
            simp
          · rw [List.length_append]
            show _ + 1 ≤ _
            omega
          · rw [List.flatten_append, List.length_append]
            simp only [List.flatten_cons, List.flatten_nil, List.append_nil]
            omega
        · rw [decide_eq_false h2]
          have pd : pad b d = [] := by
            unfold pad
            rw [if_neg (fun z => h2 (by omega)), if_neg (by omega)]
          have ly : ys.length ≤ 2 * i + 1 := by omega
          have lf : ys.flatten.length ≤ 5300 * i + 1 := by omega
          refine iteF ?_
          refine ⟨_, rfl, _, rfl, _, _, rfl, rfl, _, rfl, ?_⟩
          rw [decide_eq_false (show ¬ ((d : Nat) : Int) ≤ b by omega)]
          refine iteF ?_
          refine ⟨_, rfl, .inl ⟨rfl, _, .inl (.inl m2)⟩, ⟨".", rfl⟩, _, rfl, _, rfl, m, _, rfl, .inl (.inl (.inl (s2 _ _ hm))), lenk, fun j hj => ?_⟩
          generalize gj : upd H2 j _ = Hj
          have sj : Same H2 Hj := gj ▸ same_new hj
          have mj : Hj j = some (.lst ((k :: ms).map sv)) := gj ▸ (upd_same.trans (by rw [List.append_nil]; rfl))
          have lj := sj _ _ m2
          refine ⟨".", j, (k :: ms).map toS, rfl, rfl, .inl (SqL.of (by rw [mj, List.map_map]; rfl)), by rw [lenj]; omega, q, _, _, rfl, rfl, lj, by rw [List.length_map]; omega, ⟨_, rfl, ?_⟩⟩
          rw [headj]
          refine ⟨(d : Nat), _, _, _, ys ++ [headL k ms], rfl, ?_, ?_, ?_, ?_, ?_, by omega, by omega⟩
          · exact same_put (s2.trans sj) hq
          · rw [upd_same, List.map_append (l₁ := ys)]
            rfl
          · rw [st, ef]
            show (ys.flatten ++ (pad b d ++ headL k ms), ((d : Nat) : Int)) = _
            rw [pd]
            simp
          · rw [List.length_append]
            show _ + 1 ≤ _
            omega
          · rw [List.flatten_append, List.length_append]
            simp only [List.flatten_cons, List.flatten_nil, List.append_nil]
            omega
      · rw [decide_eq_false h1]
        refine iteF ⟨_, rfl, ?_⟩
        refine iteF ?_
        refine ⟨_, rfl, _, rfl, _, _, rfl, rfl, _, rfl, ?_⟩
        rw [decide_eq_true (show ((d : Nat) : Int) ≤ b by omega)]
        have cnt : (b - ((d : Nat) : Int)).toNat ≤ 200 := by omega
        refine iteT ⟨_, rfl, .inl ⟨rfl, _, .inl (.inl m2)⟩, _, rfl, _, rfl, _, _, rfl, rfl, 41, _, s_shut, rfl, by omega, by omega, _, _, rfl, rfl, ?_, q, _, _, rfl, rfl, m2, by rw [List.length_map]; omega, ?_⟩
        · rw [toS_len, List.length_replicate]
          show _ + 1 ≤ _
          omega
        generalize g3 : upd H2 q _ = H3
        have s3 : Same H H3 := g3 ▸ same_put s2 hq
        have e3 : toS (List.replicate (b - ((d : Nat) : Int)).toNat 41) ++ "," = toS (List.replicate (b - ((d : Nat) : Int)).toNat 41 ++ [44]) := by
          rw [show (("," : Str)) = toS [44] by decide +kernel, toS_app]
        have m3 : H3 q = some (.lst ((ys ++ [List.replicate (b - ((d : Nat) : Int)).toNat 41 ++ [44]]).map sv)) := g3 ▸ (upd_same.trans (by rw [List.map_append, e3]; rfl))
        have pd : pad b d = List.replicate (b - ((d : Nat) : Int)).toNat 41 ++ [44] := by
          unfold pad
          rw [if_neg (fun z => h1 (by omega)), if_pos (by omega)]
        have ly : (ys ++ [List.replicate (b - ((d : Nat) : Int)).toNat 41 ++ [44]]).length ≤ 2 * i + 1 := by simp; omega
        have lf : (ys ++ [List.replicate (b - ((d : Nat) : Int)).toNat 41 ++ [44]]).flatten.length ≤ 5300 * i + 201 := by
          simp at l2 ⊢
          omega
        refine ⟨_, rfl, .inl ⟨rfl, _, .inl (.inl m3)⟩, ⟨".", rfl⟩, _, rfl, _, rfl, m, _, rfl, .inl (.inl (.inl (s3 _ _ hm))), lenk, fun j hj => ?_⟩
        generalize gj : upd H3 j _ = Hj
        have sj : Same H3 Hj := gj ▸ same_new hj
        have mj : Hj j = some (.lst ((k :: ms).map sv)) := gj ▸ (upd_same.trans (by rw [List.append_nil]; rfl))
        have lj := sj _ _ m3
        refine ⟨".", j, (k :: ms).map toS, rfl, rfl, .inl (SqL.of (by rw [mj, List.map_map]; rfl)), by rw [lenj]; omega, q, _, _, rfl, rfl, lj, by rw [List.length_map]; omega, ⟨_, rfl, ?_⟩⟩
        rw [headj]
        refine ⟨(d : Nat), _, _, _, (ys ++ [List.replicate (b - ((d : Nat) : Int)).toNat 41 ++ [44]]) ++ [headL k ms], rfl, ?_, ?_, ?_, ?_, ?_, by omega, by omega⟩
        · exact same_put (s3.trans sj) hq
        · rw [upd_same, List.map_append (l₁ := (ys ++ [List.replicate (b - ((d : Nat) : Int)).toNat 41 ++ [44]]))]
          rfl
        · rw [st, ef]
          show (ys.flatten ++ (pad b d ++ headL k ms), ((d : Nat) : Int)) = _
          rw [pd]
          simp
        · rw [List.length_append]
          show _ + 1 ≤ _
          omega
        · rw [List.flatten_append, List.length_append]
          simp only [List.flatten_cons, List.flatten_nil, List.append_nil]
          omega

    · rintro σ H2 ⟨b, o3, o4, o5, ys, rfl, s2, m2, ef, l1, l2, b1, b2⟩
      have ul := ra.length
      rw [ul, List.take_length] at ef
      rw [ul] at l1 l2
      refine ⟨_, rfl, .inl ⟨rfl, _, .inl (.inl m2)⟩, _, rfl, 41, _, s_shut, rfl, by omega, by omega, q, _, _, rfl, rfl, m2, by rw [List.length_map]; omega, ?_⟩
      generalize g3 : upd H2 q _ = H3
      have s3 : Same H H3 := g3 ▸ same_put s2 hq
      have m3 : H3 q = some (.lst ((ys ++ [List.replicate b.toNat 41]).map sv)) := g3 ▸ (upd_same.trans (by rw [List.map_append]; rfl))
      refine ⟨⟨"", rfl⟩, _, rfl, "", q, (ys ++ [List.replicate b.toNat 41]).map toS, rfl, rfl, .inl (SqL.of (by rw [m3, List.map_map]; rfl)), ?_, ?_⟩
      · rw [sum_len, List.flatten_append, List.length_append]
        show _ + _ * 0 ≤ _
        simp only [List.flatten_cons, List.flatten_nil, List.append_nil, List.length_replicate]
        omega
      · rw [show (("" : Str)) = toS [] by decide +kernel, join_text, join_nil]
        have e : outM rs = (ys ++ [List.replicate b.toNat 41]).flatten := by
          unfold outM shut
          rw [ef]
          simp
        rw [e] at fin
        exact fin _ s3
end
end K03

namespace K03
open PySem L2 DR DM TL
def nv (n : Nat) : V := .int (n : Int)
def PthAt (H : Hp) (v : V) (q : Pth) : Prop := ∃ a, v = .ref a ∧ H a = some (.tup (q.map nv))
theorem PthAt.same {H H' : Hp} {v : V} {q : Pth} (s : Same H H') (h : PthAt H v q) : PthAt H' v q :=
  let ⟨a, e, h1⟩ := h
  ⟨a, e, s _ _ h1⟩
theorem PthAt.put {H : Hp} {k : Addr} {xs : List V} {o : HO} {v : V} {q : Pth} (hk : H k = some (.lst xs)) (h : PthAt H v q) : PthAt (upd H k o) v q :=
  let ⟨a, e, h1⟩ := h
  ⟨a, e, by rw [upd_ne (ne_of h1 hk (fun z => by cases z))]; exact h1⟩
abbrev PthsAt (H : Hp) (vs : List V) (qs : List Pth) : Prop := Paired (PthAt H) vs qs
theorem PthsAt.same {H H' : Hp} {vs : List V} {qs : List Pth} (s : Same H H') (h : PthsAt H vs qs) : PthsAt H' vs qs := Paired.mapP h fun _ _ q => q.same s
theorem PthsAt.put {H : Hp} {k : Addr} {xs : List V} {o : HO} {vs : List V} {qs : List Pth} (hk : H k = some (.lst xs)) (h : PthsAt H vs qs) : PthsAt (upd H k o) vs qs := Paired.mapP h fun _ _ q => q.put hk
theorem cut_to (xs : List V) (k : Nat) : cutV xs none (some (k : Int)) = xs.take k := by
  unfold cutV
  rw [HT.sIx_nat, HT.sIx_none, List.drop_zero, Nat.sub_zero]
  by_cases h : k ≤ xs.length
  · rw [Nat.min_eq_left h]
  · rw [Nat.min_eq_right (by omega), List.take_length, List.take_of_length_le (by omega)]
abbrev sPaths : Stmt := top 22
abbrev sMoved : Stmt := top 23
def spPaths : Sp := fun vs H Q _ => ∃ (p : Addr) (us : List V) (rs : List Row), vs = [.ref p] ∧ H p = some (.tup us) ∧ RowsAt H us rs ∧ rs.length ≤ 200 ∧
  ∀ q ws H', H q = none → Same H H' → H' q = some (.lst ws) → PthsAt H' ws (pathsM rs) → Q (.ref q) H'
def up (by_ : Int) (r : Row) : Row := (((r.1 : Int) + by_).toNat, r.2)
def pthInv (H : Hp) (p l : Addr) (rs : List Row) (i : Nat) (σ : L2.St) (H' : Hp) : Prop := ∃ (o3 o4 : Option V) (a : Addr) (ws : List V) (pl : List Pth) (q : Pth), σ = [some (.ref p), some (.ref l), some (.ref a), o3, o4] ∧ Same H H' ∧ H' l = some (.lst ws) ∧ PthsAt H' ws pl ∧ H' a = some (.tup (q.map nv)) ∧ (rs.take i).foldl pathStep ([], []) = (pl, q) ∧ q.length ≤ i ∧ pl.length ≤ i
def spMoved : Sp := fun vs H Q _ => ∃ (p : Addr) (us : List V) (rs : List Row) (b : Int), vs = [.ref p, .int b] ∧ H p = some (.tup us) ∧ RowsAt H us rs ∧ rs.length ≤ 200 ∧ (∀ r ∈ rs, 0 ≤ (r.1 : Int) + b) ∧
  ∀ q ws H', H q = none → Same H H' → H' q = some (.tup ws) → RowsAt H' ws (rs.map (up b)) → Q (.ref q) H'
def intV : V → Bool
  | .int _ => true
  | _ => false
def plainV : V → Bool
  | .int _ => true
  | .bl _ => true
  | .non => true
  | .str _ => true
  | _ => false
def spIsPath (K : PySem.W.Frag) : Sp := fun vs H Q _ => ∃ x : V, vs = [x] ∧ ((∃ t, TyX K H x t ∧ PySem.W.kitOne K t (.type "tuple") = some false ∧ ∀ H', Same H H' → Q (.bl false) H') ∨
  ∃ a us, x = .ref a ∧ H a = some (.tup us) ∧ us.all plainV = true ∧ us.length ≤ 1000 ∧ ∀ H', Same H H' → Q (.bl (us.all intV)) H')
section
variable {P : Program} {w : World} {K : PySem.W.Frag} {mg : Str → Option Value} {base : Heap}
theorem scPaths : FnScope ["rows", "paths", "path", "row", "depth"] ["rows"] (defScope sPaths) := ⟨rfl, rfl, rfl, by decide +kernel, rfl, by decide +kernel, by decide +kernel⟩
theorem ok_paths {f : Addr} {fd : FuncData} (F : Fun K "paths_of" "paths_of" sPaths f fd) (T : Txt mg) : FnOk P w K mg base CX0 1 f fd ["rows"] spPaths := by
  refine F.ok scPaths (fun vs H Q E h => ?_) (fun cdv A outer s H vs Q E hr h => ?_)
  · obtain ⟨_, _, _, rfl, _⟩ := h
    rfl
  · obtain ⟨p, us, rs, rfl, hp, ra, few, fin⟩ := h
    refine ⟨_, pss_cons (ps_set (i := 1) scPaths.nd rfl (Or.inl rfl) (pe_lst pa_nil))
      (pss_cons (ps_set (i := 2) scPaths.nd rfl (Or.inl rfl) (pe_tup pa_nil))
      (pss_cons (ps_for PassesOwn.never rfl (pi_tup (pv 0)) (pg_name (i := 3) scPaths.nd rfl (Or.inl rfl))
        (pss_cons (ps_set (i := 4) scPaths.nd rfl (Or.inl rfl) (pe_ix ix_tup (pv 3) pe_int (fun _ _ => rfl)))
        (pss_cons (ps_if (pt_cmpR op_gt (pv 4) (pe_callB call_len_seq (by rfl) T.len PySem.boot_len (pa_cons (pv 2) pa_nil)) rfl) (pss_one (ps_set (i := 2) scPaths.nd rfl (Or.inl rfl) (pe_tup (StX.pa_star (pv 2) (pa_cons pe_int pa_nil)))))
          (pss_one (ps_if (pt_cmpR op_gt (pv 4) pe_int rfl) (pss_one (ps_set (i := 2) scPaths.nd rfl (Or.inl rfl) (pe_tup (StX.pa_star (pe_slice sl_tupA (pv 2) po_none (po_some (pe_op op_sub (pv 4) pe_int)))
            (pa_cons (pe_op op_add (pe_ix ix_tup (pv 2) (pe_op op_sub (pv 4) pe_int) (fun _ _ => rfl)) pe_int) pa_nil))))) pss_nil)))
        (pss_one (append_rule (pv 1) (pa_cons (pv 2) pa_nil))))))
      (pss_one (ps_ret (pv 1))))), ?_⟩
    have B := big
    refine ⟨by show 0 ≤ sizeLine; decide, fun l hl => ?_⟩
    generalize g1 : upd H l _ = H1
    have s1 : Same H H1 := g1 ▸ same_new hl
    have m1 : H1 l = some (.lst []) := g1 ▸ upd_same
    refine ⟨by show 0 ≤ sizeLine; decide, fun a0 ha0 => ?_⟩
    generalize g2 : upd H1 a0 _ = H2
    have s2 : Same H1 H2 := g2 ▸ same_new ha0
    have m2 : H2 a0 = some (.tup []) := g2 ▸ upd_same
    refine ⟨_, rfl, p, rfl, ⟨_, .inl (.inl (s2 _ _ (s1 _ _ hp)))⟩, for_it (walk_tup (K := K) (a := p) (xs := us)) (pthInv H p l rs) ⟨none, none, a0, [], [], [], rfl, s1.trans s2, s2 _ _ m1, .nil, m2, rfl, Nat.le_refl _, Nat.le_refl _⟩ ?_ ?_ ?_⟩
    · rintro i σ H' _ ⟨_, _, _, _, _, _, _, s, _⟩
      exact .inl (.inl (s _ _ hp))
    · rintro i x σ H0 H3 hi ⟨o3, o4, a, ws, pl, q, rfl, s3, m3, pa, ma, ef, l1, l2⟩ ⟨rfl, hx⟩
      obtain ⟨r, hr1, ra1, rm, rfl, hra, hrm⟩ := row_get ra hx
      have ul := ra.length
      have st : (rs.take (i + 1)).foldl pathStep ([], []) = (pl ++ [next q r.1], next q r.1) := by
        rw [List.take_succ, hr1, List.foldl_append, ef]
        rfl
      have fl : H3 ra1 = some (.tup [.int (r.1 : Nat), sv r.2.1, .ref rm]) := s3 _ _ hra
      have fin1 : ∀ (D : Ends) (H4 : Hp) (b : Addr), (∀ σ H', pthInv H p l rs (i + 1) σ H' → D.nx σ H') → Same H3 H4 → H4 b = some (.tup ((next q r.1).map nv)) → (next q r.1).length ≤ i + 1 →
          tDrop (tBM K "list" rAppend (tVar 1) (tCons (tVar 2) tNil)) D [some (.ref p), some (.ref l), some (.ref b), some (.ref ra1), some (.int (r.1 : Nat))] H4 := fun D H4 b dn s4 mb lq => by
        have ml := s4 _ _ m3
        refine ⟨_, rfl, .inl ⟨rfl, _, .inl (.inl ml)⟩, _, rfl, l, _, _, rfl, rfl, ml, ?_, ?_⟩
        · rw [pa.length]
          omega
        · refine dn _ _ ⟨_, _, b, _, pl ++ [next q r.1], next q r.1, rfl, same_put (s3.trans s4) hl, upd_same, ?_, ?_, st, lq, ?_⟩
          · exact PthsAt.put ml (Paired.snoc (pa.same s4) ⟨b, rfl, mb⟩)
          · rw [upd_ne (ne_of mb ml (fun z => by cases z))]
            exact mb
          · rw [List.length_append]
            show _ + 1 ≤ _
            omega
      refine ⟨_, rfl, ra1, _, 0, _, rfl, rfl, .inl (.inl fl), atI_nat (j := 0) rfl, _, rfl, _, rfl, a, _, rfl, .inr (.inl (.inl ma)), _, _, rfl, rfl, _, rfl, ?_⟩
      rw [List.length_map]
      by_cases h1 : ((q.length : Nat) : Int) < ((r.1 : Nat) : Int)
      · rw [decide_eq_true h1]
        have nx : next q r.1 = q ++ [0] := if_pos (by omega)
        refine iteT ?_
        refine ⟨_, rfl, a, _, rfl, .inl (.inl (.inl ma)), ?_, fun b hb => ?_⟩
        · simp
          omega
        · refine fin1 _ _ b (fun _ _ z => z) (same_new hb) ?_ ?_
          · rw [upd_same, nx, List.map_append]
            rfl
          · rw [nx, List.length_append]
            show _ + 1 ≤ _
            omega
      · rw [decide_eq_false h1]
        refine iteF ?_
        refine ⟨_, rfl, _, _, rfl, rfl, _, rfl, ?_⟩
        by_cases h2 : (0 : Int) < ((r.1 : Nat) : Int)
        · rw [decide_eq_true h2]
          have nx : next q r.1 = q.take (r.1 - 1) ++ [q.getD (r.1 - 1) 0 + 1] := by
            unfold next
            rw [if_neg (by omega), if_pos (by omega)]
          have e3 : ((r.1 : Nat) : Int) - 1 = ((r.1 - 1 : Nat) : Int) := by omega
          refine iteT ?_
          have lq : (q.map nv).length = q.length := List.length_map ..
          refine ⟨_, rfl, _, rfl, _, _, rfl, rfl, _, rfl, a, _, rfl, .inl (.inl ma), fun z => ?_, fun _ b hb => ?_⟩
          · have z2 := z.2
            rw [e3, HT.sIx_nat, lq] at z2
            omega
          · rw [e3, cut_to]
            generalize g4 : upd H3 b _ = H4
            have s4 : Same H3 H4 := g4 ▸ same_new hb
            have m4 : H4 b = some (.tup ((q.map nv).take (r.1 - 1))) := g4 ▸ upd_same
            have hlt : r.1 - 1 < q.length := by omega
            refine ⟨b, _, rfl, .inl (.inl (.inl m4)), _, rfl, _, rfl, _, _, rfl, rfl, a, _, _, nv (q.getD (r.1 - 1) 0), rfl, rfl, .inl (.inl (s4 _ _ ma)), ?_, _, _, rfl, rfl, ?_, fun c hc => ?_⟩
            · rw [e3]
              refine atI_nat ?_
              rw [List.getElem?_map, List.getD_eq_getElem?_getD, List.getElem?_eq_getElem hlt]
              rfl
            · simp
              omega
            · refine fin1 _ _ c (fun _ _ z => z) (s4.trans (same_new hc)) ?_ ?_
              · rw [upd_same, nx, List.map_append, List.map_take]
                rfl
              · rw [nx, List.length_append, List.length_take]
                show _ + 1 ≤ _
                omega
        · rw [decide_eq_false h2]
          refine iteF ?_
          have nx : next q r.1 = q := by
            unfold next
            rw [if_neg (by omega), if_neg (by omega)]
          refine fin1 _ _ a (fun _ _ z => z) (Same.refl _) ?_ ?_
          · rw [nx]
            exact ma
          · rw [nx]
            omega
    · rintro σ H3 ⟨o3, o4, a, ws, pl, q, rfl, s3, m3, pa, ma, ef, l1, l2⟩
      have ul := ra.length
      rw [ul, List.take_length] at ef
      refine ⟨_, rfl, fin l ws _ hl s3 m3 ?_⟩
      unfold pathsM
      rw [ef]
      exact pa
theorem scMoved : FnScope ["rows", "by", "depth", "kind", "marks"] ["rows", "by"] (defScope sMoved) := ⟨rfl, rfl, rfl, by decide +kernel, rfl, by decide +kernel, by decide +kernel⟩
theorem ok_moved {f : Addr} {fd : FuncData} (F : Fun K "moved" "moved" sMoved f fd) (T : Txt mg) : FnOk P w K mg base CX0 1 f fd ["rows", "by"] spMoved := by
  refine F.ok scMoved (fun vs H Q E h => ?_) (fun cdv A outer s H vs Q E hr h => ?_)
  · obtain ⟨_, _, _, _, rfl, _⟩ := h
    rfl
  · obtain ⟨p, us, rs, b, rfl, hp, ra, few, pos, fin⟩ := h
    refine ⟨_, pss_one (ps_ret (pe_callTy call_tuple_of (by rfl) T.tuple (by decide +kernel) (pa_cons (pe_lc (own := [("depth", 2), ("kind", 3), ("marks", 4)]) (g := gTup K 3 (gCons (gName 2) (gCons (gName 3) (gCons (gName 4) gNil)))) (tt := tYes) rfl scMoved.nd (pi_tup (pv 0))
      (blkOk_by (N := ["rows", "by", "depth", "kind", "marks"]) (sc := defScope sMoved) (by decide +kernel)) (fun _ _ _ _ _ => pg_tup rfl (pgs_cons (pg_name (i := 2) scMoved.nd rfl (Or.inl rfl)) (pgs_cons (pg_name (i := 3) scMoved.nd rfl (Or.inl rfl)) (pgs_cons (pg_name (i := 4) scMoved.nd rfl (Or.inl rfl)) pgs_nil))))
      (fun _ _ _ _ _ => pts_nil) (fun _ _ _ _ _ => pe_tup (pa_cons (pe_op op_add (pv 2) (pv 1)) (pa_cons (pv 3) (pa_cons (pv 4) pa_nil))))) pa_nil))), ?_⟩
    have B := big
    have ul := ra.length
    refine ⟨_, rfl, p, rfl, ⟨_, .inl (.inl hp)⟩, fun D hD => lc_it (walk_tup (K := K) (a := p) (xs := us)) (fun i H' => ∃ ws, Same H H' ∧ H' D = some (.lst ws) ∧ RowsAt H' ws ((rs.take i).map (up b)))
      ⟨[], same_new hD, upd_same, .nil⟩ (fun i H' _ ⟨_, s, _⟩ => .inl (.inl (s _ _ hp))) ?_ ?_⟩
    · rintro i x H0 H1 hi ⟨ws, s1, m1, wa⟩ ⟨rfl, hx⟩
      obtain ⟨r, hr1, a, m, rfl, ha, hm⟩ := row_get ra hx
      refine ⟨a, _, rfl, .inl (.inl (s1 _ _ ha)), rfl, _, _, rfl, _, _, rfl, _, _, rfl, rfl, rfl, ?_⟩
      unfold tYes
      refine iteT ⟨_, rfl, _, rfl, _, _, rfl, rfl, _, rfl, _, rfl, by show 3 ≤ sizeLine; decide, fun c hc => ?_⟩
      generalize g2 : upd H1 c _ = H2
      have s2 : Same H1 H2 := g2 ▸ same_new hc
      have m2 : H2 c = some (.tup [.int ((r.1 : Int) + b), sv r.2.1, .ref m]) := g2 ▸ upd_same
      have md := s2 _ _ m1
      have wl := wa.length
      rw [List.length_map, List.length_take] at wl
      refine ⟨_, md, by omega, ws ++ [.ref c], same_put (s1.trans s2) hD, upd_same, ?_⟩
      rw [List.take_succ, hr1, List.map_append]
      refine RowsAt.put md (Paired.snoc (wa.same s2) ⟨c, m, rfl, ?_, s2 _ _ (s1 _ _ hm)⟩)
      rw [m2]
      have := pos r (List.mem_of_getElem? hr1)
      have e : (((r.1 : Int) + b).toNat : Int) = (r.1 : Int) + b := by omega
      show _ = some (HO.tup [.int ((((r.1 : Int) + b).toNat : Nat) : Int), sv r.2.1, .ref m])
      rw [e]
    · rintro H1 ⟨ws, s1, m1, wa⟩
      rw [ul, List.take_length] at wa
      refine ⟨D, ws, rfl, .inl ⟨SqL.of m1, fun q hq => ?_⟩⟩
      exact fin q ws _ (s1.free hq) (s1.trans (same_new hq)) upd_same (wa.same (same_new hq))
theorem scIsPath : FnScope ["value", "index"] ["value"] (defScope sIsPath) := ⟨rfl, rfl, rfl, by decide +kernel, rfl, by decide +kernel, by decide +kernel⟩
theorem kit_plain {H : Hp} {x : V} (h : plainV x = true) : ∃ t b1 b2, TyX K H x t ∧ PySem.W.kitOne K t (.type "int") = some b1 ∧ PySem.W.kitOne K t (.type "bool") = some b2 ∧ (b1 && !b2) = intV x := by
  cases x with
  | int i => exact ⟨_, true, false, .base (.int i), by rfl, by rfl, rfl⟩
  | bl i => exact ⟨_, true, true, .base (.bl i), by rfl, by rfl, rfl⟩
  | non => exact ⟨_, false, false, .base .non, by rfl, by rfl, rfl⟩
  | str i => exact ⟨_, false, false, .base (.str i), by rfl, by rfl, rfl⟩
  | _ => exact absurd h (by simp [plainV])
theorem ok_isPath {f : Addr} {fd : FuncData} (F : Fun K "is_path" "is_path" sIsPath f fd) (T : Txt mg) (D1 : Has P w K mg base 1 "is_integer" ["value"] (spInt K)) : FnOk P w K mg base CX0 2 f fd ["value"] (spIsPath K) := by
  obtain ⟨fI, fdI, GI, mI, kI, bI⟩ := D1
  refine F.ok scIsPath (fun vs H Q E h => ?_) (fun cdv A outer s H vs Q E hr h => ?_)
  · obtain ⟨_, rfl, _⟩ := h
    rfl
  · obtain ⟨x, rfl, h⟩ := h
    refine ⟨_, pss_one (ps_ret (pe_and (pe_callB call_isi (by rfl) T.isi PyProof.Rows.boot_isinstance (pa_cons (pv 0) (pa_cons (pe_bltn (v := .ty "tuple") (by rfl) T.tuple (by decide +kernel) rfl) pa_nil)))
      (pe_one (pe_callB (cr_all rfl) (by rfl) T.all PyProof.Rows.boot_all (pa_cons (pe_lc (own := [("index", 1)]) (g := gName 1) (tt := tYes) rfl scIsPath.nd (pi_tup (pv 0))
        (blkOk_by (N := ["value", "index"]) (sc := defScope sIsPath) (by decide +kernel)) (fun _ _ _ _ _ => pg_name (i := 1) scIsPath.nd rfl (Or.inl rfl)) (fun _ _ _ _ _ => pts_nil)
        (fun _ _ _ _ _ => pe_call GI hr (by rfl) mI kI bI .nil pass0 (pa_cons (pv 1) pa_nil))) pa_nil))))), ?_⟩
    rcases h with ⟨t, ty, kt, fin⟩ | ⟨a, us, rfl, ha, pl, few, fin⟩
    · exact ⟨_, rfl, x, _, t, _, false, rfl, .ty _, ty, kt, false, rfl, iteF (fin _ (Same.refl _))⟩
    · have B := big
      refine ⟨_, rfl, .ref a, _, .type "tuple", _, true, rfl, .ty _, .base (.tup ha), by rfl, true, rfl, iteT ?_⟩
      refine ⟨_, rfl, a, rfl, ⟨_, .inl (.inl ha)⟩, fun D hD => lc_it (walk_tup (K := K) (a := a) (xs := us)) (fun i H' => Same H H' ∧ H' D = some (.lst ((us.take i).map fun u => V.bl (intV u))))
        ⟨same_new hD, upd_same⟩ (fun i H' _ ⟨s, _⟩ => .inl (.inl (s _ _ ha))) ?_ ?_⟩
      · rintro i u H0 H1 hi ⟨s1, m1⟩ ⟨rfl, hx⟩
        refine ⟨rfl, ?_⟩
        unfold tYes
        obtain ⟨t, b1, b2, ty, k1, k2, e⟩ := kit_plain (K := K) (H := H1) (List.all_eq_true.mp pl u (List.mem_of_getElem? hx))
        refine iteT ⟨_, rfl, u, t, b1, b2, rfl, ty, k1, k2, _, m1, ?_, same_put s1 hD, ?_⟩
        · rw [List.length_map, List.length_take]
          omega
        · rw [upd_same, List.take_succ, hx, List.map_append, e]
          rfl
      · rintro H1 ⟨s1, m1⟩
        rw [List.take_length] at m1
        refine ⟨D, us.map intV, rfl, SqL.of (by rw [m1, List.map_map]; rfl), ?_⟩
        rw [List.all_map]
        exact fin _ s1
end
end K03

namespace K03
open PySem L2 DR DM TL
def pk (q : Pth) : List Key := q.map fun (n : Nat) => (Sum.inl (n : Int) : Key)
theorem pk_v (q : Pth) : (pk q).map kV = q.map nv := by
  unfold pk
  rw [List.map_map]
  rfl
theorem pk_inj {p q : Pth} (h : pk p = pk q) : p = q := by
  unfold pk at h
  induction p generalizing q with
  | nil =>
    cases q with
    | nil => rfl
    | cons b q => cases h
  | cons a p ih =>
    cases q with
    | nil => cases h
    | cons b q =>
      rw [List.map_cons, List.map_cons] at h
      injection h with h1 h2
      injection h1 with h1
      rw [ih h2, show a = b by omega]
/-- the dict of the places of the first i paths -/
def plc : List Pth → Nat → List (List Key × V)
  | _, 0 => []
  | qs, i + 1 => match qs[i]? with
    | some q => putK (plc qs i) (pk q) (nv i)
    | none => plc qs i
theorem putK_len {κ : Type} [DecidableEq κ] (kvs : List (κ × V)) (k : κ) (v : V) : (putK kvs k v).length ≤ kvs.length + 1 := length_putK kvs k v
theorem plc_len (qs : List Pth) : ∀ i, (plc qs i).length ≤ i
  | 0 => Nat.le_refl _
  | i + 1 => by
    have ih := plc_len qs i
    show (match qs[i]? with | some q => putK (plc qs i) (pk q) (nv i) | none => plc qs i).length ≤ _
    split
    · have := putK_len (plc qs i) (pk ‹Pth›) (nv i)
      omega
    · omega
abbrev cDoc (i : Nat) : Stmt := inClass (top 25) i
/-- a document that lies at a -/
def DocAt (C : Addr) (H : Hp) (a : Addr) (rs : List Row) : Prop := ∃ dx r p d us ws, H a = some (.ins C dx [("_rows", .ref r), ("_paths", .ref p), ("_places", .ref d), ("_text", sv (outM rs))]) ∧ H r = some (.tup us) ∧ RowsAt H us rs ∧
  H p = some (.tup ws) ∧ PthsAt H ws (pathsM rs) ∧ H d = some (.dT (plc (pathsM rs) rs.length)) ∧ Few rs
theorem DocAt.same {C a : Addr} {H H' : Hp} {rs : List Row} (s : Same H H') (h : DocAt C H a rs) : DocAt C H' a rs :=
  let ⟨dx, r, p, d, us, ws, h1, h2, h3, h4, h5, h6, h7⟩ := h
  ⟨dx, r, p, d, us, ws, s _ _ h1, s _ _ h2, h3.same s, s _ _ h4, h5.same s, s _ _ h6, h7⟩
theorem paths_len (rs : List Row) : (pathsM rs).length = rs.length := by
  have gen : ∀ (rs : List Row) (x : List Pth × Pth), (rs.foldl pathStep x).1.length = x.1.length + rs.length := fun rs => by
    induction rs with
    | nil => exact fun _ => rfl
    | cons r rs ih =>
      intro x
      rw [List.foldl_cons, ih]
      unfold pathStep
      simp
      omega
  unfold pathsM
  rw [gen]
  simp
/-- all but a stays -/
def Off (a : Addr) (H H' : Hp) : Prop := ∀ b u, b ≠ a → H b = some u → H' b = some u
theorem Off.put {a : Addr} {H : Hp} {o : HO} : Off a H (upd H a o) := fun b u n e => by rw [upd_ne n]; exact e
theorem apart_ins {H : Hp} {a b C dx : Addr} {xs : List V} {fs : List (Str × V)} (hb : H b = some (.tup xs)) (ha : H a = some (.ins C dx fs)) : b ≠ a := fun z => by
  rw [z, ha] at hb
  cases hb
theorem _root_.K03.RowAt.off {H H' : Hp} {a C dx : Addr} {fs : List (Str × V)} {v : V} {r : Row} (ha : H a = some (.ins C dx fs)) (o : Off a H H') (h : RowAt H v r) : RowAt H' v r :=
  let ⟨b, m, e, h1, h2⟩ := h
  ⟨b, m, e, o _ _ (apart_ins h1 ha) h1, o _ _ (apart_ins h2 ha) h2⟩
theorem RowsAt.off {H H' : Hp} {a C dx : Addr} {fs : List (Str × V)} {vs : List V} {rs : List Row} (h : RowsAt H vs rs) (ha : H a = some (.ins C dx fs)) (o : Off a H H') : RowsAt H' vs rs := Paired.mapP h fun _ _ q => q.off ha o
theorem PthsAt.off {H H' : Hp} {a C dx : Addr} {fs : List (Str × V)} {vs : List V} {qs : List Pth} (h : PthsAt H vs qs) (ha : H a = some (.ins C dx fs)) (o : Off a H H') : PthsAt H' vs qs :=
  Paired.mapP h fun _ _ ⟨b, e, h1⟩ => ⟨b, e, o _ _ (apart_ins h1 ha) h1⟩
theorem pth_get {H : Hp} : ∀ {us : List V} {qs : List Pth}, PthsAt H us qs → ∀ {i : Nat} {x : V}, us[i]? = some x → ∃ q, qs[i]? = some q ∧ PthAt H x q
  | _, _, .cons r _, 0, x, h => by
    injection h with h
    exact ⟨_, rfl, h ▸ r⟩
  | _, _, .cons _ t, i + 1, x, h => pth_get t (i := i) h
  | _, _, .nil, i, x, h => by simp at h
/-- what is known of the class -/
structure DCls (K : PySem.W.Frag) (mg : Str → Option Value) (C : Addr) : Prop where
  cls : Cls K C
  rows : NoAttr K C "_rows"
  paths : NoAttr K C "_paths"
  places : NoAttr K C "_places"
  text : NoAttr K C "_text"
def spInit (C : Addr) : Sp := fun vs H Q _ => ∃ (a dx p : Addr) (us : List V) (rs : List Row), vs = [.ref a, .ref p] ∧ H a = some (.ins C dx []) ∧ (H p = some (.tup us) ∨ H p = some (.lst us)) ∧ RowsAt H us rs ∧ Few rs ∧
  ∀ H', (∀ b u, b ≠ a → H b = some u → H' b = some u) → DocAt C H' a rs → Q .non H'
section
variable {P : Program} {w : World} {K : PySem.W.Frag} {mg : Str → Option Value} {base : Heap}
theorem scInit : FnScope ["self", "rows", "at", "path"] ["self", "rows"] (defScope (cDoc 0)) := ⟨rfl, rfl, rfl, by decide +kernel, rfl, by decide +kernel, by decide +kernel⟩
theorem ok_init {f C : Addr} {fd : FuncData} (F : Fun K "__init__" "Document.__init__" (cDoc 0) f fd) (T : Txt mg) (DC : DCls K mg C) (D1 : Has P w K mg base 1 "paths_of" ["rows"] spPaths) (D2 : Has P w K mg base 1 "text_of" ["rows"] spText) :
    FnOk P w K mg base CX0 2 f fd ["self", "rows"] (spInit C) := by
  obtain ⟨fP, fdP, GP, mP, kP, bP⟩ := D1
  obtain ⟨fT, fdT, GT, mT, kT, bT⟩ := D2
  refine F.ok scInit (fun vs H Q E h => ?_) (fun cdv A outer s H vs Q E hr h => ?_)
  · obtain ⟨_, _, _, _, _, rfl, _⟩ := h
    rfl
  · obtain ⟨a, dx, p, us, rs, rfl, ha, hp, ra, few, fin⟩ := h
    have hu := hr.units0
    have B := big
    refine ⟨_, pss_cons (ps_fld (pv 0) (pe_callTy call_tuple_of (by rfl) T.tuple (by decide +kernel) (pa_cons (pv 1) pa_nil)) rfl)
      (pss_cons (ps_fld (pv 0) (pe_callTy call_tuple_of (by rfl) T.tuple (by decide +kernel) (pa_cons (pe_call GP hr (by rfl) mP kP bP .nil pass0 (pa_cons (pe_fld (pv 0) rfl) pa_nil)) pa_nil)) rfl)
      (pss_cons (ps_fld (pv 0) (pe_dcT (own := [("at", 2), ("path", 3)]) (g := gTup K 2 (gCons (gName 2) (gCons (gName 3) gNil))) (tt := tYes) hu rfl scInit.nd (pi_enumT (by rfl) T.enum (pa_cons (pe_fld (pv 0) rfl) pa_nil))
          (blkOk_by (N := ["self", "rows", "at", "path"]) (sc := defScope (cDoc 0)) (by decide +kernel)) (fun _ _ _ _ _ => pg_tup rfl (pgs_cons (pg_name (i := 2) scInit.nd rfl (Or.inl rfl)) (pgs_cons (pg_name (i := 3) scInit.nd rfl (Or.inl rfl)) pgs_nil)))
          (fun _ _ _ _ _ => pts_nil) (fun _ _ _ _ _ => pv 3) (fun _ _ _ _ _ => pv 2)) rfl)
      (pss_one (ps_fld (pv 0) (pe_call GT hr (by rfl) mT kT bT .nil pass0 (pa_cons (pe_fld (pv 0) rfl) pa_nil)) rfl)))), ?_⟩
    refine ⟨_, rfl, p, us, rfl, ?_⟩
    rcases hp with m1 | hl1
    · refine .inr ⟨.inl (.inl m1), ?_⟩
      have s1 : Same H H := Same.refl H
      have a1 := s1 _ _ ha
      refine ⟨_, rfl, a, C, dx, [], rfl, a1, DC.cls, DC.rows, by simp, ?_⟩
      generalize g2 : upd H a _ = H2
      have o2 : Off a H H2 := g2 ▸ Off.put
      have a2 : H2 a = some (.ins C dx [("_rows", .ref p)]) := g2 ▸ upd_same
      have r2 : H2 p = some (.tup us) := o2 _ _ (apart_ins m1 a1) m1
      have ra2 := (ra.same s1).off a1 o2
      -- _paths
      refine ⟨_, rfl, a, C, dx, _, _, rfl, a2, DC.cls, DC.rows, rfl, p, us, rs, rfl, r2, ra2, few.1, fun q ws H3 n3 s3 t3 pa3 => ?_⟩
      refine ⟨q, ws, rfl, .inl ⟨SqL.of t3, fun l hl => ?_⟩⟩
      generalize g4 : upd H3 l _ = H4
      have s4 : Same H3 H4 := g4 ▸ same_new hl
      have l4 : H4 l = some (.tup ws) := g4 ▸ upd_same
      have s24 := s3.trans s4
      have a4 := s24 _ _ a2
      refine ⟨_, rfl, a, C, dx, _, rfl, a4, DC.cls, DC.paths, by simp, ?_⟩
      generalize g5 : upd H4 a _ = H5
      have o5 : Off a H4 H5 := g5 ▸ Off.put
      have a5 : H5 a = some (.ins C dx [("_rows", .ref p), ("_paths", .ref l)]) := g5 ▸ (upd_same.trans rfl)
      have r5 : H5 p = some (.tup us) := o5 _ _ (apart_ins (s24 _ _ r2) a4) (s24 _ _ r2)
      have ra5 := (ra2.same s24).off a4 o5
      have l5 : H5 l = some (.tup ws) := o5 _ _ (apart_ins l4 a4) l4
      have pa5 := (pa3.same s4).off a4 o5
      have pl := pa5.length
      have rl := paths_len rs
      -- _places
      refine ⟨_, rfl, a, C, dx, _, _, rfl, a5, DC.cls, DC.paths, rfl, l, ws, rfl, .inl (.inl l5), fun D hD => dcT_it (walk_enumT (K := K) (a := l) (xs := ws)) (fun i H' => Same H5 H' ∧ H' D = some (.dT (plc (pathsM rs) i)))
        ⟨same_new hD, upd_same⟩ (fun i H' _ ⟨s, _⟩ => .inl (.inl (s _ _ l5))) ?_ ?_⟩
      · rintro i x H6 H7 hi ⟨s6, m6⟩ ⟨t, x1, x2, rfl, ht, rfl, e1, e2⟩
        obtain rfl := Option.some.inj e1
        obtain ⟨y, hy, b, rfl, hb⟩ := pth_get pa5 e2
        refine ⟨t, _, rfl, .inl (.inl upd_same), rfl, _, _, rfl, _, _, rfl, rfl, rfl, ?_⟩
        unfold tYes
        have s7 : Same H6 (upd H6 t (.tup [.int (i : Nat), .ref b])) := same_new ht
        have len := plc_len (pathsM rs) i
        refine iteT ⟨_, rfl, _, rfl, b, plc (pathsM rs) i, pk y, rfl, ?_, s7 _ _ m6, ?_, same_put (s6.trans s7) hD, ?_⟩
        · rw [pk_v]
          exact s7 _ _ (s6 _ _ hb)
        · have := few.1
          omega
        · rw [upd_same, show plc (pathsM rs) (i + 1) = putK (plc (pathsM rs) i) (pk y) (nv i) by
            show (match (pathsM rs)[i]? with | some q => _ | none => _) = _
            rw [hy]]
          rfl
      · rintro H6 ⟨s6, m6⟩
        rw [pl, rl] at m6
        have a6 := s6 _ _ a5
        refine ⟨_, rfl, a, C, dx, _, rfl, a6, DC.cls, DC.places, by simp, ?_⟩
        generalize g7 : upd H6 a _ = H7
        have o7 : Off a H6 H7 := g7 ▸ Off.put
        have a7 : H7 a = some (.ins C dx [("_rows", .ref p), ("_paths", .ref l), ("_places", .ref D)]) := g7 ▸ (upd_same.trans rfl)
        have r7 : H7 p = some (.tup us) := o7 _ _ (apart_ins (s6 _ _ r5) a6) (s6 _ _ r5)
        have ra7 := (ra5.same s6).off a6 o7
        have l7 : H7 l = some (.tup ws) := o7 _ _ (apart_ins (s6 _ _ l5) a6) (s6 _ _ l5)
        have pa7 := (pa5.same s6).off a6 o7
        have d7 : H7 D = some (.dT (plc (pathsM rs) rs.length)) := o7 _ _ (fun z => by rw [z, a6] at m6; cases m6) m6
        -- _text
        refine ⟨_, rfl, a, C, dx, _, _, rfl, a7, DC.cls, DC.rows, rfl, p, us, rs, rfl, r7, ra7, few, fun H8 s8 => ?_⟩
        have a8 := s8 _ _ a7
        refine ⟨_, rfl, a, C, dx, _, rfl, a8, DC.cls, DC.text, by simp, ?_⟩
        generalize g9 : upd H8 a _ = H9
        have o9 : Off a H8 H9 := g9 ▸ Off.put
        have a9 : H9 a = some (.ins C dx [("_rows", .ref p), ("_paths", .ref l), ("_places", .ref D), ("_text", sv (outM rs))]) := g9 ▸ (upd_same.trans rfl)
        refine fin _ (fun b u nb hb => ?_) ⟨dx, p, l, D, us, ws, a9, o9 _ _ (apart_ins (s8 _ _ r7) a8) (s8 _ _ r7), (ra7.same s8).off a8 o9, o9 _ _ (apart_ins (s8 _ _ l7) a8) (s8 _ _ l7), (pa7.same s8).off a8 o9, o9 _ _ (fun z => by rw [z] at d7; rw [a7] at d7; cases d7) (s8 _ _ d7), few⟩
        exact o9 _ _ nb (s8 _ _ (o7 _ _ nb (s6 _ _ (o5 _ _ nb (s24 _ _ (o2 _ _ nb (s1 _ _ hb)))))))
    · refine .inl ⟨SqL.of hl1, fun r hr1 => ?_⟩
      generalize g1 : upd H r _ = H1
      have s1 : Same H H1 := g1 ▸ same_new hr1
      have m1 : H1 r = some (.tup us) := g1 ▸ upd_same
      have a1 := s1 _ _ ha
      refine ⟨_, rfl, a, C, dx, [], rfl, a1, DC.cls, DC.rows, by simp, ?_⟩
      generalize g2 : upd H1 a _ = H2
      have o2 : Off a H1 H2 := g2 ▸ Off.put
      have a2 : H2 a = some (.ins C dx [("_rows", .ref r)]) := g2 ▸ upd_same
      have r2 : H2 r = some (.tup us) := o2 _ _ (apart_ins m1 a1) m1
      have ra2 := (ra.same s1).off a1 o2
      -- _paths
      refine ⟨_, rfl, a, C, dx, _, _, rfl, a2, DC.cls, DC.rows, rfl, r, us, rs, rfl, r2, ra2, few.1, fun q ws H3 n3 s3 t3 pa3 => ?_⟩
      refine ⟨q, ws, rfl, .inl ⟨SqL.of t3, fun l hl => ?_⟩⟩
      generalize g4 : upd H3 l _ = H4
      have s4 : Same H3 H4 := g4 ▸ same_new hl
      have l4 : H4 l = some (.tup ws) := g4 ▸ upd_same
      have s24 := s3.trans s4
      have a4 := s24 _ _ a2
      refine ⟨_, rfl, a, C, dx, _, rfl, a4, DC.cls, DC.paths, by simp, ?_⟩
      generalize g5 : upd H4 a _ = H5
      have o5 : Off a H4 H5 := g5 ▸ Off.put
      have a5 : H5 a = some (.ins C dx [("_rows", .ref r), ("_paths", .ref l)]) := g5 ▸ (upd_same.trans rfl)
      have r5 : H5 r = some (.tup us) := o5 _ _ (apart_ins (s24 _ _ r2) a4) (s24 _ _ r2)
      have ra5 := (ra2.same s24).off a4 o5
      have l5 : H5 l = some (.tup ws) := o5 _ _ (apart_ins l4 a4) l4
      have pa5 := (pa3.same s4).off a4 o5
      have pl := pa5.length
      have rl := paths_len rs
      -- _places
      refine ⟨_, rfl, a, C, dx, _, _, rfl, a5, DC.cls, DC.paths, rfl, l, ws, rfl, .inl (.inl l5), fun D hD => dcT_it (walk_enumT (K := K) (a := l) (xs := ws)) (fun i H' => Same H5 H' ∧ H' D = some (.dT (plc (pathsM rs) i)))
        ⟨same_new hD, upd_same⟩ (fun i H' _ ⟨s, _⟩ => .inl (.inl (s _ _ l5))) ?_ ?_⟩
      · rintro i x H6 H7 hi ⟨s6, m6⟩ ⟨t, x1, x2, rfl, ht, rfl, e1, e2⟩
        obtain rfl := Option.some.inj e1
        obtain ⟨y, hy, b, rfl, hb⟩ := pth_get pa5 e2
        refine ⟨t, _, rfl, .inl (.inl upd_same), rfl, _, _, rfl, _, _, rfl, rfl, rfl, ?_⟩
        unfold tYes
        have s7 : Same H6 (upd H6 t (.tup [.int (i : Nat), .ref b])) := same_new ht
        have len := plc_len (pathsM rs) i
        refine iteT ⟨_, rfl, _, rfl, b, plc (pathsM rs) i, pk y, rfl, ?_, s7 _ _ m6, ?_, same_put (s6.trans s7) hD, ?_⟩
        · rw [pk_v]
          exact s7 _ _ (s6 _ _ hb)
        · have := few.1
          omega
        · rw [upd_same, show plc (pathsM rs) (i + 1) = putK (plc (pathsM rs) i) (pk y) (nv i) by
            show (match (pathsM rs)[i]? with | some q => _ | none => _) = _
            rw [hy]]
          rfl
      · rintro H6 ⟨s6, m6⟩
        rw [pl, rl] at m6
        have a6 := s6 _ _ a5
        refine ⟨_, rfl, a, C, dx, _, rfl, a6, DC.cls, DC.places, by simp, ?_⟩
        generalize g7 : upd H6 a _ = H7
        have o7 : Off a H6 H7 := g7 ▸ Off.put
        have a7 : H7 a = some (.ins C dx [("_rows", .ref r), ("_paths", .ref l), ("_places", .ref D)]) := g7 ▸ (upd_same.trans rfl)
        have r7 : H7 r = some (.tup us) := o7 _ _ (apart_ins (s6 _ _ r5) a6) (s6 _ _ r5)
        have ra7 := (ra5.same s6).off a6 o7
        have l7 : H7 l = some (.tup ws) := o7 _ _ (apart_ins (s6 _ _ l5) a6) (s6 _ _ l5)
        have pa7 := (pa5.same s6).off a6 o7
        have d7 : H7 D = some (.dT (plc (pathsM rs) rs.length)) := o7 _ _ (fun z => by rw [z, a6] at m6; cases m6) m6
        -- _text
        refine ⟨_, rfl, a, C, dx, _, _, rfl, a7, DC.cls, DC.rows, rfl, r, us, rs, rfl, r7, ra7, few, fun H8 s8 => ?_⟩
        have a8 := s8 _ _ a7
        refine ⟨_, rfl, a, C, dx, _, rfl, a8, DC.cls, DC.text, by simp, ?_⟩
        generalize g9 : upd H8 a _ = H9
        have o9 : Off a H8 H9 := g9 ▸ Off.put
        have a9 : H9 a = some (.ins C dx [("_rows", .ref r), ("_paths", .ref l), ("_places", .ref D), ("_text", sv (outM rs))]) := g9 ▸ (upd_same.trans rfl)
        refine fin _ (fun b u nb hb => ?_) ⟨dx, r, l, D, us, ws, a9, o9 _ _ (apart_ins (s8 _ _ r7) a8) (s8 _ _ r7), (ra7.same s8).off a8 o9, o9 _ _ (apart_ins (s8 _ _ l7) a8) (s8 _ _ l7), (pa7.same s8).off a8 o9, o9 _ _ (fun z => by rw [z] at d7; rw [a7] at d7; cases d7) (s8 _ _ d7), few⟩
        exact o9 _ _ nb (s8 _ _ (o7 _ _ nb (s6 _ _ (o5 _ _ nb (s24 _ _ (o2 _ _ nb (s1 _ _ hb)))))))
end
end K03

namespace K03
open PySem L2 DR DM TL
theorem ri {v : V} (h : v = v) : v = v := h
/-- the place behind a node and all below it -/
def endM (rs : List Row) (i : Nat) : Nat := i + 1 + ((rs.drop (i + 1)).takeWhile fun r => decide ((rs.getD i (0, [], [])).1 < r.1)).length
def depM (rs : List Row) (i : Nat) : Nat := (rs.getD i (0, [], [])).1
theorem row_at {H : Hp} : ∀ {us : List V} {rs : List Row}, RowsAt H us rs → ∀ {i : Nat}, i < rs.length → ∃ x r, us[i]? = some x ∧ rs[i]? = some r ∧ rs.getD i (0, [], []) = r ∧ RowAt H x r
  | _, _, .cons r _, 0, _ => ⟨_, _, rfl, rfl, rfl, r⟩
  | _, _, .cons _ t, i + 1, h => by
    obtain ⟨x, r, h1, h2, h3, h4⟩ := row_at t (i := i) (Nat.lt_of_succ_lt_succ h)
    exact ⟨x, r, h1, h2, h3, h4⟩
def spTextP (C : Addr) : Sp := fun vs H Q _ => ∃ a rs, vs = [.ref a] ∧ DocAt C H a rs ∧ Q (sv (outM rs)) H
def spSizeP (C : Addr) : Sp := fun vs H Q _ => ∃ a rs, vs = [.ref a] ∧ DocAt C H a rs ∧ Q (nv rs.length) H
def spHasP (K : PySem.W.Frag) (C : Addr) : Sp := fun vs H Q _ => ∃ (a : Addr) (rs : List Row) (x : V), vs = [.ref a, x] ∧ DocAt C H a rs ∧
  ((∃ t, TyX K H x t ∧ PySem.W.kitOne K t (.type "tuple") = some false ∧ ∀ H', Same H H' → Q (.bl false) H') ∨
   (∃ b us, x = .ref b ∧ H b = some (.tup us) ∧ us.all plainV = true ∧ us.length ≤ 1000 ∧ us.all intV = false ∧ ∀ H', Same H H' → Q (.bl false) H') ∨
   ∃ (b : Addr) (ks : List Int), x = .ref b ∧ H b = some (.tup (ks.map V.int)) ∧ ks.length ≤ 1000 ∧ ∀ H', Same H H' → Q (.bl (valV (plc (pathsM rs) rs.length) (ks.map fun i => (Sum.inl i : Key))).isSome) H')
def spEqP (K : PySem.W.Frag) (C : Addr) : Sp := fun vs H Q _ => ∃ (a : Addr) (rs : List Row) (x : V), vs = [.ref a, x] ∧ DocAt C H a rs ∧
  ((∃ t, TyX K H x t ∧ PySem.W.kitOne K t (.ref C) = some false ∧ Q (.bl false) H) ∨ ∃ b rs', x = .ref b ∧ DocAt C H b rs' ∧ TyX K H (.ref b) (.ref C) ∧ Q (.bl (decide (outM rs = outM rs'))) H)
def spPlaceP (C : Addr) : Sp := fun vs H Q _ => ∃ (a : Addr) (rs : List Row) (x : V) (q : Pth) (i : Nat), vs = [.ref a, x] ∧ DocAt C H a rs ∧ PthAt H x q ∧ q.length ≤ 1000 ∧ valV (plc (pathsM rs) rs.length) (pk q) = some (nv i) ∧ ∀ H', Same H H' → Q (nv i) H'
def spEndP (C : Addr) : Sp := fun vs H Q _ => ∃ (a : Addr) (rs : List Row) (i : Nat), vs = [.ref a, nv i] ∧ DocAt C H a rs ∧ i < rs.length ∧ Q (nv (endM rs i)) H
theorem all_int (ks : List Int) : (ks.map V.int).all plainV = true ∧ (ks.map V.int).all intV = true := by
  constructor <;>
  · rw [List.all_map, List.all_eq_true]
    intro k _
    rfl
section
variable {P : Program} {w : World} {K : PySem.W.Frag} {mg : Str → Option Value} {base : Heap}
theorem scTextP : FnScope ["self"] ["self"] (defScope (cDoc 1)) := ⟨rfl, rfl, rfl, by decide +kernel, rfl, by decide +kernel, by decide +kernel⟩
theorem ok_textP {f C : Addr} {fd : FuncData} (F : Fun K "text" "Document.text" (cDoc 1) f fd) (DC : DCls K mg C) : FnOk P w K mg base CX0 1 f fd ["self"] (spTextP C) := by
  refine F.ok scTextP (fun vs H Q E h => ?_) (fun cdv A outer s H vs Q E hr h => ?_)
  · obtain ⟨_, _, rfl, _⟩ := h
    rfl
  · obtain ⟨a, rs, rfl, ⟨dx, r, p, d, us, ws, h1, _⟩, fin⟩ := h
    exact ⟨_, pss_one (ps_ret (pe_fld (pv 0) rfl)), _, rfl, a, C, dx, _, _, rfl, h1, DC.cls, DC.text, rfl, fin⟩
theorem scSizeP : FnScope ["self"] ["self"] (defScope (cDoc 2)) := ⟨rfl, rfl, rfl, by decide +kernel, rfl, by decide +kernel, by decide +kernel⟩
theorem ok_sizeP {f C : Addr} {fd : FuncData} (F : Fun K "size" "Document.size" (cDoc 2) f fd) (T : Txt mg) (DC : DCls K mg C) : FnOk P w K mg base CX0 1 f fd ["self"] (spSizeP C) := by
  refine F.ok scSizeP (fun vs H Q E h => ?_) (fun cdv A outer s H vs Q E hr h => ?_)
  · obtain ⟨_, _, rfl, _⟩ := h
    rfl
  · obtain ⟨a, rs, rfl, ⟨dx, r, p, d, us, ws, h1, h2, h3, _⟩, fin⟩ := h
    refine ⟨_, pss_one (ps_ret (pe_callB call_len_seq (by rfl) T.len PySem.boot_len (pa_cons (pe_fld (pv 0) rfl) pa_nil))), _, rfl, a, C, dx, _, _, rfl, h1, DC.cls, DC.rows, rfl, r, us, rfl, .inr (.inl (.inl h2)), ?_⟩
    rw [h3.length]
    exact fin
theorem scHasP : FnScope ["self", "path"] ["self", "path"] (defScope (cDoc 4)) := ⟨rfl, rfl, rfl, by decide +kernel, rfl, by decide +kernel, by decide +kernel⟩
theorem ok_hasP {f C : Addr} {fd : FuncData} (F : Fun K "__contains__" "Document.__contains__" (cDoc 4) f fd) (DC : DCls K mg C) (D1 : Has P w K mg base 2 "is_path" ["value"] (spIsPath K)) : FnOk P w K mg base CX0 3 f fd ["self", "path"] (spHasP K C) := by
  obtain ⟨fP, fdP, GP, mP, kP, bP⟩ := D1
  refine F.ok scHasP (fun vs H Q E h => ?_) (fun cdv A outer s H vs Q E hr h => ?_)
  · obtain ⟨_, _, _, rfl, _⟩ := h
    rfl
  · obtain ⟨a, rs, x, rfl, dc, h⟩ := h
    have hu : (A.deeper (PyProof.Rows.envOfC "Document.__contains__" (defScope (cDoc 4)) s.heap.objs.size f cdv)).units + 1 < cLine := by
      have := hr.units
      omega
    refine ⟨_, pss_one (ps_ret (pe_and (pe_call GP hr (by rfl) mP kP bP .nil pass0 (pa_cons (pv 1) pa_nil)) (pe_one (pe_cmp (pc_din hu (pv 1) (pe_fld (pv 0) rfl)) rfl)))), ?_⟩
    rcases h with ⟨t, ty, kt, fin⟩ | ⟨b, us, rfl, hb, pl, few, ni, fin⟩ | ⟨b, ks, rfl, hb, few, fin⟩
    · exact ⟨_, rfl, x, rfl, .inl ⟨t, ty, kt, fun H' s1 => ⟨_, rfl, iteF (fin _ s1)⟩⟩⟩
    · refine ⟨_, rfl, _, rfl, .inr ⟨b, us, rfl, hb, pl, few, fun H' s1 => ⟨_, rfl, ?_⟩⟩⟩
      rw [ni]
      exact iteF (fin _ s1)
    · refine ⟨_, rfl, _, rfl, .inr ⟨b, _, rfl, hb, (all_int ks).1, by rw [List.length_map]; exact few, fun H' s1 => ⟨_, rfl, ?_⟩⟩⟩
      rw [(all_int ks).2]
      obtain ⟨dx, r, p, d, us, ws, h1, h2, h3, h4, h5, h6, _⟩ := dc.same s1
      have e : ks.map V.int = (ks.map fun i => (Sum.inl i : Key)).map kV := by
        rw [List.map_map]
        rfl
      refine iteT ⟨_, rfl, _, rfl, a, C, dx, _, _, rfl, h1, DC.cls, DC.places, rfl, d, _, rfl, DGet.t h6 (by rw [← e]; exact s1 _ _ hb), fin _ s1⟩
theorem scPlaceP : FnScope ["self", "path"] ["self", "path"] (defScope (cDoc 17)) := ⟨rfl, rfl, rfl, by decide +kernel, rfl, by decide +kernel, by decide +kernel⟩
/-- __contains__ as the class has it -/
structure HasIn (P : Program) (w : World) (K : PySem.W.Frag) (mg : Str → Option Value) (base : Heap) (C : Addr) : Prop where
  ex : ∃ f fd, FnOk P w K mg base CX0 3 f fd ["self", "path"] (spHasP K C) ∧ Binds K fd ["self", "path"] [] ∧ PySem.W.findIn K (.ref C) "__contains__" = some (some (.ref f)) ∧ PySem.W.isFn K (.ref f) = true
theorem ok_placeP {f C : Addr} {fd : FuncData} (F : Fun K "number_of" "Document.number_of" (cDoc 17) f fd) (DC : DCls K mg C) (D1 : HasIn P w K mg base C) : FnOk P w K mg base CX0 4 f fd ["self", "path"] (spPlaceP C) := by
  obtain ⟨fP, fdP, GP, bP, sP, iP⟩ := D1.ex
  refine F.ok scPlaceP (fun vs H Q E h => ?_) (fun cdv A outer s H vs Q E hr h => ?_)
  · obtain ⟨_, _, _, _, _, rfl, _⟩ := h
    rfl
  · obtain ⟨a, rs, x, q, i, rfl, dc, ⟨b, rfl, hb⟩, few, at_, fin⟩ := h
    have hu : (A.deeper (PyProof.Rows.envOfC "Document.number_of" (defScope (cDoc 17)) s.heap.objs.size f cdv)).units + 1 < cLine := by
      have := hr.units
      omega
    refine ⟨_, pss_cons (ps_if (pt_cmpR (op_notInM GP hr bP sP iP pass0) (pv 1) (pv 0) rfl) (pss_one ps_never) pss_nil)
      (pss_one (ps_ret (pe_dget hu (pe_fld (pv 0) rfl) (pv 1) (by intro _ _; rfl)))), ?_⟩
    obtain ⟨dx, r, p, d, us, ws, h1, _⟩ := id dc
    have e : (q.map nv) = (q.map fun (n : Nat) => ((n : Int))).map V.int := by
      rw [List.map_map]
      rfl
    have ek : (q.map fun (n : Nat) => ((n : Int))).map (fun i => (Sum.inl i : Key)) = pk q := by
      rw [List.map_map]
      rfl
    refine ⟨_, rfl, _, rfl, a, dx, _, rfl, h1, a, rs, _, rfl, dc, .inr (.inr ⟨b, q.map fun (n : Nat) => ((n : Int)), rfl, by rw [hb, e], by rw [List.length_map]; exact few, fun H' s1 => ⟨_, rfl, ?_⟩⟩)⟩
    rw [ek, at_]
    refine ⟨_, rfl, iteF ?_⟩
    obtain ⟨dx, r, p, d, us, ws, h1, h2, h3, h4, h5, h6, _⟩ := dc.same s1
    refine ⟨_, rfl, a, C, dx, _, _, rfl, h1, DC.cls, DC.places, rfl, _, rfl, d, nv i, rfl, ?_, fin _ s1⟩
    rw [← at_]
    exact DGet.t h6 (by rw [pk_v]; exact s1 _ _ hb)
end
end K03

namespace K03
open PySem L2 DR DM TL
theorem tw_len {α : Type} {p : α → Bool} : ∀ (l : List α) (k : Nat), (∀ j, j < k → ∃ x, l[j]? = some x ∧ p x = true) → (∀ x, l[k]? = some x → p x = false) → (l.takeWhile p).length = k
  | [], 0, _, _ => rfl
  | [], k + 1, h, _ => by
    obtain ⟨x, h1, _⟩ := h 0 (Nat.succ_pos k)
    cases h1
  | x :: l, 0, _, h => by
    have := h x rfl
    rw [List.takeWhile_cons, this]
    rfl
  | x :: l, k + 1, h1, h2 => by
    obtain ⟨y, e, px⟩ := h1 0 (Nat.succ_pos k)
    injection e with e
    subst e
    rw [List.takeWhile_cons, px, if_pos rfl, List.length_cons, tw_len l k (fun j hj => h1 (j + 1) (by omega)) fun y hy => h2 y hy]
theorem end_is {rs : List Row} {i e : Nat} (h0 : i + 1 ≤ e) (h1 : e ≤ rs.length) (h2 : ∀ j, i < j → j < e → depM rs i < depM rs j) (h3 : e < rs.length → ¬ depM rs i < depM rs e) : endM rs i = e := by
  have get : ∀ j, j < rs.length → rs[j]? = some (rs.getD j (0, [], [])) := fun j hj => by
    rw [List.getD_eq_getElem?_getD, List.getElem?_eq_getElem hj]
    rfl
  have t := tw_len (p := fun r : Row => decide ((rs.getD i (0, [], [])).1 < r.1)) (rs.drop (i + 1)) (e - (i + 1)) (fun j hj => ⟨_, by rw [List.getElem?_drop]; exact get _ (by omega), decide_eq_true (h2 _ (by omega) (by omega))⟩) fun x hx => by
    rw [List.getElem?_drop, show i + 1 + (e - (i + 1)) = e by omega] at hx
    have lt : e < rs.length := (List.getElem?_eq_some_iff.mp hx).1
    rw [get e lt] at hx
    injection hx with hx
    rw [← hx]
    exact decide_eq_false (h3 lt)
  unfold endM
  omega
def kidsM (rs : List Row) (i : Nat) : List Nat := ((List.range (endM rs i - (i + 1))).map (i + 1 + ·)).filter fun j => decide (depM rs j = depM rs i + 1)
theorem end_le (rs : List Row) (i : Nat) (h : i < rs.length) : i + 1 ≤ endM rs i ∧ endM rs i ≤ rs.length := by
  unfold endM
  have := (List.takeWhile_sublist (fun r : Row => decide ((rs.getD i (0, [], [])).1 < r.1)) (l := rs.drop (i + 1))).length_le
  rw [List.length_drop] at this
  omega
def spKidsP (C : Addr) : Sp := fun vs H Q _ => ∃ (a : Addr) (rs : List Row) (i : Nat), vs = [.ref a, nv i] ∧ DocAt C H a rs ∧ i < rs.length ∧ ∀ D H', H D = none → Same H H' → H' D = some (.lst ((kidsM rs i).map nv)) → Q (.ref D) H'
def spKindP (C : Addr) : Sp := fun vs H Q _ => ∃ (a : Addr) (rs : List Row) (x : V) (q : Pth) (i : Nat), vs = [.ref a, x] ∧ DocAt C H a rs ∧ PthAt H x q ∧ q.length ≤ 1000 ∧ i < rs.length ∧ valV (plc (pathsM rs) rs.length) (pk q) = some (nv i) ∧
  ∀ H', Same H H' → Q (sv (rs.getD i (0, [], [])).2.1) H'
def spMarksP (C : Addr) : Sp := fun vs H Q _ => ∃ (a : Addr) (rs : List Row) (x : V) (q : Pth) (i : Nat), vs = [.ref a, x] ∧ DocAt C H a rs ∧ PthAt H x q ∧ q.length ≤ 1000 ∧ i < rs.length ∧ valV (plc (pathsM rs) rs.length) (pk q) = some (nv i) ∧
  ∀ m H', Same H H' → H' m = some (.tup ((rs.getD i (0, [], [])).2.2.map sv)) → Q (.ref m) H'
def spWidthP (C : Addr) : Sp := fun vs H Q _ => ∃ (a : Addr) (rs : List Row) (x : V) (q : Pth) (i : Nat), vs = [.ref a, x] ∧ DocAt C H a rs ∧ PthAt H x q ∧ q.length ≤ 1000 ∧ i < rs.length ∧ valV (plc (pathsM rs) rs.length) (pk q) = some (nv i) ∧
  ∀ H', Same H H' → Q (nv (kidsM rs i).length) H'
section
variable {P : Program} {w : World} {K : PySem.W.Frag} {mg : Str → Option Value} {base : Heap}
theorem scEndP : FnScope ["self", "at", "end"] ["self", "at"] (defScope (cDoc 18)) := ⟨rfl, rfl, rfl, by decide +kernel, rfl, by decide +kernel, by decide +kernel⟩
theorem ok_endP {f C : Addr} {fd : FuncData} (F : Fun K "_end" "Document._end" (cDoc 18) f fd) (T : Txt mg) (DC : DCls K mg C) : FnOk P w K mg base CX0 1 f fd ["self", "at"] (spEndP C) := by
  refine F.ok scEndP (fun vs H Q E h => ?_) (fun cdv A outer s H vs Q E hr h => ?_)
  · obtain ⟨_, _, _, rfl, _⟩ := h
    rfl
  · obtain ⟨a, rs, i, rfl, ⟨dx, r, p, d, us, ws, h1, h2, h3, _⟩, hi, fin⟩ := h
    refine ⟨_, pss_cons (ps_set (i := 2) scEndP.nd rfl (Or.inl rfl) (pe_op op_add (pv 1) pe_int))
      (pss_cons (ps_while PassesOwn.never (PW.pt (pw_and (pt_cmpR op_lt (pv 2) (pe_callB call_len_seq (by rfl) T.len PySem.boot_len (pa_cons (pe_fld (pv 0) rfl) pa_nil)) rfl)
          (pw_and1 (pt_cmpR op_gt (pe_ix ix_tup (pe_ix ix_tup (pe_fld (pv 0) rfl) (pv 2) (fun _ _ => rfl)) pe_int (fun _ _ => rfl)) (pe_ix ix_tup (pe_ix ix_tup (pe_fld (pv 0) rfl) (pv 1) (fun _ _ => rfl)) pe_int (fun _ _ => rfl)) rfl))))
        (pss_one (ps_aug (i := 2) scEndP.nd rfl (Or.inl rfl) pe_int iop_add)))
      (pss_one (ps_ret (pv 2)))), ?_⟩
    have ul := h3.length
    obtain ⟨x0, r0, ux0, rx0, g0, a0, m0, rfl, ha0, _⟩ := row_at h3 hi
    have dep0 : depM rs i = r0.1 := congrArg Prod.fst g0
    refine ⟨_, rfl, _, _, rfl, rfl, fun m σ H' => ∃ e, σ = [some (.ref a), some (nv i), some (nv e)] ∧ H = H' ∧ m + e = rs.length ∧ i + 1 ≤ e ∧ ∀ j, i < j → j < e → depM rs i < depM rs j, ⟨rs.length - (i + 1), i + 1, rfl, rfl, by omega, Nat.le_refl _, fun j h1 h2 => by omega⟩, ?_⟩
    rintro m σ H' ⟨e, rfl, rfl, em, le, all⟩
    refine ⟨_, rfl, _, rfl, a, C, dx, _, _, rfl, h1, DC.cls, DC.rows, rfl, r, us, rfl, .inr (.inl (.inl h2)), _, _, rfl, rfl, _, rfl, ?_⟩
    rw [ul]
    by_cases c1 : e < rs.length
    · rw [decide_eq_true (show ((e : Nat) : Int) < ((rs.length : Nat) : Int) by omega)]
      obtain ⟨x1, r1, ux1, rx1, g1, a1, m1, rfl, ha1, _⟩ := row_at h3 c1
      have dep1 : depM rs e = r1.1 := congrArg Prod.fst g1
      refine iteT ⟨_, rfl, a, C, dx, _, _, rfl, h1, DC.cls, DC.rows, rfl, _, rfl, r, us, _, _, rfl, rfl, .inl (.inl h2), atI_nat ux1, a1, _, 0, _, rfl, rfl, .inl (.inl ha1), atI_nat (j := 0) rfl,
        _, rfl, a, C, dx, _, _, rfl, h1, DC.cls, DC.rows, rfl, _, rfl, r, us, _, _, rfl, rfl, .inl (.inl h2), atI_nat ux0, a0, _, 0, _, rfl, rfl, .inl (.inl ha0), atI_nat (j := 0) rfl, _, _, rfl, rfl, _, rfl, ?_⟩
      by_cases c2 : depM rs i < depM rs e
      · rw [decide_eq_true (show ((r0.1 : Nat) : Int) < ((r1.1 : Nat) : Int) by omega)]
        refine iteT ⟨fun σ H' => ∃ e', σ = [some (.ref a), some (nv i), some (nv e')] ∧ H = H' ∧ e' = e + 1, ?_, ⟨_, rfl, _, _, rfl, rfl, e + 1, rfl, rfl, rfl⟩⟩
        rintro σ' H'' ⟨_, rfl, rfl, rfl⟩
        refine ⟨m - 1, by omega, e + 1, rfl, rfl, by omega, by omega, fun j h1 h2 => ?_⟩
        rcases Nat.lt_or_ge j e with q | q
        · exact all j h1 q
        · have : j = e := by omega
          rw [this]
          exact c2
      · rw [decide_eq_false (show ¬ ((r0.1 : Nat) : Int) < ((r1.1 : Nat) : Int) by omega)]
        refine iteF ⟨_, rfl, ?_⟩
        rw [← end_is le (by omega) all fun _ => c2]
        exact fin
    · rw [decide_eq_false (show ¬ ((e : Nat) : Int) < ((rs.length : Nat) : Int) by omega)]
      refine iteF (iteF ⟨_, rfl, ?_⟩)
      rw [← end_is le (by omega) all fun z => absurd z c1]
      exact fin
theorem scKidsP : FnScope ["self", "at", "depth", "place"] ["self", "at"] (defScope (cDoc 19)) := ⟨rfl, rfl, rfl, by decide +kernel, rfl, by decide +kernel, by decide +kernel⟩
theorem ok_kidsP {f C : Addr} {fd : FuncData} (F : Fun K "_children" "Document._children" (cDoc 19) f fd) (T : Txt mg) (DC : DCls K mg C) (D1 : C8.Met P w K mg base 1 C "_end" (spEndP C) []) : FnOk P w K mg base CX0 2 f fd ["self", "at"] (spKidsP C) := by
  refine F.ok scKidsP (fun vs H Q E h => ?_) (fun cdv A outer s H vs Q E hr h => ?_)
  · obtain ⟨_, _, _, rfl, _⟩ := h
    rfl
  · obtain ⟨a, rs, i, rfl, dc, hi, fin⟩ := h
    refine ⟨_, pss_cons (ps_set (i := 2) scKidsP.nd rfl (Or.inr rfl) (pe_op op_add (pe_ix ix_tup (pe_ix ix_tup (pe_fld (pv 0) rfl) (pv 1) (fun _ _ => rfl)) pe_int (fun _ _ => rfl)) pe_int))
      (pss_one (ps_ret (pe_lc (own := [("place", 3)]) (g := gName 3) (tt := tTest (tOp rEq (tOp (rIxT K) (tOp (rIxT K) (tFld K (tVar 0) "_rows") (tVar 3)) (tC (.int 0))) (tVar 2))) rfl scKidsP.nd
        (pi_range2 (by rfl) T.range (pa_cons (pe_op op_add (pv 1) pe_int) (pa_cons (C8.pe_mt D1 hr (Nat.le_refl _) (pv 0) (pa_cons (pv 1) pa_nil)) pa_nil)))
        (blkOk_by (N := ["self", "at", "depth", "place"]) (sc := defScope (cDoc 19)) (by decide +kernel)) (fun _ _ _ _ _ => pg_name (i := 3) scKidsP.nd rfl (Or.inl rfl))
        (fun _ _ _ _ _ => pts_one (pt_cmpR op_eq (pe_ix ix_tup (pe_ix ix_tup (pe_fld (pv 0) rfl) (pv 3) (fun _ _ => rfl)) pe_int (fun _ _ => rfl)) (pv 2) rfl)) (fun _ _ _ _ _ => pv 3)))), ?_⟩
    obtain ⟨dx, r, p, d, us, ws, h1, h2, h3, _⟩ := id dc
    obtain ⟨x0, r0, ux0, rx0, g0, a0, m0, rfl, ha0, _⟩ := row_at h3 hi
    have dep0 : depM rs i = r0.1 := congrArg Prod.fst g0
    obtain ⟨el, eu⟩ := end_le rs i hi
    have B := big
    obtain ⟨_, _, _, _, _, _, _, _, _, _, _, _, few⟩ := id dc
    refine ⟨_, rfl, a, C, dx, _, _, rfl, h1, DC.cls, DC.rows, rfl, _, rfl, r, us, _, _, rfl, rfl, .inl (.inl h2), atI_nat ux0, a0, _, 0, _, rfl, rfl, .inl (.inl ha0), atI_nat (j := 0) rfl, _, _, rfl, rfl, ?_⟩
    refine ⟨_, rfl, _, _, rfl, rfl, _, rfl, a, dx, _, rfl, h1, rfl, _, rfl, a, rs, i, rfl, dc, hi, ?_⟩
    have f1 := few.1
    have en : ((((endM rs i : Nat) : Int)) - (((i : Nat) : Int) + 1)).toNat = endM rs i - (i + 1) := by omega
    refine ⟨_, _, rfl, ⟨by omega, by omega, by omega, by omega⟩, fun D hD => ?_⟩
    rw [en]
    refine lc_it (walk_range (lo := ((i : Nat) : Int) + 1) (n := endM rs i - (i + 1))) (fun j H' => Same H H' ∧ H' D = some (.lst ((((List.range j).map (i + 1 + ·)).filter fun j => decide (depM rs j = depM rs i + 1)).map nv)))
      ⟨same_new hD, upd_same⟩ (fun _ _ _ _ => trivial) ?_ ?_
    · rintro j x H6 H7 hj ⟨s6, m6⟩ ⟨rfl, rfl⟩
      have ij : ((i : Nat) : Int) + 1 + ((j : Nat) : Int) = ((i + 1 + j : Nat) : Int) := by omega
      show gName 3 (V.int (((i : Nat) : Int) + 1 + ((j : Nat) : Int))) _ _ _
      rw [ij]
      obtain ⟨x1, r1, ux1, rx1, g1, a1, m1, rfl, ha1, _⟩ := row_at h3 (show i + 1 + j < rs.length by omega)
      have dep1 : depM rs (i + 1 + j) = r1.1 := congrArg Prod.fst g1
      refine ⟨rfl, ?_⟩
      refine ⟨_, rfl, a, C, dx, _, _, rfl, s6 _ _ h1, DC.cls, DC.rows, rfl, _, rfl, r, us, _, _, rfl, rfl, .inl (.inl (s6 _ _ h2)), atI_nat ux1, a1, _, 0, _, rfl, rfl, .inl (.inl (s6 _ _ ha1)), atI_nat (j := 0) rfl, _, rfl, rfl, _, rfl, ?_⟩
      have same_test : decide (V.int ((r1.1 : Nat) : Int) = V.int (((r0.1 : Nat) : Int) + 1)) = decide (depM rs (i + 1 + j) = depM rs i + 1) := by
        rw [decide_eq_decide, dep0, dep1]
        exact ⟨fun z => by injection z with z; omega, fun z => by rw [z]; rfl⟩
      have next : ((List.range (j + 1)).map (i + 1 + ·)).filter (fun j => decide (depM rs j = depM rs i + 1)) = ((List.range j).map (i + 1 + ·)).filter (fun j => decide (depM rs j = depM rs i + 1)) ++ (if depM rs (i + 1 + j) = depM rs i + 1 then [i + 1 + j] else []) := by
        rw [List.range_succ, List.map_append, List.filter_append]
        congr 1
        by_cases c : depM rs (i + 1 + j) = depM rs i + 1
        · simp [c]
        · simp [c]
      show if decide (V.int ((r1.1 : Nat) : Int) = V.int (((r0.1 : Nat) : Int) + 1)) = true then _ else _
      rw [same_test]
      by_cases c : depM rs (i + 1 + j) = depM rs i + 1
      · rw [decide_eq_true c]
        refine iteT ⟨_, rfl, _, m6, ?_, same_put s6 hD, ?_⟩
        · rw [List.length_map]
          have := List.length_filter_le (fun j => decide (depM rs j = depM rs i + 1)) ((List.range j).map (i + 1 + ·))
          rw [List.length_map, List.length_range] at this
          omega
        · rw [upd_same, next, if_pos c, List.map_append]
          rfl
      · rw [decide_eq_false c]
        refine iteF ⟨s6, ?_⟩
        rw [next, if_neg c, List.append_nil]
        exact m6
    · rintro H6 ⟨s6, m6⟩
      exact fin D _ hD s6 m6
end
end K03

namespace K03
open PySem L2 DR DM TL
/-- the rows of a part, as they stand by themselves -/
def partM (rs : List Row) (i : Nat) : List Row := (((rs.drop i).take (endM rs i - i)).map (up (-(depM rs i : Int))))
def spPartP (C : Addr) : Sp := fun vs H Q _ => ∃ (a : Addr) (rs : List Row) (x : V) (q : Pth) (i : Nat), vs = [.ref a, x] ∧ DocAt C H a rs ∧ PthAt H x q ∧ q.length ≤ 1000 ∧ i < rs.length ∧ valV (plc (pathsM rs) rs.length) (pk q) = some (nv i) ∧
  ∀ b H', Same H H' → DocAt C H' b (partM rs i) → Q (.ref b) H'
def spParse (C : Addr) : Sp := fun vs H Q _ => ∃ (t : Str) (rs : List Row), vs = [.str t] ∧ (tl t).length ≤ 30000 ∧ (∀ ps, cutM LD SG (tl t) = some ps → ∀ p ∈ ps, (spl [46] 0 [] p).length < 64) ∧ (cutM LD SG (tl t)).bind (readM srt) = some rs ∧ Few rs ∧
  ∀ b H', Same H H' → DocAt C H' b rs → Q (.ref b) H'
theorem paired_take {α β : Type} {F : α → β → Prop} : ∀ {xs : List α} {ys : List β}, Paired F xs ys → ∀ n, Paired F (xs.take n) (ys.take n)
  | _, _, .nil, n => by
    rw [List.take_nil, List.take_nil]
    exact .nil
  | _, _, .cons _ _, 0 => .nil
  | _, _, .cons h t, n + 1 => .cons h (paired_take t n)
theorem paired_drop {α β : Type} {F : α → β → Prop} : ∀ {xs : List α} {ys : List β}, Paired F xs ys → ∀ n, Paired F (xs.drop n) (ys.drop n)
  | _, _, .nil, n => by
    rw [List.drop_nil, List.drop_nil]
    exact .nil
  | _, _, .cons h t, 0 => .cons h t
  | _, _, .cons _ t, n + 1 => paired_drop t n
abbrev nvi (n : Nat) : Int := (n : Int)
theorem few_part {rs : List Row} (f : Few rs) (i : Nat) : Few (partM rs i) := by
  obtain ⟨h1, h2⟩ := f
  unfold partM
  refine ⟨?_, fun r hr => ?_⟩
  · rw [List.length_map, List.length_take, List.length_drop]
    omega
  · obtain ⟨r', m, rfl⟩ := List.mem_map.mp hr
    obtain ⟨g1, g2⟩ := h2 r' (List.mem_of_mem_drop (List.mem_of_mem_take m))
    refine ⟨?_, g2⟩
    show ((r'.1 : Int) + -(depM rs i : Int)).toNat ≤ 200
    omega
theorem part_deep {rs : List Row} {i : Nat} (hi : i < rs.length) : ∀ r ∈ (rs.drop i).take (endM rs i - i), depM rs i ≤ r.1 := by
  have hd : rs.drop i = rs.getD i (0, [], []) :: rs.drop (i + 1) := by
    rw [List.drop_eq_getElem_cons hi, List.getD_eq_getElem?_getD, List.getElem?_eq_getElem hi]
    rfl
  have len : endM rs i - i = ((rs.drop (i + 1)).takeWhile fun r => decide (depM rs i < r.1)).length + 1 := by
    show i + 1 + ((rs.drop (i + 1)).takeWhile fun r => decide (depM rs i < r.1)).length - i = _
    omega
  intro r hr
  rw [len, hd, List.take_succ_cons] at hr
  rcases List.mem_cons.mp hr with e | hr
  · exact Nat.le_of_eq (congrArg Prod.fst e).symm
  · have tk : (rs.drop (i + 1)).take ((rs.drop (i + 1)).takeWhile fun r => decide (depM rs i < r.1)).length = (rs.drop (i + 1)).takeWhile fun r => decide (depM rs i < r.1) := by
      exact (List.prefix_iff_eq_take.mp (List.takeWhile_prefix _)).symm
    rw [tk] at hr
    have := List.all_eq_true.mp (List.all_takeWhile (p := fun r : Row => decide (depM rs i < r.1)) (l := rs.drop (i + 1))) r hr
    exact Nat.le_of_lt (of_decide_eq_true this)
section
variable {P : Program} {w : World} {K : PySem.W.Frag} {mg : Str → Option Value} {base : Heap}
theorem scKindP : FnScope ["self", "path"] ["self", "path"] (defScope (cDoc 8)) := ⟨rfl, rfl, rfl, by decide +kernel, rfl, by decide +kernel, by decide +kernel⟩
theorem ok_kindP {f C : Addr} {fd : FuncData} (F : Fun K "kind" "Document.kind" (cDoc 8) f fd) (DC : DCls K mg C) (D1 : C8.Met P w K mg base 4 C "number_of" (spPlaceP C) []) : FnOk P w K mg base CX0 5 f fd ["self", "path"] (spKindP C) := by
  refine F.ok scKindP (fun vs H Q E h => ?_) (fun cdv A outer s H vs Q E hr h => ?_)
  · obtain ⟨_, _, _, _, _, rfl, _⟩ := h
    rfl
  · obtain ⟨a, rs, x, q, i, rfl, dc, px, few, hi, at_, fin⟩ := h
    refine ⟨_, pss_one (ps_ret (pe_ix ix_tup (pe_ix ix_tup (pe_fld (pv 0) rfl) (C8.pe_mt D1 hr (Nat.le_refl _) (pv 0) (pa_cons (pv 1) pa_nil)) (fun _ _ => rfl)) pe_int (fun _ _ => rfl))), ?_⟩
    obtain ⟨dx, r, p, d, us, ws, h1, h2, h3, _⟩ := id dc
    obtain ⟨x1, r1, ux1, rx1, g1, a1, m1, rfl, ha1, hm1⟩ := row_at h3 hi
    refine ⟨_, rfl, a, C, dx, _, _, rfl, h1, DC.cls, DC.rows, rfl, _, rfl, a, dx, _, rfl, h1, rfl, _, rfl, a, rs, x, q, i, rfl, dc, px, few, at_, fun H' s1 => ?_⟩
    refine ⟨r, us, _, _, rfl, rfl, .inl (.inl (s1 _ _ h2)), atI_nat ux1, a1, _, 1, _, rfl, rfl, .inl (.inl (s1 _ _ ha1)), atI_nat (j := 1) rfl, ?_⟩
    have := fin _ s1
    rw [g1] at this
    exact this
theorem scMarksP : FnScope ["self", "path"] ["self", "path"] (defScope (cDoc 9)) := ⟨rfl, rfl, rfl, by decide +kernel, rfl, by decide +kernel, by decide +kernel⟩
theorem ok_marksP {f C : Addr} {fd : FuncData} (F : Fun K "marks" "Document.marks" (cDoc 9) f fd) (DC : DCls K mg C) (D1 : C8.Met P w K mg base 4 C "number_of" (spPlaceP C) []) : FnOk P w K mg base CX0 5 f fd ["self", "path"] (spMarksP C) := by
  refine F.ok scMarksP (fun vs H Q E h => ?_) (fun cdv A outer s H vs Q E hr h => ?_)
  · obtain ⟨_, _, _, _, _, rfl, _⟩ := h
    rfl
  · obtain ⟨a, rs, x, q, i, rfl, dc, px, few, hi, at_, fin⟩ := h
    refine ⟨_, pss_one (ps_ret (pe_ix ix_tup (pe_ix ix_tup (pe_fld (pv 0) rfl) (C8.pe_mt D1 hr (Nat.le_refl _) (pv 0) (pa_cons (pv 1) pa_nil)) (fun _ _ => rfl)) pe_int (fun _ _ => rfl))), ?_⟩
    obtain ⟨dx, r, p, d, us, ws, h1, h2, h3, _⟩ := id dc
    obtain ⟨x1, r1, ux1, rx1, g1, a1, m1, rfl, ha1, hm1⟩ := row_at h3 hi
    refine ⟨_, rfl, a, C, dx, _, _, rfl, h1, DC.cls, DC.rows, rfl, _, rfl, a, dx, _, rfl, h1, rfl, _, rfl, a, rs, x, q, i, rfl, dc, px, few, at_, fun H' s1 => ?_⟩
    refine ⟨r, us, _, _, rfl, rfl, .inl (.inl (s1 _ _ h2)), atI_nat ux1, a1, _, 2, _, rfl, rfl, .inl (.inl (s1 _ _ ha1)), atI_nat (j := 2) rfl, ?_⟩
    exact fin m1 _ s1 (by rw [g1]; exact s1 _ _ hm1)
theorem scWidthP : FnScope ["self", "path"] ["self", "path"] (defScope (cDoc 10)) := ⟨rfl, rfl, rfl, by decide +kernel, rfl, by decide +kernel, by decide +kernel⟩
theorem ok_widthP {f C : Addr} {fd : FuncData} (F : Fun K "width" "Document.width" (cDoc 10) f fd) (T : Txt mg) (DC : DCls K mg C) (D1 : C8.Met P w K mg base 4 C "number_of" (spPlaceP C) []) (D2 : C8.Met P w K mg base 2 C "_children" (spKidsP C) []) : FnOk P w K mg base CX0 5 f fd ["self", "path"] (spWidthP C) := by
  refine F.ok scWidthP (fun vs H Q E h => ?_) (fun cdv A outer s H vs Q E hr h => ?_)
  · obtain ⟨_, _, _, _, _, rfl, _⟩ := h
    rfl
  · obtain ⟨a, rs, x, q, i, rfl, dc, px, few, hi, at_, fin⟩ := h
    refine ⟨_, pss_one (ps_ret (pe_callB call_len_seq (by rfl) T.len PySem.boot_len (pa_cons (C8.pe_mt D2 hr (by decide) (pv 0) (pa_cons (C8.pe_mt D1 hr (Nat.le_refl _) (pv 0) (pa_cons (pv 1) pa_nil)) pa_nil)) pa_nil))), ?_⟩
    obtain ⟨dx, r, p, d, us, ws, h1, h2, h3, _⟩ := id dc
    refine ⟨_, rfl, a, dx, _, rfl, h1, rfl, _, rfl, a, dx, _, rfl, h1, rfl, _, rfl, a, rs, x, q, i, rfl, dc, px, few, at_, fun H' s1 => ?_⟩
    refine ⟨a, rs, i, rfl, dc.same s1, hi, fun D H2 _ s2 m2 => ⟨D, _, rfl, .inl (SqL.of m2), ?_⟩⟩
    rw [List.length_map]
    exact fin _ (s1.trans s2)
theorem scPartP : FnScope ["self", "path", "at"] ["self", "path"] (defScope (cDoc 11)) := ⟨rfl, rfl, rfl, by decide +kernel, rfl, by decide +kernel, by decide +kernel⟩
theorem same_make {H H2 : Hp} {x dx C : Addr} (hx : H x = none) (hd : H dx = none) (o : Off x (upd (upd H dx (.own x)) x (.ins C dx [])) H2) : Same H H2 := fun b u e => by
  refine o b u (ne_of_none e hx) ?_
  rw [upd_ne (ne_of_none e hx), upd_ne (ne_of_none e hd)]
  exact e
theorem same_up {H : Hp} {x dx C : Addr} (hx : H x = none) (hd : H dx = none) : Same H (upd (upd H dx (.own x)) x (.ins C dx [])) := fun b u e => by
  rw [upd_ne (ne_of_none e hx), upd_ne (ne_of_none e hd)]
  exact e
theorem ok_partP {f C : Addr} {fd : FuncData} (F : Fun K "part" "Document.part" (cDoc 11) f fd) (DC : DCls K mg C) (D1 : C8.Met P w K mg base 4 C "number_of" (spPlaceP C) []) (D2 : C8.Met P w K mg base 1 C "_end" (spEndP C) [])
    (D3 : Has P w K mg base 1 "moved" ["rows", "by"] spMoved) (D4 : C8.Mak P w K mg base 2 "Document" C (spInit C) []) : FnOk P w K mg base CX0 5 f fd ["self", "path"] (spPartP C) := by
  obtain ⟨fM, fdM, GM, mM, kM, bM⟩ := D3
  refine F.ok scPartP (fun vs H Q E h => ?_) (fun cdv A outer s H vs Q E hr h => ?_)
  · obtain ⟨_, _, _, _, _, rfl, _⟩ := h
    rfl
  · obtain ⟨a, rs, x, q, i, rfl, dc, px, few, hi, at_, fin⟩ := h
    have hr1 : Room 1 _ := hr.mono (by decide)
    refine ⟨_, pss_cons (ps_set (i := 2) scPartP.nd rfl (Or.inl rfl) (C8.pe_mt D1 hr (Nat.le_refl _) (pv 0) (pa_cons (pv 1) pa_nil)))
      (pss_one (ps_ret (C8.pe_mk D4 hr (by decide) (by rfl) (pa_cons (pe_call GM hr1 (by rfl) mM kM bM .nil pass0 (pa_cons (pe_slice sl_tupA (pe_fld (pv 0) rfl) (po_some (pv 2)) (po_some (C8.pe_mt D2 hr (by decide) (pv 0) (pa_cons (pv 2) pa_nil))))
        (pa_cons (pe_un un_neg (pe_ix ix_tup (pe_ix ix_tup (pe_fld (pv 0) rfl) (pv 2) (fun _ _ => rfl)) pe_int (fun _ _ => rfl))) pa_nil))) pa_nil)))), ?_⟩
    refine ⟨_, rfl, a, _, _, rfl, dc.choose_spec.choose_spec.choose_spec.choose_spec.choose_spec.choose_spec.1, rfl, _, rfl, a, rs, x, q, i, rfl, dc, px, few, at_, fun H1 s1 => ?_⟩
    obtain ⟨dx, r, p, d, us, ws, h1, h2, h3, h4, h5, h6, fw⟩ := dc.same s1
    obtain ⟨el, eu⟩ := end_le rs i hi
    have ul := h3.length
    obtain ⟨x1, r1, ux1, rx1, g1, a1, m1, rfl, ha1, hm1⟩ := row_at h3 hi
    have dep1 : depM rs i = r1.1 := congrArg Prod.fst g1
    have hcut : cutV us (some ((i : Nat) : Int)) (some ((endM rs i : Nat) : Int)) = (us.drop i).take (endM rs i - i) := by
      unfold cutV
      rw [HT.sIx_nat, HT.sIx_nat, Nat.min_eq_left (by omega), Nat.min_eq_left (by omega)]
    have prt : RowsAt H1 ((us.drop i).take (endM rs i - i)) ((rs.drop i).take (endM rs i - i)) := paired_take (paired_drop h3 i) _
    refine ⟨_, rfl, a, C, dx, _, _, rfl, h1, DC.cls, DC.rows, rfl, _, rfl, _, rfl, _, rfl, a, dx, _, rfl, h1, rfl, _, rfl, a, rs, i, rfl, dc.same s1, hi, _, rfl, r, us, rfl, .inl (.inl h2), fun z => ?_, fun _ b hb => ?_⟩
    · have whole : (us.drop i).take (endM rs i - i) = us := by
        obtain ⟨z1, z2⟩ := z
        have z1 : HT.sIx us.length 0 (some ((i : Nat) : Int)) = 0 := z1
        have z2 : HT.sIx us.length us.length (some ((endM rs i : Nat) : Int)) = us.length := z2
        rw [HT.sIx_nat] at z1 z2
        have i0 : i = 0 := by omega
        rw [i0, List.drop_zero, List.take_of_length_le (by rw [i0] at z2; omega)]
      have s2 : Same H1 H1 := Same.refl H1
      have m2 : H1 r = some (.tup ((us.drop i).take (endM rs i - i))) := by
        rw [whole]
        exact h2
      refine ⟨_, rfl, a, C, dx, _, _, rfl, s2 _ _ h1, DC.cls, DC.rows, rfl, _, rfl, r, us, _, _, rfl, rfl, .inl (.inl (s2 _ _ h2)), atI_nat ux1, a1, _, 0, _, rfl, rfl, .inl (.inl (s2 _ _ ha1)), atI_nat (j := 0) rfl, _, rfl, ?_⟩
      refine ⟨r, (us.drop i).take (endM rs i - i), (rs.drop i).take (endM rs i - i), _, rfl, m2, prt.same s2, ?_, ?_, fun q2 w3 H3 n3 s3 t3 ra3 => ?_⟩
      · rw [List.length_take, List.length_drop]
        have := fw.1
        omega
      · intro r' hr'
        have := part_deep hi r' hr'
        show 0 ≤ ((r'.1 : Nat) : Int) + -((r1.1 : Nat) : Int)
        omega
      · intro y dy hy hdy ne
        have s4 := same_up (C := C) hy hdy
        refine ⟨y, dy, q2, w3, partM rs i, rfl, upd_same, .inl (s4 _ _ t3), ?_, few_part fw i, fun H4 o4 d4 => ⟨rfl, fin y _ ((s1.trans s2).trans (s3.trans (same_make hy hdy o4))) d4⟩⟩
        have e : partM rs i = ((rs.drop i).take (endM rs i - i)).map (up (-((r1.1 : Nat) : Int))) := by
          unfold partM
          rw [dep1]
        rw [e]
        exact ra3.same s4
    · rw [show cutV us (some (nvi i)) (some (nvi (endM rs i))) = (us.drop i).take (endM rs i - i) from hcut]
      generalize g2 : upd H1 b _ = H2
      have s2 : Same H1 H2 := g2 ▸ same_new hb
      have m2 : H2 b = some (.tup ((us.drop i).take (endM rs i - i))) := g2 ▸ upd_same
      refine ⟨_, rfl, a, C, dx, _, _, rfl, s2 _ _ h1, DC.cls, DC.rows, rfl, _, rfl, r, us, _, _, rfl, rfl, .inl (.inl (s2 _ _ h2)), atI_nat ux1, a1, _, 0, _, rfl, rfl, .inl (.inl (s2 _ _ ha1)), atI_nat (j := 0) rfl, _, rfl, ?_⟩
      refine ⟨b, (us.drop i).take (endM rs i - i), (rs.drop i).take (endM rs i - i), _, rfl, m2, prt.same s2, ?_, ?_, fun q2 w3 H3 n3 s3 t3 ra3 => ?_⟩
      · rw [List.length_take, List.length_drop]
        have := fw.1
        omega
      · intro r' hr'
        have := part_deep hi r' hr'
        show 0 ≤ ((r'.1 : Nat) : Int) + -((r1.1 : Nat) : Int)
        omega
      · intro y dy hy hdy ne
        have s4 := same_up (C := C) hy hdy
        refine ⟨y, dy, q2, w3, partM rs i, rfl, upd_same, .inl (s4 _ _ t3), ?_, few_part fw i, fun H4 o4 d4 => ⟨rfl, fin y _ ((s1.trans s2).trans (s3.trans (same_make hy hdy o4))) d4⟩⟩
        have e : partM rs i = ((rs.drop i).take (endM rs i - i)).map (up (-((r1.1 : Nat) : Int))) := by
          unfold partM
          rw [dep1]
        rw [e]
        exact ra3.same s4
end
end K03

namespace K03
open PySem L2 DR DM TL
abbrev sParse : Stmt := top 18
section
variable {P : Program} {w : World} {K : PySem.W.Frag} {mg : Str → Option Value} {base : Heap}
theorem scEqP : FnScope ["self", "other"] ["self", "other"] (defScope (cDoc 5)) := ⟨rfl, rfl, rfl, by decide +kernel, rfl, by decide +kernel, by decide +kernel⟩
theorem ok_eqP {f C : Addr} {fd : FuncData} (F : Fun K "__eq__" "Document.__eq__" (cDoc 5) f fd) (T : Txt mg) (DC : DCls K mg C) (hm : mg "Document" = some (.ref C)) (hk : PySem.W.kitOne K (.ref C) (.ref C) = some true) : FnOk P w K mg base CX0 1 f fd ["self", "other"] (spEqP K C) := by
  refine F.ok scEqP (fun vs H Q E h => ?_) (fun cdv A outer s H vs Q E hr h => ?_)
  · obtain ⟨_, _, _, rfl, _⟩ := h
    rfl
  · obtain ⟨a, rs, x, rfl, ⟨dx, r, p, d, us, ws, h1, _⟩, h⟩ := h
    refine ⟨_, pss_one (ps_ret (pe_and (pe_callB call_isi (by rfl) T.isi PyProof.Rows.boot_isinstance (pa_cons (pv 1) (pa_cons (pe_glob (v := .ref C) (by rfl) hm rfl) pa_nil)))
      (pe_one (pe_cmpR op_eq (pe_fld (pv 0) rfl) (pe_fld (pv 1) rfl) rfl)))), ?_⟩
    rcases h with ⟨t, ty, kt, fin⟩ | ⟨b, rs', rfl, ⟨dx', r', p', d', us', ws', h1', _⟩, ty, fin⟩
    · exact ⟨_, rfl, x, .ref C, t, _, false, rfl, .own C, ty, kt, false, rfl, iteF fin⟩
    · refine ⟨_, rfl, .ref b, .ref C, .ref C, _, true, rfl, .own C, ty, hk, true, rfl, iteT ?_⟩
      refine ⟨_, rfl, a, C, dx, _, _, rfl, h1, DC.cls, DC.text, rfl, _, rfl, b, C, dx', _, _, rfl, h1', DC.cls, DC.text, rfl, rfl, ?_⟩
      rw [sv_is]
      exact fin
theorem scParse : FnScope ["text", "rows"] ["text"] (defScope sParse) := ⟨rfl, rfl, rfl, by decide +kernel, rfl, by decide +kernel, by decide +kernel⟩
theorem ok_parse {f C : Addr} {fd : FuncData} (F : Fun K "parse_document" "parse_document" sParse f fd) (T : Txt mg) (D1 : Has P w K mg base 4 "read_rows" ["text"] spRows) (D2 : C8.Mak P w K mg base 2 "Document" C (spInit C) []) :
    FnOk P w K mg base CX0 5 f fd ["text"] (spParse C) := by
  obtain ⟨fR, fdR, GR, mR, kR, bR⟩ := D1
  obtain ⟨uM, mM, rM⟩ := T.most
  refine F.ok scParse (fun vs H Q E h => ?_) (fun cdv A outer s H vs Q E hr h => ?_)
  · obtain ⟨_, _, rfl, _⟩ := h
    rfl
  · obtain ⟨t, rs, rfl, len, small, rd, few, fin⟩ := h
    refine ⟨_, pss_cons (ps_set (i := 1) scParse.nd rfl (Or.inl rfl) pe_non)
      (pss_cons (ps_if (pt_val (pe_callB call_isi (by rfl) T.isi PyProof.Rows.boot_isinstance (pa_cons (pv 0) (pa_cons (pe_bltn (v := .ty "str") (by rfl) T.str (by decide +kernel) rfl) pa_nil)))) (pss_one (ps_set (i := 1) scParse.nd rfl (Or.inl rfl) (pe_call GR hr (by rfl) mR kR bR .nil pass0 (pa_cons (pv 0) pa_nil)))) pss_nil)
      (pss_cons (ps_if (pt_cmpR op_isN (pv 1) pe_non rfl) (pss_one ps_never) pss_nil)
      (pss_cons (ps_if (pt_cmpR op_gt (pe_callB call_len_seq (by rfl) T.len PySem.boot_len (pa_cons (pv 1) pa_nil)) (pe_glob (v := .int 200) (by rfl) mM rM) rfl) (pss_one ps_never) pss_nil)
      (pss_one (ps_ret (C8.pe_mk D2 hr (by decide) (by rfl) (pa_cons (pv 1) pa_nil))))))), ?_⟩
    refine ⟨_, rfl, .str t, _, .type "str", _, true, rfl, .ty _, .base (.str t), by rfl, true, rfl, iteT ?_⟩
    refine ⟨_, rfl, t, rfl, len, small, fun z => by rw [rd] at z; (cases z), fun rs2 p vs H1 e2 _ n1 s1 m1 ra => ?_⟩
    obtain rfl : rs = rs2 := by
      rw [rd] at e2
      exact Option.some.inj e2
    refine ⟨_, rfl, rfl, false, rfl, iteF ⟨_, rfl, p, vs, rfl, .inl (SqL.of m1), _, _, rfl, rfl, _, rfl, ?_⟩⟩
    rw [ra.length]
    rw [decide_eq_false (show ¬ (200 : Int) < ((rs.length : Nat) : Int) by have := few.1; omega)]
    refine iteF ⟨_, rfl, fun y dy hy hdy ne => ?_⟩
    have s4 := same_up (C := C) hy hdy
    exact ⟨y, dy, p, vs, rs, rfl, upd_same, .inr (s4 _ _ m1), ra.same s4, few, fun H4 o4 d4 => ⟨rfl, fin y _ (s1.trans (same_make hy hdy o4)) d4⟩⟩
end
end K03

namespace K03
open PySem L2 DR DM TL
abbrev sPool : Stmt := top 27
abbrev sTake : Stmt := top 28
def M31 : Int := 2147483647
/-- a drawn pool -/
def Pool (H : Hp) (p : Addr) (a b : Int) : Prop := H p = some (.lst [.int a, .int b]) ∧ 0 ≤ a ∧ 0 ≤ b ∧ b < M31
def spPool (K : PySem.W.Frag) : Sp := fun vs H Q _ => ∃ (sc : Addr) (ns : List Int) (k : Int), vs = [.ref sc, .int k] ∧ SqL K H sc (ns.map V.int) ∧ ns.length ≤ 63 ∧ 0 ≤ k ∧ k ≤ 100 ∧
  ∀ (p : Addr) (a b : Int) (H' : Hp), H p = none → Same H H' → Pool H' p a b → Q (.ref p) H'
def spTake : Sp := fun vs H Q _ => ∃ (p : Addr) (n a b : Int), vs = [.ref p, .int n] ∧ Pool H p a b ∧ 1 ≤ n ∧ n < 1000000 ∧
  ∀ (d a' b' : Int), 0 ≤ d → d < n → 0 ≤ a' → 0 ≤ b' → b' < M31 → Q (.int d) (upd H p (.lst [.int a', .int b']))
/-- the second half of _law_pool: from the number on -/
def tMixed : TS := tAsg (tOp (rI (fun _ j => 0 < j) fun i j => V.int (i % j)) (tOp (rI CMul fun i j => V.int (i * j)) (tCB (fun xs H Q => (∃ i, xs = [V.int i] ∧ Q (V.int i) H) ∨ ∃ k, xs = [V.bl k] ∧ Q (V.int (if k then 1 else 0)) H)
  (tCons (tOp (rI0 fun i j => V.int (i + j)) (tOp (rI0 fun i j => V.int (i + j)) (tOp (rI0 fun i j => V.int (i + j)) (tOp (rI (fun _ j => 0 < j) fun i j => V.int (i % j)) (tVar 3) (tC (V.int 2147483629)))
    (tOp (rI CMul fun i j => V.int (i * j)) (tOp (rI CMul fun i j => V.int (i * j)) (tC (V.int 7919)) (tVar 1)) (tVar 1))) (tOp (rI CMul fun i j => V.int (i * j)) (tC (V.int 31)) (tVar 1))) (tC (V.int 17))) tNil)) (tC (V.int 48271))) (tC (V.int 2147483647))) (gName 4)
def tTwo : TS := tRet (tLst (tCons (tOp (rI CMul fun i j => V.int (i * j)) (tVar 3) (tCB (fun xs H Q => (∃ i, xs = [V.int i] ∧ Q (V.int i) H) ∨ ∃ k, xs = [V.bl k] ∧ Q (V.int (if k then 1 else 0)) H)
  (tCons (tOp (rI0 fun i j => V.bl (decide (j ≤ i))) (tVar 3) (tOp (rI CPow fun i j => V.int (i ^ j.toNat)) (tC (V.int 10)) (tC (V.int 18)))) tNil))) (tCons (tOp (rI (fun _ j => 0 < j) fun i j => V.int (i % j)) (tOp (rI CMul fun i j => V.int (i * j)) (tVar 4) (tVar 4)) (tC (V.int 2147483629))) tNil)))
theorem pool_rest {K : PySem.W.Frag} {H H1 : Hp} {Q : VK} {sc : Addr} {ns : List Int} {k num : Int} {cell : Option V} (hS : SqL K H sc (ns.map V.int)) (k0 : 0 ≤ k) (k1 : k ≤ 100) (n0 : 0 ≤ num) (e1 : Same H H1)
    (fin : ∀ (p : Addr) (a b : Int) (H' : Hp), H p = none → Same H H' → Pool H' p a b → Q (V.ref p) H') {nx : L2.St → Hp → Prop} :
    tSeq tMixed tTwo { nx := nx, rt := Q } [some (.ref sc), some (.int k), cell, some (.int num), none] H1 := by
  refine ⟨_, rfl, _, _, rfl, rfl, (by show (0 : Int) < 2147483629; decide), _, rfl, _, _, rfl, rfl, .inl ⟨by decide, by decide⟩, _, rfl, _, _, rfl, rfl, .inr ⟨by omega, by omega⟩, _, _, rfl, rfl, _, rfl, _, _, rfl, rfl, .inl ⟨by decide, by decide⟩, _, _, rfl, rfl,
    _, _, rfl, rfl, .inl ⟨_, rfl, _, _, rfl, rfl, .inr ⟨by decide, by decide⟩, _, _, rfl, rfl, (by show (0 : Int) < 2147483647; decide), ?_⟩⟩
  generalize hm : (num % 2147483629 + 7919 * k * k + 31 * k + 17) * 48271 % 2147483647 = m
  have m0 : 0 ≤ m := by rw [← hm]; exact Int.emod_nonneg _ (by decide)
  have m1 : m < 2147483647 := by rw [← hm]; exact Int.emod_lt_of_pos _ (by decide)
  refine ⟨_, rfl, _, rfl, _, _, rfl, rfl, ⟨by decide, by decide, by decide⟩, _, _, rfl, rfl, .inr ⟨_, rfl, _, _, rfl, rfl, .inr ?_, _, rfl, _, rfl, _, _, rfl, rfl, .inl ⟨by omega, by omega⟩, _, _, rfl, rfl, (by show (0 : Int) < 2147483629; decide), (by show 2 ≤ sizeLine; decide), fun p hp => ?_⟩⟩
  · split <;> exact ⟨by decide, by decide⟩
  refine fin p _ _ _ (e1.free hp) (e1.trans (same_new hp)) ⟨upd_same, ?_, Int.emod_nonneg _ (by decide), Int.lt_trans (Int.emod_lt_of_pos _ (by decide)) (by decide)⟩
  split
  · omega
  · omega
section
variable {P : Program} {w : World} {K : PySem.W.Frag} {mg : Str → Option Value} {base : Heap}
theorem scPool : FnScope ["_law_script", "_law_k", "_law_cell", "_law_number", "_law_mixed"] ["_law_script", "_law_k"] (defScope sPool) := ⟨rfl, rfl, rfl, by decide +kernel, rfl, by decide +kernel, by decide +kernel⟩
theorem ok_pool {f : Addr} {fd : FuncData} (F : Fun K "_law_pool" "_law_pool" sPool f fd) (T : Txt mg) : FnOk P w K mg base CX0 1 f fd ["_law_script", "_law_k"] (spPool K) := by
  refine F.ok scPool (fun vs H Q E h => ?_) (fun cdv A outer s H vs Q E hr h => ?_)
  · obtain ⟨_, _, _, rfl, _⟩ := h
    rfl
  · obtain ⟨sc, ns, k, rfl, hS, hl, k0, k1, fin⟩ := h
    refine ⟨_, pss_cons (ps_set (i := 2) scPool.nd rfl (Or.inl rfl) (pe_ix ix_list (pe_op op_cat (pe_slice sl_list (pv 0) (po_some (pv 1)) (po_some (pe_op op_add (pv 1) pe_int))) (pe_lst (pa_cons pe_int pa_nil))) pe_int (fun _ _ => rfl)))
      (pss_cons (ps_set (i := 3) scPool.nd rfl (Or.inl rfl) (pe_ifExp (pt_cmpR op_ge (pv 2) pe_int (nomark _)) (pv 2) (pe_op op_sub (pe_un un_neg pe_int) (pv 2))))
      (pss_cons (ps_set (i := 4) scPool.nd rfl (Or.inl rfl) (pe_op op_mod (pe_op op_mul (pe_callTy call_int1 (by rfl) T.int (by decide +kernel)
        (pa_cons (pe_op op_add (pe_op op_add (pe_op op_add (pe_op op_mod (pv 3) pe_int) (pe_op op_mul (pe_op op_mul pe_int (pv 1)) (pv 1))) (pe_op op_mul pe_int (pv 1))) pe_int) pa_nil)) pe_int) pe_int))
      (pss_one (ps_ret (pe_lst (pa_cons (pe_op op_mul (pv 3) (pe_callTy call_int1 (by rfl) T.int (by decide +kernel) (pa_cons (pe_cmpR op_ge (pv 3) (pe_op op_pow pe_int pe_int) (nomark _)) pa_nil)))
        (pa_cons (pe_op op_mod (pe_op op_mul (pv 4) (pv 4)) pe_int) pa_nil))))))), ?_⟩
    -- the cell: the script's item at k, or 0
    refine ⟨_, rfl, _, rfl, _, rfl, ?_⟩
    refine ⟨_, rfl, _, _, rfl, rfl, _, rfl, sc, ns.map V.int, rfl, hS, fun c hc => ⟨by show 1 ≤ sizeLine; decide, fun z hz => ?_⟩⟩
    have cz : c ≠ z := fun e => by
      rw [e, upd_same] at hz
      cases hz
    have lc := cutV_length (ns.map V.int) (some k) (some (k + 1))
    rw [List.length_map] at lc
    refine ⟨c, z, _, _, rfl, rfl, (by rw [upd_ne cz, upd_same]), upd_same, (by show _ + 1 ≤ sizeLine; exact Nat.le_trans (Nat.succ_le_succ (Nat.le_trans lc hl)) (by decide)), fun y hy => ?_⟩
    obtain ⟨cell, hcell⟩ : ∃ n : Int, (cutV (ns.map V.int) (some k) (some (k + 1)) ++ [V.int 0])[0]? = some (V.int n) := by
      unfold cutV
      cases e : ((ns.map V.int).drop (HT.sIx (ns.map V.int).length 0 (some k))).take (HT.sIx (ns.map V.int).length (ns.map V.int).length (some (k + 1)) - HT.sIx (ns.map V.int).length 0 (some k)) with
      | nil => exact ⟨0, rfl⟩
      | cons v r =>
        have m : v ∈ ns.map V.int := List.mem_of_mem_drop (List.mem_of_mem_take (e ▸ List.mem_cons_self ..))
        obtain ⟨n, _, rfl⟩ := List.mem_map.mp m
        exact ⟨n, rfl⟩
    refine ⟨y, _, 0, _, rfl, rfl, SqL.of upd_same, atI_nat hcell, ?_⟩
    -- the number: the cell, or what lies below nought from the other side
    refine ⟨_, rfl, _, _, rfl, rfl, _, rfl, ?_⟩
    have e1 : Same H (upd (upd (upd H c (HO.lst (cutV (List.map V.int ns) (some k) (some (k + 1))))) z (HO.lst [V.int 0])) y (HO.lst (cutV (List.map V.int ns) (some k) (some (k + 1)) ++ [V.int 0]))) :=
      ((same_new hc).trans (same_new hz)).trans (same_new hy)
    refine ite2 (fun c1 => ?_) (fun c1 => ?_)
    · have h0 := of_decide_eq_true c1
      refine ⟨_, rfl, ?_⟩
      exact pool_rest hS k0 k1 h0 e1 fin
    · have h0 : ¬ 0 ≤ cell := fun q => c1 (decide_eq_true q)
      refine ⟨_, rfl, _, rfl, _, _, rfl, rfl, ?_⟩
      exact pool_rest hS k0 k1 (by omega) e1 fin
theorem scTake : FnScope ["_law_pool_here", "_law_many", "_law_digit"] ["_law_pool_here", "_law_many"] (defScope sTake) := ⟨rfl, rfl, rfl, by decide +kernel, rfl, by decide +kernel, by decide +kernel⟩
theorem ok_take {f : Addr} {fd : FuncData} (F : Fun K "_law_take" "_law_take" sTake f fd) (T : Txt mg) : FnOk P w K mg base CX0 1 f fd ["_law_pool_here", "_law_many"] spTake := by
  refine F.ok scTake (fun vs H Q E h => ?_) (fun cdv A outer s H vs Q E hr h => ?_)
  · obtain ⟨_, _, _, _, rfl, _⟩ := h
    rfl
  · obtain ⟨p, n, a, b, rfl, ⟨hp, a0, b0, b1⟩, n1, n2, fin⟩ := h
    refine ⟨_, pss_cons (ps_if (pt_cmpR op_gt (pe_ix ix_list (pv 0) pe_int (fun _ _ => rfl)) pe_int (nomark _))
        (pss_cons (ps_set (i := 2) scTake.nd rfl (Or.inl rfl) (pe_op op_mod (pe_callTy call_int1 (by rfl) T.int (by decide +kernel) (pa_cons (pe_ix ix_list (pv 0) pe_int (fun _ _ => rfl)) pa_nil)) (pv 1)))
        (pss_cons (ps_asg (pe_op op_fdiv (pe_ix ix_list (pv 0) pe_int (fun _ _ => rfl)) (pv 1)) (pg_sub (pv 0) pe_int set_list))
        (pss_one (ps_ret (pv 2))))) pss_nil)
      (pss_cons (ps_asg (pe_op op_mod (pe_callTy call_int1 (by rfl) T.int (by decide +kernel) (pa_cons (pe_op op_add (pe_op op_mul (pe_ix ix_list (pv 0) pe_int (fun _ _ => rfl)) pe_int) pe_int) pa_nil)) pe_int) (pg_sub (pv 0) pe_int set_list))
      (pss_one (ps_ret (pe_op op_mod (pe_op op_fdiv (pe_op op_mod (pe_callTy call_int1 (by rfl) T.int (by decide +kernel)
        (pa_cons (pe_op op_mul (pe_ix ix_list (pv 0) pe_int (fun _ _ => rfl)) (pe_ix ix_list (pv 0) pe_int (fun _ _ => rfl))) pa_nil)) pe_int) pe_int) (pv 1))))), ?_⟩
    have m31 : M31 = 2147483647 := rfl
    refine ⟨_, rfl, p, _, 0, _, rfl, rfl, SqL.of hp, rfl, _, _, rfl, rfl, _, rfl, ?_⟩
    refine ite2 (fun c1 => ?_) (fun c1 => ?_)
    · refine ⟨_, rfl, p, _, 0, _, rfl, rfl, SqL.of hp, rfl, .inl ⟨_, rfl, _, rfl, _, _, rfl, rfl, (by show (0 : Int) < n; omega), ?_⟩⟩
      refine ⟨_, rfl, p, _, 0, _, rfl, rfl, SqL.of hp, rfl, _, rfl, _, _, rfl, rfl, ⟨by omega, by omega⟩, _, rfl, p, _, 0, 0, rfl, rfl, hp, rfl, _, rfl, ?_⟩
      exact fin _ _ _ (Int.emod_nonneg _ (by omega)) (Int.emod_lt_of_pos _ (by omega)) (Int.ediv_nonneg a0 (by omega)) b0 b1
    · have hb := Int.emod_lt_of_pos (b * 48271 + 12345) (show (0 : Int) < 2147483647 by decide)
      have hb0 := Int.emod_nonneg (b * 48271 + 12345) (show (2147483647 : Int) ≠ 0 by decide)
      refine ⟨_, rfl, p, _, 1, _, rfl, rfl, SqL.of hp, rfl, _, _, rfl, rfl, .inl ⟨by omega, by omega⟩, _, _, rfl, rfl, .inl ⟨_, rfl, _, _, rfl, rfl, (by show (0 : Int) < 2147483647; decide), ?_⟩⟩
      refine ⟨_, rfl, p, _, 1, 1, rfl, rfl, hp, rfl, ?_⟩
      refine ⟨_, rfl, p, _, 1, _, rfl, rfl, SqL.of upd_same, rfl, _, rfl, p, _, 1, _, rfl, rfl, SqL.of upd_same, rfl, _, _, rfl, rfl, .inl ⟨by omega, by omega⟩, .inl ⟨_, rfl, _, _, rfl, rfl, (by show (0 : Int) < 2147483629; decide), _, _, rfl, rfl, ⟨by decide, by decide⟩, _, rfl, _, _, rfl, rfl, (by show (0 : Int) < n; omega), ?_⟩⟩
      exact fin _ _ _ (Int.emod_nonneg _ (by omega)) (Int.emod_lt_of_pos _ (by omega)) a0 hb0 (by rw [m31]; exact hb)
end
end K03

namespace K03
open PySem L2 DR DM TL
mutual
/-- the law's own node: lists at addresses that N allows -/
def NodeAt (N : Addr → Prop) (H : Hp) : V → Tr → Prop
  | v, .nd k ms ks => ∃ a m b vs, v = .ref a ∧ N a ∧ N m ∧ N b ∧ H a = some (.lst [sv k, .ref m, .ref b]) ∧ H m = some (.lst (ms.map sv)) ∧ H b = some (.lst vs) ∧ NodesAt N H vs ks
def NodesAt (N : Addr → Prop) (H : Hp) : List V → Trs → Prop
  | vs, .nil => vs = []
  | vs, .cons t ts => ∃ v r, vs = v :: r ∧ NodeAt N H v t ∧ NodesAt N H r ts
end
mutual
theorem NodeAt.move {N N' : Addr → Prop} {H H' : Hp} (hN : ∀ c, N c → N' c) (o : ∀ c u, N c → H c = some u → H' c = some u) : ∀ (t : Tr) (v : V), NodeAt N H v t → NodeAt N' H' v t
  | .nd k ms ks, v, h => by
    rw [NodeAt] at h ⊢
    obtain ⟨a, m, b, vs, e, na, nm, nb, h1, h2, h3, h4⟩ := h
    exact ⟨a, m, b, vs, e, hN _ na, hN _ nm, hN _ nb, o _ _ na h1, o _ _ nm h2, o _ _ nb h3, NodesAt.move hN o ks vs h4⟩
theorem NodesAt.move {N N' : Addr → Prop} {H H' : Hp} (hN : ∀ c, N c → N' c) (o : ∀ c u, N c → H c = some u → H' c = some u) : ∀ (ts : Trs) (vs : List V), NodesAt N H vs ts → NodesAt N' H' vs ts
  | .nil, vs, h => by
    rw [NodesAt] at h ⊢
    exact h
  | .cons t ts, vs, h => by
    rw [NodesAt] at h ⊢
    obtain ⟨v, r, e, h1, h2⟩ := h
    exact ⟨v, r, e, NodeAt.move hN o t v h1, NodesAt.move hN o ts r h2⟩
end
def ofL : List Tr → Trs
  | [] => .nil
  | t :: ts => .cons t (ofL ts)
theorem ofL_len : ∀ ts, (ofL ts).len = ts.length
  | [] => rfl
  | t :: ts => congrArg (· + 1) (ofL_len ts)
theorem nodes_of {N : Addr → Prop} {H : Hp} : ∀ {vs : List V} {ts : List Tr}, Paired (NodeAt N H) vs ts → NodesAt N H vs (ofL ts)
  | _, _, .nil => by
    rw [ofL, NodesAt]
  | _, _, .cons h t => by
    rw [ofL, NodesAt]
    exact ⟨_, _, rfl, h, nodes_of t⟩
mutual
/-- what is drawn -/
def _root_.DM.Tr.fits (Ks Ms : List W) : Nat → Tr → Prop
  | d, .nd k ms ks => k ∈ Ks ∧ ms.Sublist Ms ∧ ks.len ≤ 3 ∧ (d = 0 → ks = .nil) ∧ ks.fits Ks Ms (d - 1)
def _root_.DM.Trs.fits (Ks Ms : List W) : Nat → Trs → Prop
  | _, .nil => True
  | d, .cons t ts => t.fits Ks Ms d ∧ ts.fits Ks Ms d
end
theorem fits_of {Ks Ms : List W} {d : Nat} : ∀ {ts : List Tr}, (∀ t ∈ ts, t.fits Ks Ms d) → (ofL ts).fits Ks Ms d
  | [], _ => by
    rw [ofL, Trs.fits]
    trivial
  | t :: ts, h => by
    rw [ofL, Trs.fits]
    exact ⟨h t (List.mem_cons_self ..), fits_of fun x hx => h x (List.mem_cons_of_mem _ hx)⟩
theorem Off.trans {p : Addr} {H H1 H2 : Hp} (a : Off p H H1) (b : Off p H1 H2) : Off p H H2 := fun c u n e => b c u n (a c u n e)
theorem Off.same {p : Addr} {H H1 : Hp} (s : Same H H1) : Off p H H1 := fun c u _ e => s c u e
theorem Off.refl {p : Addr} {H : Hp} : Off p H H := fun _ _ _ e => e
theorem Off.free {p c : Addr} {H H1 : Hp} (o : Off p H H1) (hc : H1 c = none) (np : H1 p ≠ none) : H c = none := by
  cases e : H c with
  | none => rfl
  | some u =>
    have n : c ≠ p := fun z => np (z ▸ hc)
    rw [o c u n e] at hc
    cases hc
/-- a write at what was free -/
theorem Off.new {p c : Addr} {H H1 : Hp} {o : HO} (h : Off p H H1) (hc : H c = none) : Off p H (upd H1 c o) := fun b u n e => by
  rw [upd_ne (ne_of_none e hc)]
  exact h b u n e
abbrev sNode : Stmt := top 29
def spNode (Ks Ms : List W) (d : Nat) : Sp := fun vs H Q _ => ∃ (p ka ma : Addr) (a b : Int), vs = [.ref p, nv d, .ref ka, .ref ma] ∧ Pool H p a b ∧ H ka = some (.lst (Ks.map sv)) ∧ H ma = some (.lst (Ms.map sv)) ∧
  ∀ v t H' a' b', Off p H H' → Pool H' p a' b' → NodeAt (fun c => H c = none) H' v t → t.fits Ks Ms d → Q v H'
theorem Pool.at_ {H : Hp} {p : Addr} {a b : Int} (h : Pool H p a b) : H p ≠ none := fun z => by
  rw [h.1] at z
  cases z
theorem pool_ne {H : Hp} {p c : Addr} {a b : Int} {o : HO} (h : Pool H p a b) (hc : H c = some o) (ho : o ≠ .lst [.int a, .int b]) : c ≠ p := fun z => by
  rw [z, h.1] at hc
  exact ho (Option.some.inj hc).symm
theorem strs_ne {ws : List W} {a b : Int} : HO.lst (ws.map sv) ≠ .lst [.int a, .int b] := fun z => by
  injection z with z
  cases ws with
  | nil => cases z
  | cons w ws =>
    rw [List.map_cons] at z
    injection z with z
    cases z
theorem cond_true {c : Bool} {F : Bool → Prop} (h : c = true) (p : F true) : F c := h ▸ p
theorem cond_false {c : Bool} {F : Bool → Prop} (h : c = false) (p : F false) : F c := h ▸ p
def tLast (spR : Sp) : TS := tRet (tLst (tCons (tVar 4) (tCons (tVar 5) (tCons (tLc (iRng1 (tCons (tVar 6) tNil)) (gName 8) tYes (tCall spR [] E0 (tCons (tVar 0) (tCons (tOp (rI0 fun i j => V.int (i - j)) (tVar 1) (tC (V.int 1))) (tCons (tVar 2) (tCons (tVar 3) tNil))))) [8]) tNil))))
section
variable {P : Program} {w : World} {K : PySem.W.Frag} {mg : Str → Option Value} {base : Heap}
theorem scNode : FnScope ["_law_pool_here", "_law_depth", "_law_kinds", "_law_marks_here", "_law_kind_here", "_law_own", "_law_many", "_law_mark", "_law_turn"] ["_law_pool_here", "_law_depth", "_law_kinds", "_law_marks_here"] (defScope sNode) := ⟨rfl, rfl, rfl, by decide +kernel, rfl, by decide +kernel, by decide +kernel⟩
theorem node_step {f : Addr} {fd : FuncData} {Ks Ms : List W} {d : Nat} {spR : Sp} (F : Fun K "_law_node" "_law_node" sNode f fd) (T : Txt mg) (D1 : Has P w K mg base 1 "_law_take" ["_law_pool_here", "_law_many"] spTake)
    (mN : mg "_law_node" = some (.ref f)) (kN : PySem.W.keepIn K (.ref f) = true) (bN : Binds K fd ["_law_pool_here", "_law_depth", "_law_kinds", "_law_marks_here"] []) (hK1 : 1 ≤ Ks.length) (hK : Ks.length < 1000) (hM : Ms.length < 1000)
    (G : FnOk P w K mg base CX0 (d + 1) f fd ["_law_pool_here", "_law_depth", "_law_kinds", "_law_marks_here"] spR) (hR : d ≠ 0 → spR = spNode Ks Ms (d - 1)) :
    FnOk P w K mg base CX0 (d + 2) f fd ["_law_pool_here", "_law_depth", "_law_kinds", "_law_marks_here"] (spNode Ks Ms d) := by
  obtain ⟨fT, fdT, GT, mT, kT, bT⟩ := D1
  refine F.ok scNode (fun vs H Q E h => ?_) (fun cdv A outer s H vs Q E hr h => ?_)
  · obtain ⟨_, _, _, _, _, rfl, _⟩ := h
    rfl
  · obtain ⟨p, ka, ma, a, b, rfl, pool, hk, hm, fin⟩ := h
    have hr1 : Room 1 _ := hr.mono (by omega)
    refine ⟨_, pss_cons (ps_set (i := 4) scNode.nd rfl (Or.inl rfl) (pe_ix ix_list (pv 2) (pe_call GT hr1 (by rfl) mT kT bT .nil pass0 (pa_cons (pv 0) (pa_cons (pe_callB call_len_seq (by rfl) T.len PySem.boot_len (pa_cons (pv 2) pa_nil)) pa_nil))) (fun _ _ => rfl)))
      (pss_cons (ps_setLc (i := 5) (own := [("_law_mark", 7)]) (g := gName 7) (tt := tTest (tOp rEq (tCall spTake [] E0 (tCons (tVar 0) (tCons (tC (.int 3)) tNil))) (tC (.int 0)))) rfl scNode.nd rfl rfl (by rfl) (pi_list (pv 3))
          (blkOk_by (N := ["_law_pool_here", "_law_depth", "_law_kinds", "_law_marks_here", "_law_kind_here", "_law_own", "_law_many", "_law_mark", "_law_turn"]) (sc := defScope sNode) (by decide +kernel)) (fun _ _ _ _ _ => pg_name (i := 7) scNode.nd rfl (Or.inl rfl))
          (fun _ _ _ _ _ => pts_one (pt_cmpR op_eq (pe_call GT hr1 (by rfl) mT kT bT .nil pass0 (pa_cons (pv 0) (pa_cons pe_int pa_nil))) pe_int rfl)) (fun _ _ _ _ _ => pv 7))
      (pss_cons (ps_set (i := 6) scNode.nd rfl (Or.inl rfl) (pe_ifExp (pt_cmpR op_gt (pv 1) pe_int rfl) (pe_call GT hr1 (by rfl) mT kT bT .nil pass0 (pa_cons (pv 0) (pa_cons pe_int pa_nil))) pe_int))
      (pss_one (ps_ret (pe_lst (pa_cons (pv 4) (pa_cons (pv 5) (pa_cons (pe_lc (own := [("_law_turn", 8)]) (g := gName 8) (tt := tYes) rfl scNode.nd (pi_range1 (by rfl) T.range (pa_cons (pv 6) pa_nil))
          (blkOk_by (N := ["_law_pool_here", "_law_depth", "_law_kinds", "_law_marks_here", "_law_kind_here", "_law_own", "_law_many", "_law_mark", "_law_turn"]) (sc := defScope sNode) (by decide +kernel)) (fun _ _ _ _ _ => pg_name (i := 8) scNode.nd rfl (Or.inl rfl)) (fun _ _ _ _ _ => pts_nil)
          (fun _ _ _ _ _ => pe_call G hr (by rfl) mN kN bN .nil pass0 (pa_cons (pv 0) (pa_cons (pe_op op_sub (pv 1) pe_int) (pa_cons (pv 2) (pa_cons (pv 3) pa_nil)))))) pa_nil)))))))), ?_⟩
    have B := big
    have kne : ka ≠ p := pool_ne pool hk strs_ne
    have mne : ma ≠ p := pool_ne pool hm strs_ne
    obtain ⟨hp0, pa, pb, pb2⟩ := id pool
    refine ⟨_, rfl, _, rfl, _, rfl, ka, _, rfl, .inl (SqL.of hk), p, _, a, b, rfl, pool, by rw [List.length_map]; omega, by rw [List.length_map]; omega, fun j a1 b1 j0 j1 ha1 hb1 hb2 => ?_⟩
    generalize g1 : upd H p _ = H1
    have o1 : Off p H H1 := g1 ▸ Off.put
    have p1 : Pool H1 p a1 b1 := ⟨g1 ▸ upd_same, ha1, hb1, hb2⟩
    have k1 := o1 _ _ kne hk
    have m1 := o1 _ _ mne hm
    obtain ⟨jn, rfl⟩ : ∃ n : Nat, j = (n : Int) := ⟨j.toNat, by omega⟩
    have jlt : jn < Ks.length := by
      rw [List.length_map] at j1
      omega
    have kat : (Ks.map sv)[jn]? = some (sv (Ks.getD jn [])) := by
      rw [List.getElem?_map, List.getD_eq_getElem?_getD, List.getElem?_eq_getElem jlt]
      rfl
    have kin : Ks.getD jn [] ∈ Ks := by
      rw [List.getD_eq_getElem?_getD, List.getElem?_eq_getElem jlt]
      exact List.getElem_mem jlt
    generalize Ks.getD jn [] = kw at kat kin
    refine ⟨ka, _, _, _, rfl, rfl, SqL.of k1, atI_nat kat, ?_⟩
    -- the marks
    refine ⟨_, rfl, ma, rfl, ⟨_, SqL.of m1⟩, fun D hD => lc_it (walk_list (K := K) (a := ma) (xs := Ms.map sv)) (fun i H' => ∃ ws a' b', Off p H1 H' ∧ Pool H' p a' b' ∧ H' D = some (.lst (List.map sv ws)) ∧ ws.Sublist (Ms.take i))
      ⟨[], a1, b1, Off.refl.new hD, ⟨by rw [upd_ne (ne_of_none p1.1 hD)]; exact p1.1, p1.2⟩, upd_same, List.nil_sublist _⟩ (fun i H' _ ⟨_, _, _, o, _⟩ => SqL.of (o _ _ mne m1)) ?_ ?_⟩
    · rintro i x H2 H3 hi ⟨ws, a2, b2, o3, p3, m3, sub⟩ ⟨rfl, hx⟩
      rw [List.length_map] at hi
      rw [List.getElem?_map] at hx
      obtain ⟨u, hu, rfl⟩ := Option.map_eq_some_iff.mp hx
      have dne : D ≠ p := fun z => by rw [z] at hD; exact p1.at_ hD
      refine ⟨rfl, ?_⟩
      refine ⟨_, rfl, p, 3, a2, b2, rfl, p3, by decide, by decide, fun d3 a3 b3 d0 d1 h1 h2 h3 => ⟨rfl, _, rfl, ?_⟩⟩
      generalize g4 : upd H3 p _ = H4
      have o4 : Off p H3 H4 := g4 ▸ Off.put
      have p4 : Pool H4 p a3 b3 := ⟨g4 ▸ upd_same, h1, h2, h3⟩
      have m4 := o4 _ _ dne m3
      refine ite2 (fun c => ?_) (fun c => ?_)
      · refine ⟨_, rfl, _, m4, ?_, ws ++ [u], a3, b3, ?_, ⟨by rw [upd_ne (fun z => dne z.symm)]; exact p4.1, p4.2⟩, ?_, ?_⟩
        · rw [List.length_map]
          have := sub.length_le
          rw [List.length_take] at this
          omega
        · exact (o3.trans o4).new hD
        · rw [upd_same, List.map_append]
          rfl
        · rw [List.take_succ, hu]
          exact sub.append (List.Sublist.refl _)
      · exact ⟨ws, a3, b3, o3.trans o4, p4, m4, sub.trans (List.take_sublist_take_left (Nat.le_succ i))⟩
    · rintro H3 ⟨ws, a2, b2, o3, p3, m3, sub⟩
      rw [List.length_map, List.take_length] at sub
      have o13 := o1.trans o3
      have Dfree : H D = none := o1.free hD p1.at_
      have dne : D ≠ p := fun z => by rw [z] at hD; exact p1.at_ hD
      -- the number of the children
      have kids : ∀ (m : Nat) (H4 : Hp) (a3 b3 : Int), m ≤ 3 → (d = 0 → m = 0) → Off p H3 H4 → Pool H4 p a3 b3 →
          tLast spR { nx := fun x H' => Q V.non H', rt := Q } [some (.ref p), some (nv d), some (.ref ka), some (.ref ma), some (sv kw), some (.ref D), some (nv m), none, none] H4 := by
        intro m H4 a3 b3 hm hz o4 p4
        have o14 := o13.trans o4
        have k4 := o14 _ _ kne hk
        have m4 := o14 _ _ mne ‹H ma = _›
        refine ⟨_, rfl, _, rfl, _, rfl, _, rfl, by omega, by omega, fun G0 hE => ?_⟩
        rw [Int.toNat_natCast]
        have ene : G0 ≠ p := fun z => by rw [z] at hE; exact p4.at_ hE
        refine lc_it (walk_range (lo := 0) (n := m)) (fun i H' => ∃ (ts : List Tr) (vs : List V) (a' b' : Int), Off p H4 H' ∧ Pool H' p a' b' ∧ H' G0 = some (.lst vs) ∧ Paired (NodeAt (fun c => H4 c = none ∧ c ≠ G0) H') vs ts ∧ ts.length = i ∧ ∀ t ∈ ts, t.fits Ks Ms (d - 1))
          ⟨[], [], a3, b3, Off.refl.new hE, ⟨by rw [upd_ne (ne_of_none p4.1 hE)]; exact p4.1, p4.2⟩, upd_same, .nil, rfl, fun t z => by cases z⟩ (fun _ _ _ _ => trivial) ?_ ?_
        · rintro i x H5 H6 hi ⟨ts, vs, a4, b4, o5, p5, m5, pr, len, ft⟩ ⟨rfl, rfl⟩
          have d0 : d ≠ 0 := fun z => by
            have := hz z
            omega
          refine ⟨rfl, ?_⟩
          unfold tYes
          rw [hR d0]
          have e1 : ((d : Nat) : Int) - 1 = ((d - 1 : Nat) : Int) := by omega
          have o15 := o14.trans o5
          refine iteT ⟨_, rfl, _, rfl, _, _, rfl, rfl, _, rfl, _, rfl, p, ka, ma, a4, b4, ?_, p5, o15 _ _ kne hk, o15 _ _ mne ‹H ma = _›, fun v t H7 a5 b5 o7 p7 nd ft1 => ?_⟩
          · show [V.ref p, V.int (((d : Nat) : Int) - 1), V.ref ka, V.ref ma] = _
            rw [e1]
            rfl
          · have m7 := o7 _ _ ene m5
            have vl := pr.length
            refine ⟨vs, m7, by omega, ts ++ [t], vs ++ [v], a5, b5, (o5.trans o7).new hE, ⟨by rw [upd_ne (fun z => ene z.symm)]; exact p7.1, p7.2⟩, upd_same, ?_, by rw [List.length_append, len]; rfl, ?_⟩
            · refine Paired.snoc (Paired.mapP pr fun v1 t1 q => NodeAt.move (fun c h => h) (fun c u h e => ?_) t1 v1 q) (NodeAt.move (fun c h => ⟨o5.free h p5.at_, fun z => by rw [z, m5] at h; cases h⟩) (fun c u h e => ?_) t v nd)
              · rw [upd_ne h.2]
                exact o7 c u (fun z => p4.at_ (z ▸ h.1)) e
              · rw [upd_ne (fun z => by rw [z, m5] at h; cases h)]
                exact e
            · intro t1 h1
              rcases List.mem_append.mp h1 with h1 | h1
              · exact ft t1 h1
              · rw [List.mem_singleton.mp h1]
                exact ft1
        · rintro H5 ⟨ts, vs, a4, b4, o5, p5, m5, pr, len, ft⟩
          have o15 := o14.trans o5
          refine ⟨by show 3 ≤ sizeLine; decide, fun q hq => ?_⟩
          have nq : ∀ {c u}, H5 c = some u → c ≠ q := fun e => ne_of_none e hq
          refine fin (.ref q) (.nd kw ws (ofL ts)) _ a4 b4 (o15.new (o15.free hq p5.at_)) ⟨by rw [upd_ne (nq p5.1)]; exact p5.1, p5.2⟩ ?_ ?_
          · rw [NodeAt]
            have m35 := o5 _ _ dne (o4 _ _ dne m3)
            refine ⟨q, D, G0, vs, rfl, o15.free hq p5.at_, Dfree, o14.free hE p4.at_, upd_same, by rw [upd_ne (nq m35)]; exact m35, by rw [upd_ne (nq m5)]; exact m5, nodes_of (Paired.mapP pr fun v1 t1 z => NodeAt.move (fun c h => o14.free h.1 p4.at_) (fun c u h e => ?_) t1 v1 z)⟩
            rw [upd_ne (nq e)]
            exact e
          · rw [Tr.fits]
            refine ⟨kin, sub, by rw [ofL_len]; omega, fun z => ?_, fits_of ft⟩
            have : ts = [] := List.length_eq_zero_iff.mp (by rw [len, hz z])
            rw [this]
            rfl
      refine ⟨_, rfl, _, _, rfl, rfl, _, rfl, ?_⟩
      by_cases c : (0 : Int) < ((d : Nat) : Int)
      · rw [decide_eq_true c]
        refine iteT ?_
        refine ⟨_, rfl, p, 4, a2, b2, rfl, p3, by decide, by decide, fun d3 a3 b3 d0 d1 h1 h2 h3 => ?_⟩
        obtain ⟨m, rfl⟩ : ∃ n : Nat, d3 = (n : Int) := ⟨d3.toNat, by omega⟩
        exact kids m _ a3 b3 (by omega) (fun z => by omega) Off.put ⟨upd_same, h1, h2, h3⟩
      · rw [decide_eq_false c]
        refine iteF ?_
        exact kids 0 H3 a2 b2 (by decide) (fun _ => rfl) Off.refl p3
theorem never_ok {k : Nat} {f : Addr} {fd : FuncData} {ps : List Str} : FnOk P w K mg base CX0 k f fd ps (fun _ _ _ _ => False) :=
  { len := fun _ _ _ _ h => h.elim, run := fun _ _ _ _ _ _ _ _ _ _ _ _ _ h => h.elim }
theorem ok_node {f : Addr} {fd : FuncData} {Ks Ms : List W} (F : Fun K "_law_node" "_law_node" sNode f fd) (T : Txt mg) (D1 : Has P w K mg base 1 "_law_take" ["_law_pool_here", "_law_many"] spTake)
    (mN : mg "_law_node" = some (.ref f)) (kN : PySem.W.keepIn K (.ref f) = true) (bN : Binds K fd ["_law_pool_here", "_law_depth", "_law_kinds", "_law_marks_here"] []) (hK1 : 1 ≤ Ks.length) (hK : Ks.length < 1000) (hM : Ms.length < 1000) :
    ∀ d, FnOk P w K mg base CX0 (d + 2) f fd ["_law_pool_here", "_law_depth", "_law_kinds", "_law_marks_here"] (spNode Ks Ms d)
  | 0 => node_step F T D1 mN kN bN hK1 hK hM never_ok fun z => absurd rfl z
  | d + 1 => node_step F T D1 mN kN bN hK1 hK hM (ok_node F T D1 mN kN bN hK1 hK hM d) fun _ => rfl
end
end K03

namespace K03
open PySem L2 DR DM TL
def _root_.DM.Trs.toL : Trs → List Tr
  | .nil => []
  | .cons t ts => t :: ts.toL
theorem toL_len : ∀ ts : Trs, ts.toL.length = ts.len
  | .nil => rfl
  | .cons t ts => congrArg (· + 1) (toL_len ts)
theorem nodes_to {N : Addr → Prop} {H : Hp} : ∀ {ts : Trs} {vs : List V}, NodesAt N H vs ts → Paired (NodeAt N H) vs ts.toL
  | .nil, vs, h => by
    rw [NodesAt] at h
    subst h
    exact .nil
  | .cons t ts, vs, h => by
    rw [NodesAt] at h
    obtain ⟨v, r, rfl, h1, h2⟩ := h
    exact .cons h1 (nodes_to h2)
theorem fits_to {Ks Ms : List W} {d : Nat} : ∀ {ts : Trs}, ts.fits Ks Ms d → ∀ t ∈ ts.toL, t.fits Ks Ms d
  | .nil, _, t, h => by cases h
  | .cons u ts, h, t, m => by
    rw [Trs.fits] at h
    rcases List.mem_cons.mp m with rfl | m
    · exact h.1
    · exact fits_to h.2 t m
/-- the text of a node, its marks sorted -/
noncomputable def txt (t : Tr) : W := (t.sortT srt).text
theorem more_eq : ∀ (ts : Trs) (t : Tr), txt t ++ (ts.sortT srt).more = joinL [44] (txt t :: ts.toL.map txt) ++ [41]
  | .nil, t => by
    rw [Trs.sortT, Trs.more]
    rfl
  | .cons u us, t => by
    rw [Trs.sortT, Trs.more, Trs.toL, List.map_cons]
    have ih := more_eq us u
    show txt t ++ 44 :: (txt u ++ (us.sortT srt).more) = (txt t ++ ([44] ++ joinL [44] (txt u :: us.toL.map txt))) ++ [41]
    rw [ih]
    simp
theorem txt_nd (k : W) (ms : List W) (ks : Trs) : txt (.nd k ms ks) = headL k (srt ms) ++ (if ks.toL = [] then [] else 40 :: (joinL [44] (ks.toL.map txt) ++ [41])) := by
  unfold txt
  rw [Tr.sortT, Tr.text]
  cases ks with
  | nil =>
    rw [Trs.sortT, Trs.wrap]
    rfl
  | cons t ts =>
    rw [Trs.sortT, Trs.wrap, if_neg (by rw [Trs.toL]; exact fun z => by cases z)]
    have := more_eq ts t
    show _ ++ 40 :: (txt t ++ (ts.sortT srt).more) = _
    rw [this]
    rfl
theorem srt_perm (ms : List W) : (srt ms).Perm ms := by
  unfold srt
  split
  · rename_i h
    exact (Classical.choose_spec h).1
  · exact .refl _
theorem flat_le : ∀ l : List W, (∀ w ∈ l, w.length ≤ 8) → l.flatten.length ≤ 8 * l.length
  | [], _ => Nat.le_refl _
  | w :: l, h => by
    have h1 := h w (List.mem_cons_self ..)
    have h2 := flat_le l fun x hx => h x (List.mem_cons_of_mem _ hx)
    rw [List.flatten_cons, List.length_append, List.length_cons]
    omega
structure Short (Ks Ms : List W) : Prop where
  ks : ∀ w ∈ Ks, 1 ≤ w.length ∧ w.length ≤ 8
  ms : ∀ w ∈ Ms, w.length ≤ 8
  few : Ms.length ≤ 3
theorem head_small {Ks Ms : List W} (S : Short Ks Ms) {k : W} {ms : List W} (hk : k ∈ Ks) (hm : ms.Sublist Ms) : 1 ≤ (headL k (srt ms)).length ∧ (headL k (srt ms)).length ≤ 35 ∧ (srt ms).length ≤ 3 ∧ ((srt ms).map fun m => 46 :: m).flatten.length ≤ 27 := by
  have p := srt_perm ms
  have l1 : (srt ms).length ≤ 3 := by
    rw [p.length_eq]
    exact Nat.le_trans hm.length_le S.few
  have l2 := flat_le (srt ms) fun w hw => S.ms w (hm.subset (p.subset hw))
  have l3 := head_len k (srt ms)
  obtain ⟨k1, k2⟩ := S.ks k hk
  have l4 : (headL k (srt ms)).length = k.length + ((srt ms).map fun m => 46 :: m).flatten.length := by
    unfold headL
    rw [List.length_append]
  rw [List.flatten_cons, List.length_append] at l3
  omega
def bnd : Nat → Nat
  | 0 => 35
  | d + 1 => 40 + 3 * (bnd d + 1)
theorem joinL_len (y : W) (b : Nat) (hy : y.length ≤ 1) : ∀ l : List W, (∀ w ∈ l, w.length ≤ b) → (joinL y l).length ≤ l.length * (b + 1)
  | [], _ => Nat.zero_le _
  | [w], h => by
    have := h w (List.mem_cons_self ..)
    show w.length ≤ _
    simp
    omega
  | w :: v :: l, h => by
    have h1 := h w (List.mem_cons_self ..)
    have h2 := joinL_len y b hy (v :: l) fun x hx => h x (List.mem_cons_of_mem _ hx)
    show (w ++ (y ++ joinL y (v :: l))).length ≤ _
    rw [List.length_append, List.length_append, List.length_cons, Nat.succ_mul]
    omega
theorem txt_len {Ks Ms : List W} (S : Short Ks Ms) : ∀ (d : Nat) (t : Tr), t.fits Ks Ms d → (txt t).length ≤ bnd d ∧ 1 ≤ (txt t).length
  | d, .nd k ms ks, h => by
    rw [Tr.fits] at h
    obtain ⟨hk, hm, h3, h0, hf⟩ := h
    obtain ⟨l0, l1, l2, _⟩ := head_small S hk hm
    rw [txt_nd, List.length_append]
    by_cases c : ks.toL = []
    · rw [if_pos c]
      refine ⟨?_, by omega⟩
      cases d with
      | zero => exact l1
      | succ d =>
        show _ + 0 ≤ 40 + _
        omega
    · cases d with
      | zero =>
        rw [h0 rfl] at c
        exact absurd rfl c
      | succ d =>
        have q := joinL_len [44] (bnd d) (Nat.le_refl _) (ks.toL.map txt) (fun w hw => by
          obtain ⟨t, ht, rfl⟩ := List.mem_map.mp hw
          exact (txt_len S d t (fits_to hf t ht)).1)
        rw [List.length_map, toL_len] at q
        rw [if_neg c, List.length_cons, List.length_append]
        have : ks.len * (bnd d + 1) ≤ 3 * (bnd d + 1) := Nat.mul_le_mul_right _ h3
        refine ⟨?_, by omega⟩
        show _ + (_ + 1 + 1) ≤ 40 + 3 * (bnd d + 1)
        omega
theorem bnd_le : ∀ d, d ≤ 4 → bnd d ≤ 5000 := by decide
theorem joinL_ne (y x : W) (hx : 1 ≤ x.length) (l : List W) : joinL y (x :: l) ≠ [] := fun z => by
  cases l with
  | nil =>
    have : x = [] := z
    rw [this] at hx
    exact absurd hx (by decide)
  | cons v l =>
    have : x ++ (y ++ joinL y (v :: l)) = [] := z
    rw [(List.append_eq_nil_iff.mp this).1] at hx
    exact absurd hx (by decide)
theorem prd_get {α β : Type} {F : α → β → Prop} : ∀ {us : List α} {rs : List β}, Paired F us rs → ∀ {i : Nat} {x : α}, us[i]? = some x → ∃ r, rs[i]? = some r ∧ F x r
  | _, _, .cons r _, 0, x, h => by
    injection h with h
    exact ⟨_, rfl, h ▸ r⟩
  | _, _, .cons _ t, i + 1, x, h => prd_get t (i := i) h
  | _, _, .nil, i, x, h => by simp at h
theorem sum_le (l : List W) (h : ∀ w ∈ l, w.length ≤ 5000) : l.flatten.length ≤ 5000 * l.length := by
  induction l with
  | nil => exact Nat.le_refl _
  | cons w l ih =>
    have h1 := h w (List.mem_cons_self ..)
    have h2 := ih fun x hx => h x (List.mem_cons_of_mem _ hx)
    rw [List.flatten_cons, List.length_append, List.length_cons]
    omega
abbrev sLText : Stmt := top 30
def spLText (Ks Ms : List W) (d : Nat) : Sp := fun vs H Q _ => ∃ (v : V) (t : Tr) (N : Addr → Prop), vs = [v] ∧ NodeAt N H v t ∧ t.fits Ks Ms d ∧ ∀ H', Same H H' → Q (sv (txt t)) H'
section
variable {P : Program} {w : World} {K : PySem.W.Frag} {mg : Str → Option Value} {base : Heap}
theorem scLText : FnScope ["_law_node_here", "_law_head", "_law_inner", "_law_mark", "_law_child"] ["_law_node_here"] (defScope sLText) := ⟨rfl, rfl, rfl, by decide +kernel, rfl, by decide +kernel, by decide +kernel⟩
theorem ltext_step {f : Addr} {fd : FuncData} {Ks Ms : List W} {d : Nat} {spR : Sp} (F : Fun K "_law_text" "_law_text" sLText f fd) (T : Txt mg) (S : Short Ks Ms) (hd4 : d ≤ 4)
    (mN : mg "_law_text" = some (.ref f)) (kN : PySem.W.keepIn K (.ref f) = true) (bN : Binds K fd ["_law_node_here"] [])
    (G : FnOk P w K mg base CX0 (d + 1) f fd ["_law_node_here"] spR) (hR : d ≠ 0 → spR = spLText Ks Ms (d - 1)) : FnOk P w K mg base CX0 (d + 2) f fd ["_law_node_here"] (spLText Ks Ms d) := by
  refine F.ok scLText (fun vs H Q E h => ?_) (fun cdv A outer s H vs Q E hr h => ?_)
  · obtain ⟨_, _, _, rfl, _⟩ := h
    rfl
  · obtain ⟨v, t, N, rfl, nd, ft, fin⟩ := h
    refine ⟨_, pss_cons (ps_set (i := 1) scLText.nd rfl (Or.inl rfl) (pe_op op_add_str (pe_ix ix_list (pv 0) pe_int (fun _ _ => rfl)) (pe_join pe_str (pe_lc (own := [("_law_mark", 3)]) (g := gName 3) (tt := tYes) rfl scLText.nd
          (pi_list (pe_callB cr_sortedS (by rfl) T.sorted PyProof.Rows.boot_sorted (pa_cons (pe_ix ix_list (pv 0) pe_int (fun _ _ => rfl)) pa_nil)))
          (blkOk_by (N := ["_law_node_here", "_law_head", "_law_inner", "_law_mark", "_law_child"]) (sc := defScope sLText) (by decide +kernel)) (fun _ _ _ _ _ => pg_name (i := 3) scLText.nd rfl (Or.inl rfl)) (fun _ _ _ _ _ => pts_nil)
          (fun _ _ _ _ _ => pe_op op_add_str pe_str (pv 3))))))
      (pss_cons (ps_set (i := 2) scLText.nd rfl (Or.inl rfl) (pe_join pe_str (pe_lc (own := [("_law_child", 4)]) (g := gName 4) (tt := tYes) rfl scLText.nd (pi_list (pe_ix ix_list (pv 0) pe_int (fun _ _ => rfl)))
          (blkOk_by (N := ["_law_node_here", "_law_head", "_law_inner", "_law_mark", "_law_child"]) (sc := defScope sLText) (by decide +kernel)) (fun _ _ _ _ _ => pg_name (i := 4) scLText.nd rfl (Or.inl rfl)) (fun _ _ _ _ _ => pts_nil)
          (fun _ _ _ _ _ => pe_call G hr (by rfl) mN kN bN .nil pass0 (pa_cons (pv 4) pa_nil)))))
      (pss_one (ps_ret (pe_ifExp (pt_cmpR op_ne (pv 2) pe_str rfl) (pe_op op_add_str (pe_op op_add_str (pe_op op_add_str (pv 1) pe_str) (pv 2)) pe_str) (pv 1))))), ?_⟩
    have B := big
    cases t with
    | nd k ms ks =>
    rw [NodeAt] at nd
    obtain ⟨a, m, b, us, rfl, na, nm, nb, h1, h2, h3, h4⟩ := nd
    rw [Tr.fits] at ft
    obtain ⟨hk, hm, l3, h0, hf⟩ := ft
    obtain ⟨t0, t1, t2, t3⟩ := head_small S hk hm
    have pr := nodes_to h4
    have dot : ("." : Str) = toS [46] := by decide +kernel
    have com : ("," : Str) = toS [44] := by decide +kernel
    have emp : ("" : Str) = toS [] := by decide +kernel
    have few : ms.length ≤ 3 := Nat.le_trans hm.length_le S.few
    refine ⟨_, rfl, a, _, 0, _, rfl, rfl, SqL.of h1, atI_nat (j := 0) rfl, ⟨"", rfl⟩, _, rfl, a, _, 1, _, rfl, rfl, SqL.of h1, atI_nat (j := 1) rfl, m, ms.map toS, rfl, SqL.of (by rw [h2, List.map_map]; rfl), by rw [List.length_map]; omega, fun ys sa pe so hsa => ?_⟩
    have es : (ys.map V.str) = (srt ms).map sv := by
      have q := srt_eq (pe.map tl) (rises_of so)
      rw [List.map_map, show (tl ∘ toS) = id from rfl, List.map_id] at q
      rw [q, List.map_map]
      refine List.map_congr_left fun y _ => ?_
      show V.str y = V.str (toS (tl y))
      rw [toS_tl]
    rw [es]
    generalize g1 : upd H sa _ = H1
    have s1 : Same H H1 := g1 ▸ same_new hsa
    have m1 : H1 sa = some (.lst ((srt ms).map sv)) := g1 ▸ upd_same
    refine ⟨sa, rfl, ⟨_, SqL.of m1⟩, fun D hD => lc_it (walk_list (K := K) (a := sa) (xs := (srt ms).map sv)) (fun i H' => Same H1 H' ∧ H' D = some (.lst (((srt ms).take i).map fun w => sv (46 :: w))))
      ⟨same_new hD, upd_same⟩ (fun i H' _ ⟨s, _⟩ => SqL.of (s _ _ m1)) ?_ ?_⟩
    · rintro i x H2 H3 hi ⟨s2, m2⟩ ⟨rfl, hx⟩
      rw [List.length_map] at hi
      rw [List.getElem?_map] at hx
      obtain ⟨u, hu, rfl⟩ := Option.map_eq_some_iff.mp hx
      refine ⟨rfl, ?_⟩
      unfold tYes
      have ul : u.length ≤ 8 := S.ms u (hm.subset ((srt_perm ms).subset (List.mem_of_getElem? hu)))
      refine iteT ⟨_, rfl, _, _, rfl, rfl, ?_, _, m2, ?_, same_put s2 hD, ?_⟩
      · rw [toS_len]
        show 1 + _ ≤ _
        omega
      · rw [List.length_map, List.length_take]
        omega
      · rw [upd_same, List.take_succ, hu, List.map_append, dot, toS_app]
        rfl
    rintro H2 ⟨s2, m2⟩
    rw [List.length_map, List.take_length] at m2
    have s12 := s1.trans s2
    refine ⟨"", D, ((srt ms).map fun w => 46 :: w).map toS, rfl, rfl, .inl (SqL.of (by rw [m2, List.map_map, List.map_map]; rfl)), ?_, _, _, rfl, rfl, ?_, ?_⟩
    · rw [sum_len]
      show _ + _ * 0 ≤ _
      omega
    · rw [emp, join_text, join_nil, toS_len, toS_len]
      have := (S.ks k hk).2
      omega
    rw [emp, join_text, join_nil, toS_app, show k ++ ((srt ms).map fun w => 46 :: w).flatten = headL k (srt ms) from rfl]
    have tn := txt_nd k ms ks
    generalize headL k (srt ms) = hd at t0 t1 tn ⊢
    -- the children
    refine ⟨⟨",", rfl⟩, _, rfl, a, _, 2, _, rfl, rfl, SqL.of (s12 _ _ h1), atI_nat (j := 2) rfl, b, rfl, ⟨_, SqL.of (s12 _ _ h3)⟩, fun D2 hD2 => lc_it (walk_list (K := K) (a := b) (xs := us)) (fun i H' => Same H2 H' ∧ H' D2 = some (.lst ((ks.toL.take i).map fun t => sv (txt t))))
      ⟨same_new hD2, upd_same⟩ (fun i H' _ ⟨s, _⟩ => SqL.of (s _ _ (s12 _ _ h3))) ?_ ?_⟩
    · rintro i x H3 H4 hi ⟨s3, m3⟩ ⟨rfl, hx⟩
      obtain ⟨t, ht, nt⟩ := prd_get pr hx
      have mt := List.mem_of_getElem? ht
      have d0 : d ≠ 0 := fun z => by
        rw [h0 z] at mt
        cases mt
      refine ⟨rfl, ?_⟩
      unfold tYes
      rw [hR d0]
      have s13 := s12.trans s3
      refine iteT ⟨_, rfl, x, t, N, rfl, NodeAt.move (fun _ h => h) (fun c u _ e => s13 _ _ e) t x nt, fits_to hf t mt, fun H5 s5 => ⟨_, s5 _ _ m3, ?_, same_put (s3.trans s5) hD2, ?_⟩⟩
      · rw [List.length_map, List.length_take]
        have := pr.length
        have := toL_len ks
        omega
      · rw [upd_same, List.take_succ, ht, List.map_append]
        rfl
    rintro H3 ⟨s3, m3⟩
    rw [pr.length, List.take_length] at m3
    have kl := toL_len ks
    have tb : ∀ w ∈ ks.toL.map txt, w.length ≤ 5000 ∧ 1 ≤ w.length := fun w hw => by
      obtain ⟨t, ht, rfl⟩ := List.mem_map.mp hw
      obtain ⟨q1, q2⟩ := txt_len S (d - 1) t (fits_to hf t ht)
      exact ⟨Nat.le_trans q1 (bnd_le (d - 1) (by omega)), q2⟩
    have jl := joinL_len [44] 5000 (Nat.le_refl _) (ks.toL.map txt) fun w hw => (tb w hw).1
    rw [List.length_map] at jl
    have sl := sum_le (ks.toL.map txt) fun w hw => (tb w hw).1
    rw [List.length_map] at sl
    refine ⟨",", D2, (ks.toL.map txt).map toS, rfl, rfl, .inl (SqL.of (by rw [m3, List.map_map, List.map_map]; rfl)), ?_, ?_⟩
    · rw [sum_len, List.length_map, List.length_map]
      show _ + _ * 1 ≤ _
      omega
    rw [com, join_text]
    have te : (!decide (V.str (toS (joinL [44] (ks.toL.map txt))) = V.str "")) = !decide (joinL [44] (ks.toL.map txt) = []) := by
      rw [emp]
      exact congrArg not (sv_is _ _)
    refine ⟨_, rfl, rfl, _, congrArg V.bl te, ?_⟩
    have opn : ("(" : Str) = toS [40] := by decide +kernel
    have sht : (")" : Str) = toS [41] := by decide +kernel
    have ll : (joinL [44] (ks.toL.map txt)).length ≤ 15003 := by
      rw [kl] at jl
      have : ks.len * (5000 + 1) ≤ 3 * (5000 + 1) := Nat.mul_le_mul_right _ l3
      omega
    by_cases c : ks.toL = []
    · have jz : joinL [44] (ks.toL.map txt) = [] := by
        rw [c]
        rfl
      rw [decide_eq_true jz]
      refine iteF ⟨_, rfl, ?_⟩
      rw [tn, if_pos c, List.append_nil] at fin
      exact fin _ (s12.trans s3)
    · have ne : joinL [44] (ks.toL.map txt) ≠ [] := by
        cases e : ks.toL with
        | nil => exact absurd e c
        | cons t ts =>
          rw [List.map_cons]
          exact joinL_ne _ _ (tb _ (by rw [e, List.map_cons]; exact List.mem_cons_self ..)).2 _
      rw [decide_eq_false ne]
      refine iteT ⟨_, rfl, _, _, rfl, rfl, ?_, _, rfl, _, _, rfl, rfl, ?_, _, _, rfl, rfl, ?_, ?_⟩
      · rw [toS_len]
        show _ + 1 ≤ _
        omega
      · rw [opn, toS_app, toS_len, toS_len, List.length_append]
        show _ + 1 + _ ≤ _
        omega
      · rw [opn, toS_app, toS_app, toS_len, List.length_append, List.length_append]
        show _ + 1 + _ + 1 ≤ _
        omega
      · rw [opn, sht, toS_app, toS_app, toS_app]
        rw [tn, if_neg c] at fin
        have e : hd ++ [40] ++ joinL [44] (ks.toL.map txt) ++ [41] = hd ++ 40 :: (joinL [44] (ks.toL.map txt) ++ [41]) := by simp
        rw [e]
        exact fin _ (s12.trans s3)
theorem ok_ltext {f : Addr} {fd : FuncData} {Ks Ms : List W} (F : Fun K "_law_text" "_law_text" sLText f fd) (T : Txt mg) (S : Short Ks Ms) (mN : mg "_law_text" = some (.ref f)) (kN : PySem.W.keepIn K (.ref f) = true) (bN : Binds K fd ["_law_node_here"] []) :
    ∀ d, d ≤ 4 → FnOk P w K mg base CX0 (d + 2) f fd ["_law_node_here"] (spLText Ks Ms d)
  | 0, h => ltext_step F T S h mN kN bN never_ok fun z => absurd rfl z
  | d + 1, h => ltext_step F T S h mN kN bN (ok_ltext F T S mN kN bN d (by omega)) fun _ => rfl
end
end K03

namespace K03
open PySem L2 DR DM TL
/-- the nodes below the first n of a row of children -/
def kn (p : Pth) (l : List Tr) : Nat → List (Pth × Tr)
  | 0 => []
  | n + 1 => kn p l n ++ match l[n]? with
    | some t => t.nodes (p ++ [n])
    | none => []
theorem kn_nodes (p : Pth) : ∀ (ts : Trs) (pre : List Tr), kn p (pre ++ ts.toL) pre.length ++ ts.nodes p pre.length = kn p (pre ++ ts.toL) (pre.length + ts.len)
  | .nil, pre => by
    rw [Trs.nodes, List.append_nil]
    rfl
  | .cons t ts, pre => by
    have ih := kn_nodes p ts (pre ++ [t])
    rw [List.length_append, List.append_assoc] at ih
    have e : kn p (pre ++ (t :: ts.toL)) (pre.length + 1) = kn p (pre ++ (t :: ts.toL)) pre.length ++ t.nodes (p ++ [pre.length]) := by
      show kn p (pre ++ (t :: ts.toL)) pre.length ++ (match (pre ++ (t :: ts.toL))[pre.length]? with | some t => t.nodes (p ++ [pre.length]) | none => []) = _
      rw [List.getElem?_append_right (Nat.le_refl _), Nat.sub_self]
      rfl
    rw [Trs.nodes, Trs.toL, Trs.len, ← List.append_assoc, ← e, show pre.length + (ts.len + 1) = pre.length + 1 + ts.len by omega]
    exact ih
theorem kids_nodes (p : Pth) (ts : Trs) : ts.nodes p 0 = kn p ts.toL ts.toL.length := by
  have := kn_nodes p ts []
  rw [toL_len]
  simpa [kn] using this
theorem kn_mono (p : Pth) (l : List Tr) {m : Nat} : ∀ {n : Nat}, n ≤ m → (kn p l n).length ≤ (kn p l m).length := by
  induction m with
  | zero =>
    intro n h
    rw [Nat.le_zero.mp h]
    exact Nat.le_refl _
  | succ m ih =>
    intro n h
    rcases Nat.lt_or_ge m n with c | c
    · rw [show n = m + 1 by omega]
      exact Nat.le_refl _
    · refine Nat.le_trans (ih c) ?_
      show _ ≤ (kn p l m ++ _).length
      rw [List.length_append]
      exact Nat.le_add_right _ _
theorem paired_append {α β : Type} {F : α → β → Prop} : ∀ {a : List α} {b : List β} {c : List α} {d : List β}, Paired F a b → Paired F c d → Paired F (a ++ c) (b ++ d)
  | _, _, _, _, .nil, h => h
  | _, _, _, _, .cons x t, h => .cons x (paired_append t h)
theorem prd_get2 {α β : Type} {F : α → β → Prop} : ∀ {us : List α} {rs : List β}, Paired F us rs → ∀ {i : Nat} {r : β}, rs[i]? = some r → ∃ x, us[i]? = some x ∧ F x r
  | _, _, .cons r _, 0, x, h => by
    injection h with h
    exact ⟨_, rfl, h ▸ r⟩
  | _, _, .cons _ t, i + 1, x, h => prd_get2 t (i := i) h
  | _, _, .nil, i, x, h => by simp at h
def nb : Nat → Nat
  | 0 => 1
  | d + 1 => 1 + 3 * nb d
theorem nb_pos : ∀ d, 1 ≤ nb d
  | 0 => Nat.le_refl _
  | d + 1 => Nat.le_add_right _ _
theorem nodes_le {Ks Ms : List W} : ∀ (d : Nat) (t : Tr), t.fits Ks Ms d → ∀ p, (t.nodes p).length ≤ nb d
  | d, .nd k ms ks, h, p => by
    rw [Tr.fits] at h
    obtain ⟨hk, hm, h3, h0, hf⟩ := h
    rw [Tr.nodes, List.length_cons, kids_nodes]
    cases d with
    | zero =>
      rw [h0 rfl]
      exact Nat.le_refl _
    | succ d =>
      have gen : ∀ n, (kn p ks.toL n).length ≤ n * nb d := fun n => by
        induction n with
        | zero => exact Nat.zero_le _
        | succ n ih =>
          show (kn p ks.toL n ++ _).length ≤ _
          rw [List.length_append, Nat.succ_mul]
          have : (match ks.toL[n]? with | some t => t.nodes (p ++ [n]) | none => []).length ≤ nb d := by
            split
            · rename_i t e
              exact nodes_le d t (fits_to hf t (List.mem_of_getElem? e)) _
            · exact Nat.zero_le _
          omega
      have g := gen ks.toL.length
      rw [toL_len] at g ⊢
      have : ks.len * nb d ≤ 3 * nb d := Nat.mul_le_mul_right _ h3
      show _ ≤ 1 + 3 * nb d
      omega
theorem nb_le : ∀ d, d ≤ 4 → nb d ≤ 121 := by decide
abbrev sLPaths : Stmt := top 31
def spLPaths (Ks Ms : List W) (d : Nat) : Sp := fun vs H Q _ => ∃ (v px : V) (t : Tr) (N : Addr → Prop) (q : Pth), vs = [v, px] ∧ NodeAt N H v t ∧ t.fits Ks Ms d ∧ PthAt H px q ∧ q.length + d ≤ 10 ∧
  ∀ D ws H', H D = none → Same H H' → H' D = some (.lst ws) → PthsAt H' ws ((t.nodes q).map (·.1)) → Q (.ref D) H'
section
variable {P : Program} {w : World} {K : PySem.W.Frag} {mg : Str → Option Value} {base : Heap}
theorem scLPaths : FnScope ["_law_node_here", "_law_path_here", "_law_found", "_law_index_here", "_law_child"] ["_law_node_here", "_law_path_here"] (defScope sLPaths) := ⟨rfl, rfl, rfl, by decide +kernel, rfl, by decide +kernel, by decide +kernel⟩
theorem lpaths_step {f : Addr} {fd : FuncData} {Ks Ms : List W} {d : Nat} {spR : Sp} (F : Fun K "_law_paths" "_law_paths" sLPaths f fd) (T : Txt mg) (hd4 : d ≤ 4)
    (mN : mg "_law_paths" = some (.ref f)) (kN : PySem.W.keepIn K (.ref f) = true) (bN : Binds K fd ["_law_node_here", "_law_path_here"] [])
    (G : FnOk P w K mg base CX0 (d + 1) f fd ["_law_node_here", "_law_path_here"] spR) (hR : d ≠ 0 → spR = spLPaths Ks Ms (d - 1)) : FnOk P w K mg base CX0 (d + 2) f fd ["_law_node_here", "_law_path_here"] (spLPaths Ks Ms d) := by
  refine F.ok scLPaths (fun vs H Q E h => ?_) (fun cdv A outer s H vs Q E hr h => ?_)
  · obtain ⟨_, _, _, _, _, rfl, _⟩ := h
    rfl
  · obtain ⟨v, px, t, N, q, rfl, nd, ft, pa, ql, fin⟩ := h
    refine ⟨_, pss_cons (ps_set (i := 2) scLPaths.nd rfl (Or.inl rfl) (pe_lst (pa_cons (pv 1) pa_nil)))
      (pss_cons (ps_for PassesOwn.never rfl (pi_enum (by rfl) T.enum (pa_cons (pe_ix ix_list (pv 0) pe_int (fun _ _ => rfl)) pa_nil)) (pg_tup rfl (pgs_cons (pg_name (i := 3) scLPaths.nd rfl (Or.inl rfl)) (pgs_cons (pg_name (i := 4) scLPaths.nd rfl (Or.inl rfl)) pgs_nil)))
        (pss_one (ps_set (i := 2) scLPaths.nd rfl (Or.inl rfl) (pe_op op_cat (pv 2) (pe_call G hr (by rfl) mN kN bN .nil pass0 (pa_cons (pv 4) (pa_cons (pe_op op_catA (pv 1) (pe_tup (pa_cons (pv 3) pa_nil))) pa_nil)))))))
      (pss_one (ps_ret (pv 2)))), ?_⟩
    have B := big
    cases t with
    | nd k ms ks =>
    have full := nodes_le d _ ft q
    rw [Tr.nodes, List.length_cons] at full
    have nbl := nb_le d hd4
    rw [NodeAt] at nd
    obtain ⟨a, m, b, us, rfl, na, nm, nb', h1, h2, h3, h4⟩ := nd
    rw [Tr.fits] at ft
    obtain ⟨hk, hm, l3, h0, hf⟩ := ft
    have pr := nodes_to h4
    obtain ⟨pp, rfl, hpp⟩ := pa
    rw [Tr.nodes, List.map_cons] at fin
    refine ⟨_, rfl, by show 1 ≤ sizeLine; decide, fun D0 hD0 => ?_⟩
    generalize g1 : upd H D0 _ = H1
    have s1 : Same H H1 := g1 ▸ same_new hD0
    have m1 : H1 D0 = some (.lst [.ref pp]) := g1 ▸ upd_same
    have cap : ∀ n, n ≤ ks.toL.length → (kn q ks.toL n).length ≤ 121 := fun n hn => by
      have : (kn q ks.toL n).length ≤ (kn q ks.toL ks.toL.length).length := kn_mono q ks.toL hn
      rw [kids_nodes] at full
      omega
    refine ⟨_, rfl, a, _, 2, _, rfl, rfl, SqL.of (s1 _ _ h1), atI_nat (j := 2) rfl, b, us, rfl, SqL.of (s1 _ _ h3), for_it (walk_enum (K := K) (a := b) (xs := us)) (fun i σ H' => ∃ (o3 o4 : Option V) (D : Addr) (ws : List V), σ = [some (.ref a), some (.ref pp), some (.ref D), o3, o4] ∧ Same H H' ∧ H D = none ∧
      H' D = some (.lst ws) ∧ PthsAt H' ws (q :: (kn q ks.toL i).map (·.1))) ⟨none, none, D0, _, rfl, s1, hD0, m1, .cons ⟨pp, rfl, s1 _ _ hpp⟩ .nil⟩ (fun i σ H' _ ⟨_, _, _, _, _, s, _⟩ => SqL.of (s _ _ h3)) ?_ ?_⟩
    · rintro i x σ H2 H3 hi ⟨o3, o4, D, ws, rfl, s2, nD, m2, wa⟩ ⟨T0, x1, x2, rfl, hT0, rfl, e1, e2⟩
      obtain rfl := Option.some.inj e1
      obtain ⟨t, ht, nt⟩ := prd_get pr e2
      have mt := List.mem_of_getElem? ht
      have d0 : d ≠ 0 := fun z => by
        rw [h0 z] at mt
        cases mt
      generalize g3 : upd H2 T0 _ = H3
      have s3 : Same H2 H3 := g3 ▸ same_new hT0
      have m3 : H3 T0 = some (.tup [.int (i : Nat), x2]) := g3 ▸ upd_same
      have s13 := s2.trans s3
      refine ⟨T0, _, rfl, .inl (.inl m3), rfl, _, _, rfl, _, _, rfl, rfl, ?_⟩
      rw [hR d0]
      refine ⟨_, rfl, _, rfl, _, rfl, _, rfl, by show 1 ≤ sizeLine; decide, fun c hc => ?_⟩
      generalize g4 : upd H3 c _ = H4
      have s4 : Same H3 H4 := g4 ▸ same_new hc
      have m4 : H4 c = some (.tup [.int (i : Nat)]) := g4 ▸ upd_same
      have s14 := s13.trans s4
      have call : ∀ (y : Addr) (H5 : Hp), Same H4 H5 → H5 y = some (.tup ((q ++ [i]).map nv)) → True := fun _ _ _ _ => trivial
      refine ⟨pp, c, _, _, rfl, rfl, .inl (.inl (s14 _ _ hpp)), .inl (.inl m4), ?_, fun z => ?_, fun _ z => absurd z (by simp), fun _ _ y hy => ?_⟩
      · rw [List.length_map]
        show _ + 1 ≤ _
        omega
      · have q0 : q = [] := List.map_eq_nil_iff.mp z
        have mc : H4 c = some (.tup ((q ++ [i]).map nv)) := by
          rw [m4, q0]
          rfl
        have s44 : Same H4 H4 := Same.refl H4
        have s15 := s14.trans s44
        refine ⟨x2, .ref c, t, N, q ++ [i], rfl, NodeAt.move (fun _ h => h) (fun c u _ e => s15 _ _ e) t x2 nt, fits_to hf t mt, ⟨c, rfl, mc⟩, ?_, fun D2 ws2 H6 n6 s6 m6 wa6 => ?_⟩
        · rw [List.length_append]
          show _ + 1 + _ ≤ _
          omega
        · have s26 : Same H2 H6 := s3.trans (s4.trans (s44.trans s6))
          have m26 := s26 _ _ m2
          have nx : kn q ks.toL (i + 1) = kn q ks.toL i ++ t.nodes (q ++ [i]) := by
            show kn q ks.toL i ++ (match ks.toL[i]? with | some t => t.nodes (q ++ [i]) | none => []) = _
            rw [ht]
          have len : ws.length + ws2.length ≤ 122 := by
            have c1 := cap (i + 1) (by have := pr.length; omega)
            rw [nx, List.length_append] at c1
            rw [wa.length, wa6.length, List.length_cons, List.length_map, List.length_map]
            omega
          refine ⟨D, D2, ws, ws2, rfl, rfl, m26, m6, by omega, fun E hE => ?_⟩
          have sE : Same H6 (upd H6 E (.lst (ws ++ ws2))) := same_new hE
          refine ⟨_, _, E, ws ++ ws2, rfl, (s2.trans s26).trans sE, (s2.trans s26).free hE, upd_same, ?_⟩
          rw [nx, List.map_append, ← List.cons_append]
          exact paired_append ((wa.same s26).same sE) (wa6.same sE)
      · generalize g5 : upd H4 y _ = H5
        have s45 : Same H4 H5 := g5 ▸ same_new hy
        have my : H5 y = some (.tup ((q ++ [i]).map nv)) := g5 ▸ (upd_same.trans (by rw [List.map_append]; rfl))
        have s15 := s14.trans s45
        refine ⟨x2, .ref y, t, N, q ++ [i], rfl, NodeAt.move (fun _ h => h) (fun c u _ e => s15 _ _ e) t x2 nt, fits_to hf t mt, ⟨y, rfl, my⟩, ?_, fun D2 ws2 H6 n6 s6 m6 wa6 => ?_⟩
        · rw [List.length_append]
          show _ + 1 + _ ≤ _
          omega
        · have s26 : Same H2 H6 := s3.trans (s4.trans (s45.trans s6))
          have m26 := s26 _ _ m2
          have nx : kn q ks.toL (i + 1) = kn q ks.toL i ++ t.nodes (q ++ [i]) := by
            show kn q ks.toL i ++ (match ks.toL[i]? with | some t => t.nodes (q ++ [i]) | none => []) = _
            rw [ht]
          have len : ws.length + ws2.length ≤ 122 := by
            have c1 := cap (i + 1) (by have := pr.length; omega)
            rw [nx, List.length_append] at c1
            rw [wa.length, wa6.length, List.length_cons, List.length_map, List.length_map]
            omega
          refine ⟨D, D2, ws, ws2, rfl, rfl, m26, m6, by omega, fun E hE => ?_⟩
          have sE : Same H6 (upd H6 E (.lst (ws ++ ws2))) := same_new hE
          refine ⟨_, _, E, ws ++ ws2, rfl, (s2.trans s26).trans sE, (s2.trans s26).free hE, upd_same, ?_⟩
          rw [nx, List.map_append, ← List.cons_append]
          exact paired_append ((wa.same s26).same sE) (wa6.same sE)
    · rintro σ H2 ⟨o3, o4, D, ws, rfl, s2, nD, m2, wa⟩
      refine ⟨_, rfl, fin D ws _ nD s2 m2 ?_⟩
      rw [kids_nodes, ← pr.length]
      exact wa
theorem ok_lpaths {f : Addr} {fd : FuncData} {Ks Ms : List W} (F : Fun K "_law_paths" "_law_paths" sLPaths f fd) (T : Txt mg) (mN : mg "_law_paths" = some (.ref f)) (kN : PySem.W.keepIn K (.ref f) = true) (bN : Binds K fd ["_law_node_here", "_law_path_here"] []) :
    ∀ d, d ≤ 4 → FnOk P w K mg base CX0 (d + 2) f fd ["_law_node_here", "_law_path_here"] (spLPaths Ks Ms d)
  | 0, h => lpaths_step F T h mN kN bN never_ok fun z => absurd rfl z
  | d + 1, h => lpaths_step F T h mN kN bN (ok_lpaths F T mN kN bN d (by omega)) fun _ => rfl
abbrev sLAt : Stmt := top 32
/-- the node below a path -/
def _root_.DM.Tr.at_ : Tr → Pth → Option Tr
  | t, [] => some t
  | .nd _ _ ks, i :: p => match ks.toL[i]? with
    | some u => u.at_ p
    | none => none
def spLAt : Sp := fun vs H Q _ => ∃ (v px : V) (t u : Tr) (N : Addr → Prop) (q : Pth), vs = [v, px] ∧ NodeAt N H v t ∧ PthAt H px q ∧ t.at_ q = some u ∧ ∀ y, NodeAt N H y u → Q y H
theorem scLAt : FnScope ["_law_node_here", "_law_path_here", "_law_index_here"] ["_law_node_here", "_law_path_here"] (defScope sLAt) := ⟨rfl, rfl, rfl, by decide +kernel, rfl, by decide +kernel, by decide +kernel⟩
theorem at_nil (t : Tr) : t.at_ [] = some t := by
  cases t
  rw [Tr.at_]
theorem at_snoc : ∀ (p : Pth) (t u : Tr) (i : Nat), t.at_ p = some u → t.at_ (p ++ [i]) = u.at_ [i]
  | [], t, u, i, h => by
    rw [at_nil] at h
    injection h with h
    rw [h]
    rfl
  | j :: p, .nd k ms ks, u, i, h => by
    rw [Tr.at_] at h
    rw [List.cons_append, Tr.at_]
    cases e : ks.toL[j]? with
    | none =>
      rw [e] at h
      cases h
    | some x =>
      rw [e] at h
      exact at_snoc p x u i h
theorem at_take : ∀ (q : Pth) (n : Nat) (t u : Tr), t.at_ q = some u → ∃ x, t.at_ (q.take n) = some x
  | q, 0, t, u, _ => ⟨t, by rw [List.take_zero, at_nil]⟩
  | [], n + 1, t, u, h => ⟨u, h⟩
  | j :: q, n + 1, .nd k ms ks, u, h => by
    rw [Tr.at_] at h
    rw [List.take_succ_cons, Tr.at_]
    cases e : ks.toL[j]? with
    | none =>
      rw [e] at h
      cases h
    | some x =>
      rw [e] at h
      exact at_take q n x u h
theorem ok_lat {f : Addr} {fd : FuncData} (F : Fun K "_law_at" "_law_at" sLAt f fd) : FnOk P w K mg base CX0 1 f fd ["_law_node_here", "_law_path_here"] spLAt := by
  refine F.ok scLAt (fun vs H Q E h => ?_) (fun cdv A outer s H vs Q E hr h => ?_)
  · obtain ⟨_, _, _, _, _, _, rfl, _⟩ := h
    rfl
  · obtain ⟨v, px, t, u, N, q, rfl, nd, ⟨pp, rfl, hpp⟩, at_, fin⟩ := h
    refine ⟨_, pss_cons (ps_for PassesOwn.never rfl (pi_tup (pv 1)) (pg_name (i := 2) scLAt.nd rfl (Or.inl rfl)) (pss_one (ps_set (i := 0) scLAt.nd rfl (Or.inl rfl) (pe_ix ix_list (pe_ix ix_list (pv 0) pe_int (fun _ _ => rfl)) (pv 2) (fun _ _ => rfl)))))
      (pss_one (ps_ret (pv 0))), ?_⟩
    refine ⟨_, rfl, pp, rfl, ⟨_, .inl (.inl hpp)⟩, for_it (walk_tup (K := K) (a := pp) (xs := q.map nv)) (fun i σ H' => ∃ (y : V) (o2 : Option V) (x : Tr), σ = [some y, some (.ref pp), o2] ∧ H = H' ∧ t.at_ (q.take i) = some x ∧ NodeAt N H' y x)
      ⟨v, none, t, rfl, rfl, by rw [List.take_zero, at_nil], nd⟩ (fun i σ H' _ ⟨_, _, _, _, e, _⟩ => e ▸ .inl (.inl hpp)) ?_ ?_⟩
    · rintro i x0 σ H1 H2 hi ⟨y, o2, x, rfl, rfl, ax, nx⟩ ⟨rfl, hx⟩
      rw [List.getElem?_map] at hx
      obtain ⟨n, hn, rfl⟩ := Option.map_eq_some_iff.mp hx
      have tk : q.take (i + 1) = q.take i ++ [n] := by
        rw [List.take_succ, hn]
        rfl
      obtain ⟨z, hz⟩ := at_take q (i + 1) t u at_
      rw [tk, at_snoc _ t x n ax] at hz
      cases x with
      | nd k ms ks =>
      rw [NodeAt] at nx
      obtain ⟨a, m, b, us, rfl, na, nm, nb', h1, h2, h3, h4⟩ := nx
      have pr := nodes_to h4
      rw [Tr.at_] at hz
      cases e : ks.toL[n]? with
      | none =>
        rw [e] at hz
        cases hz
      | some w0 =>
        rw [e] at hz
        replace hz := (at_nil _).symm.trans hz
        injection hz with hz
        subst hz
        obtain ⟨y1, hy1, ny1⟩ := prd_get2 pr e
        refine ⟨_, rfl, a, _, 2, _, rfl, rfl, SqL.of h1, atI_nat (j := 2) rfl, _, rfl, b, us, _, y1, rfl, rfl, SqL.of h3, atI_nat hy1, y1, _, w0, rfl, rfl, ?_, ny1⟩
        rw [tk, at_snoc _ t _ n ax, Tr.at_, e]
        exact at_nil _
    · rintro σ H1 ⟨y, o2, x, rfl, rfl, ax, nx⟩
      rw [List.length_map, List.take_length, at_] at ax
      injection ax with ax
      subst ax
      exact ⟨_, rfl, fin y nx⟩
end
end K03

namespace K03
open PySem L2 DR DM TL
mutual
theorem nodes_at : ∀ (t : Tr) (p : Pth), ∀ x ∈ t.nodes p, ∃ r, x.1 = p ++ r ∧ t.at_ r = some x.2
  | .nd k ms ks, p, x, h => by
    rw [Tr.nodes] at h
    rcases List.mem_cons.mp h with rfl | h
    · exact ⟨[], (List.append_nil _).symm, at_nil _⟩
    · obtain ⟨j, u, r, e1, e2, e3, _⟩ := nodess_at ks p 0 x h
      rw [Nat.zero_add] at e1
      refine ⟨j :: r, e1, ?_⟩
      rw [Tr.at_, e2]
      exact e3
theorem nodess_at : ∀ (ts : Trs) (p : Pth) (i : Nat), ∀ x ∈ ts.nodes p i, ∃ j u r, x.1 = p ++ ((i + j) :: r) ∧ ts.toL[j]? = some u ∧ u.at_ r = some x.2 ∧ True
  | .nil, p, i, x, h => by
    rw [Trs.nodes] at h
    exact absurd h List.not_mem_nil
  | .cons t ts, p, i, x, h => by
    rw [Trs.nodes] at h
    rcases List.mem_append.mp h with h | h
    · obtain ⟨r, e1, e2⟩ := nodes_at t (p ++ [i]) x h
      exact ⟨0, t, r, by rw [e1]; simp, rfl, e2, trivial⟩
    · obtain ⟨j, u, r, e1, e2, e3, _⟩ := nodess_at ts p (i + 1) x h
      exact ⟨j + 1, u, r, by rw [e1, show i + (j + 1) = i + 1 + j by omega], e2, e3, trivial⟩
end
mutual
theorem nodes_dup : ∀ (t : Tr) (p : Pth), ((t.nodes p).map (·.1)).Nodup
  | .nd k ms ks, p => by
    rw [Tr.nodes, List.map_cons, List.nodup_cons]
    refine ⟨fun h => ?_, nodess_dup ks p 0⟩
    obtain ⟨x, hx, e⟩ := List.mem_map.mp h
    obtain ⟨j, u, r, e1, _⟩ := nodess_at ks p 0 x hx
    have : x.1 = p := e
    rw [this] at e1
    have := congrArg List.length e1
    rw [List.length_append, List.length_cons] at this
    omega
theorem nodess_dup : ∀ (ts : Trs) (p : Pth) (i : Nat), ((ts.nodes p i).map (·.1)).Nodup
  | .nil, p, i => by
    rw [Trs.nodes]
    exact List.nodup_nil
  | .cons t ts, p, i => by
    rw [Trs.nodes, List.map_append, List.nodup_append]
    refine ⟨nodes_dup t _, nodess_dup ts p (i + 1), fun a ha b hb e => ?_⟩
    obtain ⟨x, hx, rfl⟩ := List.mem_map.mp ha
    obtain ⟨y, hy, rfl⟩ := List.mem_map.mp hb
    obtain ⟨r, e1, _⟩ := nodes_at t _ x hx
    obtain ⟨j, u, r', e2, _⟩ := nodess_at ts p (i + 1) y hy
    have e : x.1 = y.1 := e
    rw [e1, e2, List.append_assoc] at e
    have := List.append_cancel_left e
    rw [List.singleton_append] at this
    injection this with h1 _
    omega
end
theorem nodup_inj {α : Type} : ∀ {l : List α}, l.Nodup → ∀ {i j : Nat} {x : α}, l[i]? = some x → l[j]? = some x → i = j
  | [], _, i, j, x, h, _ => by simp at h
  | y :: l, nd, 0, 0, x, _, _ => rfl
  | y :: l, nd, 0, j + 1, x, h1, h2 => by
    injection h1 with h1
    exact absurd (h1 ▸ List.mem_of_getElem? (l := l) (by simpa using h2)) (List.nodup_cons.mp nd).1
  | y :: l, nd, i + 1, 0, x, h1, h2 => by
    injection h2 with h2
    exact absurd (h2 ▸ List.mem_of_getElem? (l := l) (by simpa using h1)) (List.nodup_cons.mp nd).1
  | y :: l, nd, i + 1, j + 1, x, h1, h2 => congrArg (· + 1) (nodup_inj (List.nodup_cons.mp nd).2 (by simpa using h1) (by simpa using h2))
theorem plc_get {qs : List Pth} (nd : qs.Nodup) : ∀ n, n ≤ qs.length → ∀ (i : Nat) (q : Pth), qs[i]? = some q → i < n → valV (plc qs n) (pk q) = some (nv i)
  | 0, _, i, q, _, h => absurd h (Nat.not_lt_zero _)
  | n + 1, hn, i, q, hi, h => by
    have hx : qs[n]? = some (qs[n]'hn) := List.getElem?_eq_getElem hn
    show valV (match qs[n]? with | some q => putK (plc qs n) (pk q) (nv n) | none => plc qs n) (pk q) = _
    rw [hx]
    show valV (putK (plc qs n) (pk qs[n]) (nv n)) (pk q) = _
    rw [valV_put]
    by_cases c : i = n
    · subst c
      rw [hx] at hi
      injection hi with hi
      rw [if_pos (by rw [hi])]
    · rw [if_neg (fun z => ?_)]
      · exact plc_get nd n (by omega) i q hi (by omega)
      · have e := pk_inj z
        exact c (nodup_inj nd hi (by rw [e]; exact hx))
theorem plc_only {qs : List Pth} : ∀ n (k : List Key), (valV (plc qs n) k).isSome = true → ∃ q ∈ qs, k = pk q
  | 0, k, h => by
    rw [show plc qs 0 = [] from rfl, valV_nil] at h
    cases h
  | n + 1, k, h => by
    have h : (valV (match qs[n]? with | some q => putK (plc qs n) (pk q) (nv n) | none => plc qs n) k).isSome = true := h
    cases e : qs[n]? with
    | none =>
      rw [e] at h
      exact plc_only n k h
    | some q =>
      rw [e] at h
      have h : (valV (putK (plc qs n) (pk q) (nv n)) k).isSome = true := h
      rw [valV_put] at h
      by_cases c : k = pk q
      · exact ⟨q, List.mem_of_getElem? e, c⟩
      · rw [if_neg c] at h
        exact plc_only n k h
/-- all that the document of a tree tells of its i-th node -/
structure NodeOf (rs : List Row) (i : Nat) (q : Pth) (s : Tr) : Prop where
  lt : i < rs.length
  row : rs.getD i (0, [], []) = (q.length, s.kind, srt s.marks)
  part : partM rs i = s.rows srt 0
  kids : (kidsM rs i).length = s.kids.len
  place : valV (plc (pathsM rs) rs.length) (pk q) = some (nv i)
theorem tw_all {α : Type} {p : α → Bool} : ∀ (a b : List α), (∀ x ∈ a, p x = true) → (∀ x r, b = x :: r → p x = false) → (a ++ b).takeWhile p = a
  | [], [], _, _ => rfl
  | [], x :: b, _, h => by
    rw [List.nil_append, List.takeWhile_cons, h x b rfl]
    rfl
  | x :: a, b, h1, h2 => by
    rw [List.cons_append, List.takeWhile_cons, h1 x (List.mem_cons_self ..), if_pos rfl, tw_all a b (fun y hy => h1 y (List.mem_cons_of_mem _ hy)) h2]
theorem filt_range {rs : List Row} {d : Nat} : ∀ (n i : Nat), i + n ≤ rs.length → (((List.range n).map (i + ·)).filter fun j => decide (depM rs j = d)).length = (((rs.drop i).take n).filter fun r => decide (r.1 = d)).length
  | 0, i, _ => by simp
  | n + 1, i, h => by
    have ih := filt_range (rs := rs) (d := d) n i (by omega)
    have lt : i + n < rs.length := by omega
    have g : (rs.drop i)[n]? = some (rs.getD (i + n) (0, [], [])) := by
      rw [List.getElem?_drop, List.getD_eq_getElem?_getD, List.getElem?_eq_getElem lt]
      rfl
    rw [List.range_succ, List.map_append, List.filter_append, List.length_append, ih, List.take_succ, g, List.filter_append, List.length_append]
    congr 1
    show (List.filter (fun j => decide (depM rs j = d)) [i + n]).length = (List.filter (fun r => decide (r.1 = d)) [rs.getD (i + n) (0, [], [])]).length
    by_cases c : depM rs (i + n) = d
    · rw [List.filter_cons, List.filter_cons, if_pos (decide_eq_true c), if_pos (decide_eq_true (show (rs.getD (i + n) (0, [], [])).1 = d from c))]
      rfl
    · rw [List.filter_cons, List.filter_cons, if_neg (by rw [decide_eq_false c]; decide), if_neg (by rw [decide_eq_false (show ¬ (rs.getD (i + n) (0, [], [])).1 = d from c)]; decide)]
      rfl
theorem node_of (t : Tr) (i : Nat) (q : Pth) (s : Tr) (h : (t.nodes [])[i]? = some (q, s)) : NodeOf (t.rows srt 0) i q s := by
  obtain ⟨_, post, hd, lo⟩ := seg_tree t [] i q s h
  have hd : (t.rows srt 0).drop i = s.rows srt q.length ++ post := hd
  have lt : i < (t.rows srt 0).length := by
    rw [← nodes_len t [] 0]
    exact (List.getElem?_eq_some_iff.mp h).1
  generalize hr : t.rows srt 0 = rs at hd lt ⊢
  have sh := rows_head s q.length
  have g0 : rs.getD i (0, [], []) = (q.length, s.kind, srt s.marks) := by
    have : (rs.drop i)[0]? = some (q.length, s.kind, srt s.marks) := by
      rw [hd, sh]
      rfl
    rw [List.getElem?_drop, Nat.add_zero] at this
    rw [List.getD_eq_getElem?_getD, this]
    rfl
  have dep : depM rs i = q.length := congrArg Prod.fst g0
  have d1 : rs.drop (i + 1) = s.kids.rows srt (q.length + 1) ++ post := by
    have : rs.drop (i + 1) = (rs.drop i).drop 1 := by rw [List.drop_drop]
    rw [this, hd, sh]
    rfl
  have tw : ((rs.drop (i + 1)).takeWhile fun r => decide (depM rs i < r.1)) = s.kids.rows srt (q.length + 1) := by
    rw [d1, dep]
    refine tw_all _ _ (fun x hx => decide_eq_true (rowss_deep _ _ x hx)) fun x r e => decide_eq_false ?_
    have := lo x r e
    omega
  have en : endM rs i = i + 1 + (s.kids.rows srt (q.length + 1)).length := by
    show i + 1 + ((rs.drop (i + 1)).takeWhile fun r => decide (depM rs i < r.1)).length = _
    rw [tw]
  have kl : i + 1 + (s.kids.rows srt (q.length + 1)).length ≤ rs.length := by
    have := congrArg List.length d1
    rw [List.length_drop, List.length_append] at this
    omega
  refine ⟨lt, g0, ?_, ?_, ?_⟩
  · unfold partM
    have l2 : endM rs i - i = (s.rows srt q.length).length := by
      rw [en, sh, List.length_cons]
      omega
    rw [l2, hd, List.take_left, dep]
    have mv := move_tree s 0 q.length
    rw [Nat.zero_add] at mv
    rw [mv, List.map_map]
    refine (List.map_congr_left fun r _ => ?_).trans (List.map_id _)
    show ((((r.1 + q.length : Nat) : Int) + -(q.length : Int)).toNat, r.2) = r
    rw [show (((r.1 + q.length : Nat) : Int) + -(q.length : Int)).toNat = r.1 by omega]
  · unfold kidsM
    rw [en, show i + 1 + (s.kids.rows srt (q.length + 1)).length - (i + 1) = (s.kids.rows srt (q.length + 1)).length by omega, filt_range _ _ kl, d1, List.take_left, dep]
    exact kids_count s.kids (q.length + 1)
  · have pt := path_text (srt := srt) t
    rw [hr] at pt
    refine plc_get (by rw [pt]; exact nodes_dup t []) _ (by rw [paths_len]; exact Nat.le_refl _) i q ?_ lt
    rw [pt, List.getElem?_map, h]
    rfl
end K03

namespace K03
open PySem L2 DR DM TL
abbrev sBetween : Stmt := top 5
def spBetween : Sp := fun vs H Q _ => ∃ x l m : Int, vs = [.int x, .int l, .int m] ∧ Q (.bl (decide (l ≤ x) && decide (x ≤ m))) H
def spReplaced (C : Addr) : Sp := fun vs H Q _ => ∃ (a : Addr) (rs : List Row) (i : Nat) (x : V) (r : Row), vs = [.ref a, nv i, x] ∧ DocAt C H a rs ∧ i < rs.length ∧ RowAt H x r ∧ Few (rs.take i ++ r :: rs.drop (i + 1)) ∧
  ∀ b H', Same H H' → DocAt C H' b (rs.take i ++ r :: rs.drop (i + 1)) → Q (.ref b) H'
def spRenamed (C : Addr) : Sp := fun vs H Q _ => ∃ (a : Addr) (rs : List Row) (x : V) (q : Pth) (i : Nat) (k : W), vs = [.ref a, x, sv k] ∧ DocAt C H a rs ∧ PthAt H x q ∧ q.length ≤ 1000 ∧ i < rs.length ∧ valV (plc (pathsM rs) rs.length) (pk q) = some (nv i) ∧ isName k = true ∧
  Few (rs.take i ++ ((rs.getD i (0, [], [])).1, k, (rs.getD i (0, [], [])).2.2) :: rs.drop (i + 1)) ∧ ∀ b H', Same H H' → DocAt C H' b (rs.take i ++ ((rs.getD i (0, [], [])).1, k, (rs.getD i (0, [], [])).2.2) :: rs.drop (i + 1)) → Q (.ref b) H'
section
variable {P : Program} {w : World} {K : PySem.W.Frag} {mg : Str → Option Value} {base : Heap}
theorem scBetween : FnScope ["value", "least", "most"] ["value", "least", "most"] (defScope sBetween) := ⟨rfl, rfl, rfl, by decide +kernel, rfl, by decide +kernel, by decide +kernel⟩
theorem ok_between {f : Addr} {fd : FuncData} (F : Fun K "is_between" "is_between" sBetween f fd) (D1 : Has P w K mg base 1 "is_integer" ["value"] (spInt K)) : FnOk P w K mg base CX0 2 f fd ["value", "least", "most"] spBetween := by
  obtain ⟨fI, fdI, GI, mI, kI, bI⟩ := D1
  refine F.ok scBetween (fun vs H Q E h => ?_) (fun cdv A outer s H vs Q E hr h => ?_)
  · obtain ⟨_, _, _, rfl, _⟩ := h
    rfl
  · obtain ⟨x, l, m, rfl, fin⟩ := h
    refine ⟨_, pss_one (ps_ret (pe_and (pe_call GI hr (by rfl) mI kI bI .nil pass0 (pa_cons (pv 0) pa_nil)) (pe_one (pe_chain op_le op_le (pv 1) (pv 0) (pv 2))))), ?_⟩
    refine ⟨_, rfl, .int x, .type "int", true, false, rfl, .base (.int x), by rfl, by rfl, _, rfl, iteT ⟨_, rfl, _, rfl, _, _, rfl, rfl, _, rfl, ?_⟩⟩
    by_cases c : l ≤ x
    · rw [decide_eq_true c, Bool.true_and] at fin
      rw [decide_eq_true c]
      exact iteT ⟨_, rfl, _, _, rfl, rfl, fin⟩
    · rw [decide_eq_false c, Bool.false_and] at fin
      rw [decide_eq_false c]
      exact iteF fin
theorem scReplaced : FnScope ["self", "at", "row"] ["self", "at", "row"] (defScope (cDoc 16)) := ⟨rfl, rfl, rfl, by decide +kernel, rfl, by decide +kernel, by decide +kernel⟩
theorem ok_replaced {f C : Addr} {fd : FuncData} (F : Fun K "_replaced" "Document._replaced" (cDoc 16) f fd) (DC : DCls K mg C) (D4 : C8.Mak P w K mg base 2 "Document" C (spInit C) []) : FnOk P w K mg base CX0 4 f fd ["self", "at", "row"] (spReplaced C) := by
  refine F.ok scReplaced (fun vs H Q E h => ?_) (fun cdv A outer s H vs Q E hr h => ?_)
  · obtain ⟨_, _, _, _, _, rfl, _⟩ := h
    rfl
  · obtain ⟨a, rs, i, x, r, rfl, dc, hi, hx, few, fin⟩ := h
    refine ⟨_, pss_one (ps_ret (C8.pe_mk D4 hr (by decide) (by rfl) (pa_cons (pe_tup (StX.pa_star (pe_slice sl_tupA (pe_fld (pv 0) rfl) po_none (po_some (pv 1))) (pa_cons (pv 2) (StX.pa_star (pe_slice sl_tupA (pe_fld (pv 0) rfl) (po_some (pe_op op_add (pv 1) pe_int)) po_none) pa_nil)))) pa_nil))), ?_⟩
    have B := big
    obtain ⟨dx, rr, p, d, us, ws, h1, h2, h3, h4, h5, h6, fw⟩ := id dc
    have ul := h3.length
    have z1 : ((i : Nat) : Int) + 1 = ((i + 1 : Nat) : Int) := by omega
    refine ⟨_, rfl, a, C, dx, _, _, rfl, h1, DC.cls, DC.rows, rfl, _, rfl, _, rfl, rr, us, rfl, .inl (.inl h2), fun z => ?_, fun _ b hb => ?_⟩
    · have z2 : HT.sIx us.length us.length (some ((i : Nat) : Int)) = us.length := z.2
      rw [HT.sIx_nat] at z2
      omega
    · rw [show cutV us none (some (nvi i)) = us.take i from cut_to us i]
      generalize g2 : upd H b _ = H2
      have s2 : Same H H2 := g2 ▸ same_new hb
      have m2 : H2 b = some (.tup (us.take i)) := g2 ▸ upd_same
      refine ⟨b, _, rfl, .inl (.inl (.inl m2)), _, rfl, _, rfl, a, C, dx, _, _, rfl, s2 _ _ h1, DC.cls, DC.rows, rfl, _, rfl, _, _, rfl, rfl, _, rfl, rr, us, rfl, .inl (.inl (s2 _ _ h2)), fun z => ?_, fun _ c hc => ?_⟩
      · have z2 : HT.sIx us.length 0 (some (((i : Nat) : Int) + 1)) = 0 := z.1
        rw [z1, HT.sIx_nat] at z2
        omega
      · rw [show cutV us (some (((i : Nat) : Int) + 1)) none = us.drop (i + 1) from by rw [z1]; exact cut_from us (i + 1)]
        generalize g3 : upd H2 c _ = H3
        have s3 : Same H2 H3 := g3 ▸ same_new hc
        have m3 : H3 c = some (.tup (us.drop (i + 1))) := g3 ▸ upd_same
        refine ⟨c, _, rfl, .inl (.inl (.inl m3)), ?_, fun e he => ?_⟩
        · simp
          have := fw.1
          omega
        · generalize g4 : upd H3 e _ = H4
          have s4 : Same H3 H4 := g4 ▸ same_new he
          have m4 : H4 e = some (.tup (us.take i ++ x :: us.drop (i + 1))) := g4 ▸ (upd_same.trans (by simp))
          have s24 := s2.trans (s3.trans s4)
          have ra : RowsAt H4 (us.take i ++ x :: us.drop (i + 1)) (rs.take i ++ r :: rs.drop (i + 1)) := paired_append (RowsAt.same s24 (paired_take h3 i)) (.cons (hx.same s24) (RowsAt.same s24 (paired_drop h3 (i + 1))))
          intro y dy hy hdy ne
          have s5 := same_up (C := C) hy hdy
          exact ⟨y, dy, e, _, _, rfl, upd_same, .inl (s5 _ _ m4), ra.same s5, few, fun H6 o6 d6 => ⟨rfl, fin y _ (s24.trans (same_make hy hdy o6)) d6⟩⟩
theorem scRenamed : FnScope ["self", "path", "kind", "at", "depth", "_", "marks"] ["self", "path", "kind"] (defScope (cDoc 14)) := ⟨rfl, rfl, rfl, by decide +kernel, rfl, by decide +kernel, by decide +kernel⟩
theorem ok_renamed {f C : Addr} {fd : FuncData} (F : Fun K "renamed" "Document.renamed" (cDoc 14) f fd) (DC : DCls K mg C) (D1 : C8.Met P w K mg base 4 C "number_of" (spPlaceP C) []) (D2 : Has P w K mg base 1 "is_name" ["value"] spName) (D3 : C8.Met P w K mg base 4 C "_replaced" (spReplaced C) []) :
    FnOk P w K mg base CX0 5 f fd ["self", "path", "kind"] (spRenamed C) := by
  obtain ⟨fN, fdN, GN, mN, kN, bN⟩ := D2
  refine F.ok scRenamed (fun vs H Q E h => ?_) (fun cdv A outer s H vs Q E hr h => ?_)
  · obtain ⟨_, _, _, _, _, _, rfl, _⟩ := h
    rfl
  · obtain ⟨a, rs, x, q, i, k, rfl, dc, px, ql, hi, at_, nm, few, fin⟩ := h
    have hr1 : Room 1 _ := hr.mono (by decide)
    refine ⟨_, pss_cons (ps_set (i := 3) scRenamed.nd rfl (Or.inl rfl) (C8.pe_mt D1 hr (Nat.le_refl _) (pv 0) (pa_cons (pv 1) pa_nil)))
      (pss_cons (ps_if (pt_not (pt_val (pe_call GN hr1 (by rfl) mN kN bN .nil pass0 (pa_cons (pv 2) pa_nil)))) (pss_one ps_never) pss_nil)
      (pss_cons (ps_asg (pe_ix ix_tup (pe_fld (pv 0) rfl) (pv 3) (fun _ _ => rfl)) (pg_tup rfl (pgs_cons (pg_name (i := 4) scRenamed.nd rfl (Or.inl rfl)) (pgs_cons (pg_name (i := 5) scRenamed.nd rfl (Or.inl rfl)) (pgs_cons (pg_name (i := 6) scRenamed.nd rfl (Or.inl rfl)) pgs_nil)))))
      (pss_one (ps_ret (C8.pe_mt D3 hr (Nat.le_refl _) (pv 0) (pa_cons (pv 3) (pa_cons (pe_tup (pa_cons (pv 4) (pa_cons (pv 2) (pa_cons (pv 6) pa_nil)))) pa_nil))))))), ?_⟩
    have B := big
    obtain ⟨dx0, _, _, _, _, _, hd0, _⟩ := id dc
    refine ⟨_, rfl, a, dx0, _, rfl, hd0, rfl, _, rfl, a, rs, x, q, i, rfl, dc, px, ql, at_, fun H1 s1 => ?_⟩
    have nl := (isName_mem nm).2.1
    refine ⟨_, rfl, toS k, rfl, by show k.length ≤ 30000; omega, fun H2 s2 => ⟨_, rfl, ?_⟩⟩
    rw [show isName (tl (toS k)) = true from nm]
    refine iteF ?_
    have s12 := s1.trans s2
    obtain ⟨dx, rr, p, d, us, ws, h1, h2, h3, _⟩ := id (dc.same s12)
    obtain ⟨x1, r1, ux1, rx1, g1, a1, m1, rfl, ha1, hm1⟩ := row_at h3 hi
    refine ⟨_, rfl, a, C, dx, _, _, rfl, h1, DC.cls, DC.rows, rfl, _, rfl, rr, us, _, _, rfl, rfl, .inl (.inl h2), atI_nat ux1, a1, _, rfl, .inl (.inl ha1), rfl, _, _, rfl, _, _, rfl, _, _, rfl, rfl, ?_⟩
    refine ⟨_, rfl, a, dx, _, rfl, h1, rfl, _, rfl, _, rfl, _, rfl, _, rfl, by show 3 ≤ sizeLine; decide, fun e he => ?_⟩
    generalize g4 : upd H2 e _ = H4
    have s4 : Same H2 H4 := g4 ▸ same_new he
    have m4 : H4 e = some (.tup [.int (r1.1 : Nat), sv k, .ref m1]) := g4 ▸ upd_same
    rw [g1] at few fin
    exact ⟨a, rs, i, .ref e, (r1.1, k, r1.2.2), rfl, (dc.same s12).same s4, hi, ⟨e, m1, rfl, m4, s4 _ _ hm1⟩, few, fun b H' s5 d5 => fin b H' (s12.trans (s4.trans s5)) d5⟩
def spRemoved (C : Addr) : Sp := fun vs H Q _ => ∃ (a : Addr) (rs : List Row) (x : V) (q : Pth) (i : Nat), vs = [.ref a, x] ∧ DocAt C H a rs ∧ PthAt H x q ∧ q.length ≤ 1000 ∧ i < rs.length ∧ i ≠ 0 ∧ valV (plc (pathsM rs) rs.length) (pk q) = some (nv i) ∧
  ∀ b H', Same H H' → DocAt C H' b (rs.take i ++ rs.drop (endM rs i)) → Q (.ref b) H'
theorem few_cut {rs : List Row} (f : Few rs) (i e : Nat) (h : i ≤ e) : Few (rs.take i ++ rs.drop e) := by
  obtain ⟨h1, h2⟩ := f
  refine ⟨?_, fun r hr => ?_⟩
  · rw [List.length_append, List.length_take, List.length_drop]
    omega
  · rcases List.mem_append.mp hr with hr | hr
    · exact h2 r (List.mem_of_mem_take hr)
    · exact h2 r (List.mem_of_mem_drop hr)
theorem scRemoved : FnScope ["self", "path", "at"] ["self", "path"] (defScope (cDoc 13)) := ⟨rfl, rfl, rfl, by decide +kernel, rfl, by decide +kernel, by decide +kernel⟩
theorem ok_removed {f C : Addr} {fd : FuncData} (F : Fun K "removed" "Document.removed" (cDoc 13) f fd) (DC : DCls K mg C) (D1 : C8.Met P w K mg base 4 C "number_of" (spPlaceP C) []) (D2 : C8.Met P w K mg base 1 C "_end" (spEndP C) []) (D4 : C8.Mak P w K mg base 2 "Document" C (spInit C) []) :
    FnOk P w K mg base CX0 5 f fd ["self", "path"] (spRemoved C) := by
  refine F.ok scRemoved (fun vs H Q E h => ?_) (fun cdv A outer s H vs Q E hr h => ?_)
  · obtain ⟨_, _, _, _, _, rfl, _⟩ := h
    rfl
  · obtain ⟨a, rs, x, q, i, rfl, dc, px, ql, hi, i0, at_, fin⟩ := h
    refine ⟨_, pss_cons (ps_set (i := 2) scRemoved.nd rfl (Or.inl rfl) (C8.pe_mt D1 hr (Nat.le_refl _) (pv 0) (pa_cons (pv 1) pa_nil)))
      (pss_cons (ps_if (pt_cmpR op_eq (pv 2) pe_int rfl) (pss_one ps_never) pss_nil)
      (pss_one (ps_ret (C8.pe_mk D4 hr (by decide) (by rfl) (pa_cons (pe_op op_catA (pe_slice sl_tupA (pe_fld (pv 0) rfl) po_none (po_some (pv 2))) (pe_slice sl_tupA (pe_fld (pv 0) rfl) (po_some (C8.pe_mt D2 hr (by decide) (pv 0) (pa_cons (pv 2) pa_nil))) po_none)) pa_nil))))), ?_⟩
    have B := big
    obtain ⟨dx0, _, _, _, _, _, hd0, _⟩ := id dc
    refine ⟨_, rfl, a, dx0, _, rfl, hd0, rfl, _, rfl, a, rs, x, q, i, rfl, dc, px, ql, at_, fun H1 s1 => ?_⟩
    refine ⟨_, rfl, rfl, _, rfl, ?_⟩
    rw [decide_eq_false (show ¬ (nv i = V.int 0) from fun z => by injection z with z; omega)]
    refine iteF ?_
    obtain ⟨dx, rr, p, d, us, ws, h1, h2, h3, h4, h5, h6, fw⟩ := id (dc.same s1)
    have ul := h3.length
    obtain ⟨el, eu⟩ := end_le rs i hi
    refine ⟨_, rfl, a, C, dx, _, _, rfl, h1, DC.cls, DC.rows, rfl, _, rfl, _, rfl, rr, us, rfl, .inl (.inl h2), fun z => ?_, fun _ b hb => ?_⟩
    · have z2 : HT.sIx us.length us.length (some ((i : Nat) : Int)) = us.length := z.2
      rw [HT.sIx_nat] at z2
      omega
    · rw [show cutV us none (some (nvi i)) = us.take i from cut_to us i]
      generalize g2 : upd H1 b _ = H2
      have s2 : Same H1 H2 := g2 ▸ same_new hb
      have m2 : H2 b = some (.tup (us.take i)) := g2 ▸ upd_same
      refine ⟨_, rfl, a, C, dx, _, _, rfl, s2 _ _ h1, DC.cls, DC.rows, rfl, _, rfl, a, dx, _, rfl, s2 _ _ h1, rfl, _, rfl, a, rs, i, rfl, (dc.same s1).same s2, hi, _, rfl, rr, us, rfl, .inl (.inl (s2 _ _ h2)), fun z => ?_, fun _ c hc => ?_⟩
      · have z2 : HT.sIx us.length 0 (some ((endM rs i : Nat) : Int)) = 0 := z.1
        rw [HT.sIx_nat] at z2
        omega
      · rw [show cutV us (some (nvi (endM rs i))) none = us.drop (endM rs i) from cut_from us (endM rs i)]
        generalize g3 : upd H2 c _ = H3
        have s3 : Same H2 H3 := g3 ▸ same_new hc
        have m3 : H3 c = some (.tup (us.drop (endM rs i))) := g3 ▸ upd_same
        have s13 := s1.trans (s2.trans s3)
        have made : ∀ (H4 : Hp) (e : Addr), Same H3 H4 → H4 e = some (.tup (us.take i ++ us.drop (endM rs i))) → ∀ y dy, H4 y = none → H4 dy = none → dy ≠ y →
            spInit C (.ref y :: ([V.ref e] ++ [])) (upd (upd H4 dy (.own y)) y (.ins C dy [])) (fun v H2 => v = .non ∧ Q (.ref y) H2) E0 := fun H4 e s4 m4 y dy hy hdy _ => by
          have s5 := same_up (C := C) hy hdy
          have s14 := s2.trans (s3.trans s4)
          have ra : RowsAt H4 (us.take i ++ us.drop (endM rs i)) (rs.take i ++ rs.drop (endM rs i)) := paired_append (RowsAt.same s14 (paired_take h3 i)) (RowsAt.same s14 (paired_drop h3 (endM rs i)))
          exact ⟨y, dy, e, _, _, rfl, upd_same, .inl (s5 _ _ m4), ra.same s5, few_cut fw i _ (by omega), fun H6 o6 d6 => ⟨rfl, fin y _ (s13.trans (s4.trans (same_make hy hdy o6))) d6⟩⟩
        refine ⟨b, c, _, _, rfl, rfl, .inl (.inl (s3 _ _ m2)), .inl (.inl m3), ?_, fun z => ?_, fun _ z => ?_, fun _ _ e he => ?_⟩
        · rw [List.length_take, List.length_drop]
          have := fw.1
          omega
        · exact absurd z (by
            intro z
            have := congrArg List.length z
            rw [List.length_take, List.length_nil] at this
            omega)
        · refine made H3 b (Same.refl _) ?_
          rw [z, List.append_nil]
          exact s3 _ _ m2
        · exact made _ e (same_new he) upd_same
end
end K03

namespace K03
open PySem L2 DR DM TL
def PropM (P : Program) (w : World) (K : PySem.W.Frag) (mg : Str → Option Value) (base : Heap) (C : Addr) (m : Str) (sp : Sp) : Prop :=
  ∃ p g fd, PropOf K C m p g ∧ FnOk P w K mg base CX0 1 g fd ["self"] sp ∧ Binds K fd ["self"] []
/-- where a child with this index begins -/
def spotM (rs : List Row) (i j : Nat) : Nat := (kidsM rs i ++ [endM rs i]).getD j 0
def insM (rs rs2 : List Row) (i j : Nat) : List Row := rs.take (spotM rs i j) ++ rs2.map (up ((depM rs i : Int) + 1)) ++ rs.drop (spotM rs i j)
def spInserted (K : PySem.W.Frag) (C : Addr) : Sp := fun vs H Q _ => ∃ (a b : Addr) (rs rs2 : List Row) (x : V) (q : Pth) (i j : Nat), vs = [.ref a, x, nv j, .ref b] ∧ DocAt C H a rs ∧ DocAt C H b rs2 ∧ PthAt H x q ∧ q.length ≤ 1000 ∧ i < rs.length ∧
  valV (plc (pathsM rs) rs.length) (pk q) = some (nv i) ∧ j ≤ (kidsM rs i).length ∧ rs.length + rs2.length ≤ 200 ∧ Few (insM rs rs2 i j) ∧ ∀ c H', Same H H' → DocAt C H' c (insM rs rs2 i j) → Q (.ref c) H'
/-- t + u, whichever object it is -/
def rCatU : R2 := fun x y H Q => ∃ a b xs ys, x = .ref a ∧ y = .ref b ∧ H a = some (.tup xs) ∧ H b = some (.tup ys) ∧ xs ≠ [] ∧ xs.length + ys.length ≤ sizeLine ∧ ∀ r H', Same H H' → H' r = some (.tup (xs ++ ys)) → Q (.ref r) H'
theorem op_catU {X : Cx} : OpR X (binaryOp .Add) rCatU := by
  intro pins s σ H x y v u Q I rx ry ⟨a, b, xs, ys, e1, e2, h1, h2, ne, len, fin⟩
  refine op_catA pins s σ H x y v u Q I rx ry ⟨a, b, xs, ys, e1, e2, .inl (.inl h1), .inl (.inl h2), len, fun z => absurd z ne, fun _ z => fin a H (Same.refl _) (by rw [z, List.append_nil]; exact h1), fun _ _ p hp => fin p _ (same_new hp) upd_same⟩
/-- t[lo:hi], whichever object it is -/
def rSlU : V → Option Int → Option Int → Hp → VK → Prop := fun x lo hi H Q => ∃ a xs, x = .ref a ∧ H a = some (.tup xs) ∧ ∀ r H', Same H H' → H' r = some (.tup (cutV xs lo hi)) → Q (.ref r) H'
theorem sl_U {X : Cx} : SlR X rSlU := by
  intro pins s σ H x v vl vu lo hi sl Q I rx hs pl pu ⟨a, xs, e1, h1, fin⟩
  refine sl_tupA pins s σ H x v vl vu lo hi sl Q I rx hs pl pu ⟨a, xs, e1, .inl (.inl h1), fun z => fin a H (Same.refl _) ?_, fun _ p hp => fin p _ (same_new hp) upd_same⟩
  rw [h1]
  unfold cutV
  rw [z.1, z.2, List.drop_zero, Nat.sub_zero, List.take_length]
theorem spot_in {rs : List Row} {i j : Nat} (hi : i < rs.length) (hj : j ≤ (kidsM rs i).length) : i < spotM rs i j ∧ spotM rs i j ≤ rs.length ∧ ((kidsM rs i).map nv ++ [nv (endM rs i)])[j]? = some (nv (spotM rs i j)) := by
  obtain ⟨el, eu⟩ := end_le rs i hi
  have lt : j < (kidsM rs i ++ [endM rs i]).length := by
    rw [List.length_append]
    exact Nat.lt_succ_of_le hj
  have g : (kidsM rs i ++ [endM rs i])[j]? = some (spotM rs i j) := by
    unfold spotM
    rw [List.getD_eq_getElem?_getD, List.getElem?_eq_getElem lt]
    rfl
  have m := List.mem_of_getElem? g
  refine ⟨?_, ?_, ?_⟩
  · rcases List.mem_append.mp m with m | m
    · unfold kidsM at m
      obtain ⟨y, hy, e⟩ := List.mem_map.mp (List.mem_filter.mp m).1
      omega
    · rw [List.mem_singleton.mp m]
      omega
  · rcases List.mem_append.mp m with m | m
    · unfold kidsM at m
      obtain ⟨y, hy, e⟩ := List.mem_map.mp (List.mem_filter.mp m).1
      have := List.mem_range.mp hy
      omega
    · rw [List.mem_singleton.mp m]
      exact eu
  · have := congrArg (Option.map nv) g
    rw [← List.getElem?_map, List.map_append] at this
    exact this
section
variable {P : Program} {w : World} {K : PySem.W.Frag} {mg : Str → Option Value} {base : Heap}
theorem scInserted : FnScope ["self", "path", "index", "part", "at", "children", "spots", "spot", "rows"] ["self", "path", "index", "part"] (defScope (cDoc 12)) := ⟨rfl, rfl, rfl, by decide +kernel, rfl, by decide +kernel, by decide +kernel⟩
theorem ok_inserted {f C : Addr} {fd : FuncData} (F : Fun K "inserted" "Document.inserted" (cDoc 12) f fd) (T : Txt mg) (DC : DCls K mg C) (hm : mg "Document" = some (.ref C)) (hk : PySem.W.kitOne K (.ref C) (.ref C) = some true) (tyD : ∀ (H : Hp) (a dx : Addr) (fs : List (Str × V)), H a = some (.ins C dx fs) → TyX K H (.ref a) (.ref C))
    (D1 : C8.Met P w K mg base 4 C "number_of" (spPlaceP C) []) (D2 : C8.Met P w K mg base 2 C "_children" (spKidsP C) []) (D3 : C8.Met P w K mg base 1 C "_end" (spEndP C) []) (D4 : C8.Mak P w K mg base 2 "Document" C (spInit C) []) (D5 : Has P w K mg base 2 "is_between" ["value", "least", "most"] spBetween)
    (D6 : Has P w K mg base 1 "moved" ["rows", "by"] spMoved) (D7 : PropM P w K mg base C "size" (spSizeP C)) : FnOk P w K mg base CX0 5 f fd ["self", "path", "index", "part"] (spInserted K C) := by
  obtain ⟨fB, fdB, GB, mB, kB, bB⟩ := D5
  obtain ⟨fM, fdM, GM, mM, kM, bM⟩ := D6
  obtain ⟨pS, fS, fdS, prS, GS, bS⟩ := D7
  obtain ⟨uM, mMost, rMost⟩ := T.most
  refine F.ok scInserted (fun vs H Q E h => ?_) (fun cdv A outer s H vs Q E hr h => ?_)
  · obtain ⟨_, _, _, _, _, _, _, _, rfl, _⟩ := h
    rfl
  · obtain ⟨a, b, rs, rs2, x, q, i, j, rfl, dc, db, px, ql, hi, at_, hj, sz, few, fin⟩ := h
    have hr1 : Room 1 _ := hr.mono (by decide)
    have hr2 : Room 2 _ := hr.mono (by decide)
    refine ⟨_, pss_cons (ps_set (i := 4) scInserted.nd rfl (Or.inl rfl) (C8.pe_mt D1 hr (Nat.le_refl _) (pv 0) (pa_cons (pv 1) pa_nil)))
      (pss_cons (ps_set (i := 5) scInserted.nd rfl (Or.inl rfl) (C8.pe_mt D2 hr (by decide) (pv 0) (pa_cons (pv 4) pa_nil)))
      (pss_cons (ps_if (pt_not (pt_val (pe_call GB hr2 (by rfl) mB kB bB .nil pass0 (pa_cons (pv 2) (pa_cons pe_int (pa_cons (pe_callB call_len_seq (by rfl) T.len PySem.boot_len (pa_cons (pv 5) pa_nil)) pa_nil)))))) (pss_one ps_never) pss_nil)
      (pss_cons (ps_if (pt_not (pt_val (pe_callB call_isi (by rfl) T.isi PyProof.Rows.boot_isinstance (pa_cons (pv 3) (pa_cons (pe_glob (v := .ref C) (by rfl) hm rfl) pa_nil))))) (pss_one ps_never) pss_nil)
      (pss_cons (ps_if (pt_cmpR op_gt (pe_op op_add (pe_prop (pv 0) DC.cls prS GS hr2 bS .nil pass0 rfl) (pe_prop (pv 3) DC.cls prS GS hr2 bS .nil pass0 rfl)) (pe_glob (v := .int 200) (by rfl) mMost rMost) rfl) (pss_one ps_never) pss_nil)
      (pss_cons (ps_set (i := 6) scInserted.nd rfl (Or.inl rfl) (pe_lst (StX.pa_star (pv 5) (pa_cons (C8.pe_mt D3 hr (by decide) (pv 0) (pa_cons (pv 4) pa_nil)) pa_nil))))
      (pss_cons (ps_set (i := 7) scInserted.nd rfl (Or.inl rfl) (pe_ix ix_list (pv 6) (pv 2) (fun _ _ => rfl)))
      (pss_cons (ps_set (i := 8) scInserted.nd rfl (Or.inl rfl) (pe_call GM hr1 (by rfl) mM kM bM .nil pass0 (pa_cons (pe_fld (pv 3) rfl) (pa_cons (pe_op op_add (pe_ix ix_tup (pe_ix ix_tup (pe_fld (pv 0) rfl) (pv 4) (fun _ _ => rfl)) pe_int (fun _ _ => rfl)) pe_int) pa_nil))))
      (pss_one (ps_ret (C8.pe_mk D4 hr (by decide) (by rfl) (pa_cons (pe_op op_catU (pe_op op_catU (pe_slice sl_U (pe_fld (pv 0) rfl) po_none (po_some (pv 7))) (pv 8)) (pe_slice sl_U (pe_fld (pv 0) rfl) (po_some (pv 7)) po_none)) pa_nil))))))))))), ?_⟩
    have B := big
    obtain ⟨dx0, _, _, _, _, _, hd0, _⟩ := id dc
    refine ⟨_, rfl, a, dx0, _, rfl, hd0, rfl, _, rfl, a, rs, x, q, i, rfl, dc, px, ql, at_, fun H1 s1 => ?_⟩
    refine ⟨_, rfl, a, dx0, _, rfl, s1 _ _ hd0, rfl, _, rfl, a, rs, i, rfl, dc.same s1, hi, fun L H2 nL s2 m2 => ?_⟩
    have s12 := s1.trans s2
    have kl : ((kidsM rs i).map nv).length = (kidsM rs i).length := List.length_map ..
    refine ⟨_, rfl, _, rfl, L, _, rfl, .inl (SqL.of m2), ((j : Nat) : Int), 0, _, rfl, _, rfl, ?_⟩
    rw [kl, decide_eq_true (show (0 : Int) ≤ ((j : Nat) : Int) by omega), decide_eq_true (show ((j : Nat) : Int) ≤ (((kidsM rs i).length : Nat) : Int) by omega)]
    refine iteF ?_
    obtain ⟨dxb, _, _, _, _, _, hb2, _⟩ := id (db.same s12)
    refine ⟨_, rfl, .ref b, .ref C, .ref C, _, true, rfl, .own C, tyD _ _ _ _ hb2, hk, true, rfl, ?_⟩
    refine iteF ?_
    refine ⟨_, rfl, a, dx0, _, rfl, s12 _ _ hd0, a, rs, rfl, dc.same s12, _, rfl, b, dxb, _, rfl, hb2, b, rs2, rfl, db.same s12, _, _, rfl, rfl, _, _, rfl, rfl, _, rfl, ?_⟩
    rw [decide_eq_false (show ¬ (200 : Int) < ((rs.length : Nat) : Int) + ((rs2.length : Nat) : Int) by omega)]
    refine iteF ?_
    refine ⟨_, rfl, L, _, rfl, .inr (SqL.of m2), _, rfl, a, dx0, _, rfl, s12 _ _ hd0, rfl, _, rfl, a, rs, i, rfl, dc.same s12, hi, ?_, fun S hS => ?_⟩
    · obtain ⟨_, _, _, _, _, _, _, _, _, _, _, _, fw⟩ := id dc
      have h1 := (List.length_filter_le (fun j => decide (depM rs j = depM rs i + 1)) ((List.range (endM rs i - (i + 1))).map (i + 1 + ·)))
      rw [List.length_map, List.length_range] at h1
      have h2 := (end_le rs i hi).2
      have h3 := fw.1
      have h4 : (kidsM rs i).length ≤ endM rs i - (i + 1) := h1
      rw [List.length_append, kl]
      show _ + 1 ≤ _
      omega
    obtain ⟨g1, g2, g3⟩ := spot_in hi hj
    generalize gs : upd H2 S _ = H3
    have s3 : Same H2 H3 := gs ▸ same_new hS
    have m3 : H3 S = some (.lst ((kidsM rs i).map nv ++ [nv (endM rs i)])) := gs ▸ upd_same
    have s13 := s12.trans s3
    refine ⟨_, rfl, _, rfl, S, _, _, _, rfl, rfl, SqL.of m3, atI_nat g3, ?_⟩
    generalize spe : spotM rs i j = sp at g1 g2 g3
    obtain ⟨dx, rr, p, d, us, ws, h1, h2, h3, h4, h5, h6, fw⟩ := id (dc.same s13)
    obtain ⟨dxc, rb, pb, db', ub, wb, c1, c2, c3, c4, c5, c6, fwb⟩ := id (db.same s13)
    obtain ⟨x1, r1, ux1, rx1, g4, a1, m1, rfl, ha1, hm1⟩ := row_at h3 hi
    have dep1 : depM rs i = r1.1 := congrArg Prod.fst g4
    refine ⟨_, rfl, b, C, dxc, _, _, rfl, c1, DC.cls, DC.rows, rfl, _, rfl, a, C, dx, _, _, rfl, h1, DC.cls, DC.rows, rfl, _, rfl, rr, us, _, _, rfl, rfl, .inl (.inl h2), atI_nat ux1, a1, _, 0, _, rfl, rfl, .inl (.inl ha1), atI_nat (j := 0) rfl, _, _, rfl, rfl,
      rb, ub, rs2, _, rfl, c2, c3, by omega, fun r _ => by omega, fun W ws4 H4 nW s4 m4 ra4 => ?_⟩
    have s14 := s13.trans s4
    have ul := h3.length
    refine ⟨_, rfl, a, C, dx, _, _, rfl, s4 _ _ h1, DC.cls, DC.rows, rfl, _, rfl, _, rfl, rr, us, rfl, s4 _ _ h2, fun t1 H5 s5 m5 => ?_⟩
    have m5 : H5 t1 = some (.tup (us.take sp)) := by
      rw [m5]
      exact congrArg (fun z => some (HO.tup z)) (cut_to us sp)
    have ne1 : us.take sp ≠ [] := fun z => by
      have := congrArg List.length z
      rw [List.length_take, List.length_nil] at this
      omega
    have wl := ra4.length
    rw [List.length_map] at wl
    refine ⟨_, rfl, t1, W, _, _, rfl, rfl, m5, s5 _ _ m4, ne1, by rw [List.length_take]; omega, fun t2 H6 s6 m6 => ?_⟩
    have s46 := s5.trans s6
    refine ⟨_, rfl, a, C, dx, _, _, rfl, s46 _ _ (s4 _ _ h1), DC.cls, DC.rows, rfl, _, rfl, _, rfl, rr, us, rfl, s46 _ _ (s4 _ _ h2), fun t3 H7 s7 m7 => ?_⟩
    have m7 : H7 t3 = some (.tup (us.drop sp)) := by
      rw [m7]
      exact congrArg (fun z => some (HO.tup z)) (cut_from us sp)
    refine ⟨t2, t3, _, _, rfl, rfl, s7 _ _ m6, m7, fun z => ne1 (List.append_eq_nil_iff.mp z).1, by rw [List.length_append, List.length_take, List.length_drop]; omega, fun t4 H8 s8 m8 => ?_⟩
    have s48 := s46.trans (s7.trans s8)
    intro y dy hy hdy ne
    have s9 := same_up (C := C) hy hdy
    have im : insM rs rs2 i j = rs.take sp ++ rs2.map (up (((r1.1 : Nat) : Int) + 1)) ++ rs.drop sp := by
      unfold insM
      rw [spe, dep1]
    rw [im] at few fin
    have ra : RowsAt H8 (us.take sp ++ ws4 ++ us.drop sp) (rs.take sp ++ rs2.map (up (((r1.1 : Nat) : Int) + 1)) ++ rs.drop sp) :=
      paired_append (paired_append (RowsAt.same (s4.trans s48) (paired_take h3 sp)) (RowsAt.same s48 ra4)) (RowsAt.same (s4.trans s48) (paired_drop h3 sp))
    exact ⟨y, dy, t4, _, _, rfl, upd_same, .inl (s9 _ _ m8), ra.same s9, few, fun HA oA dA => ⟨rfl, fin y _ (s14.trans (s48.trans (same_make hy hdy oA))) dA⟩⟩
end
end K03

namespace K03
open PySem L2 DR DM TL
/-! ### trees changed at a place -/
theorem ofL_toL : ∀ ts : Trs, ofL ts.toL = ts
  | .nil => rfl
  | .cons t ts => by rw [Trs.toL, ofL, ofL_toL ts]
theorem toL_ofL : ∀ l : List Tr, (ofL l).toL = l
  | [] => rfl
  | t :: l => by rw [ofL, Trs.toL, toL_ofL l]
/-- the rows of a row of trees -/
noncomputable def flat (l : List Tr) (d : Nat) : List Row := (ofL l).rows srt d
theorem flat_nil (d : Nat) : flat [] d = [] := by
  unfold flat
  rw [ofL, Trs.rows]
theorem flat_cons (t : Tr) (l : List Tr) (d : Nat) : flat (t :: l) d = t.rows srt d ++ flat l d := by
  unfold flat
  rw [ofL, Trs.rows]
theorem flat_app : ∀ (a b : List Tr) (d : Nat), flat (a ++ b) d = flat a d ++ flat b d
  | [], b, d => by rw [flat_nil]; rfl
  | t :: a, b, d => by rw [List.cons_append, flat_cons, flat_cons, flat_app a b d, List.append_assoc]
theorem rows_nd (k : W) (ms : List W) (ks : Trs) (d : Nat) : (Tr.nd k ms ks).rows srt d = (d, k, srt ms) :: flat ks.toL (d + 1) := by
  rw [Tr.rows]
  unfold flat
  rw [ofL_toL]
theorem nodes_app : ∀ (a b : List Tr) (p : Pth) (j : Nat), (ofL (a ++ b)).nodes p j = (ofL a).nodes p j ++ (ofL b).nodes p (j + a.length)
  | [], b, p, j => by
    rw [show ofL [] = Trs.nil from rfl, Trs.nodes]
    rfl
  | t :: a, b, p, j => by
    rw [List.cons_append, show ofL (t :: (a ++ b)) = Trs.cons t (ofL (a ++ b)) from rfl, show ofL (t :: a) = Trs.cons t (ofL a) from rfl, Trs.nodes, Trs.nodes, nodes_app a b p (j + 1), List.append_assoc, List.length_cons, show j + (a.length + 1) = j + 1 + a.length by omega]
/-- the tree with another one below a path -/
def put : Tr → Pth → Tr → Tr
  | _, [], x => x
  | .nd k ms ks, i :: q, x => .nd k ms (ofL (ks.toL.set i (match ks.toL[i]? with | some u => put u q x | none => x)))
theorem split_at {l : List Tr} {i : Nat} {u : Tr} (h : l[i]? = some u) : ∃ a b, l = a ++ u :: b ∧ a.length = i := by
  obtain ⟨hi, rfl⟩ := List.getElem?_eq_some_iff.mp h
  refine ⟨l.take i, l.drop (i + 1), ?_, List.length_take_of_le (Nat.le_of_lt hi)⟩
  rw [List.getElem_cons_drop, List.take_append_drop]
theorem put_rows : ∀ (q : Pth) (t u : Tr) (d : Nat), t.at_ q = some u → ∃ pre post, t.rows srt d = pre ++ u.rows srt (d + q.length) ++ post ∧ (∀ x, (put t q x).rows srt d = pre ++ x.rows srt (d + q.length) ++ post) ∧ ∀ p m y, (u.nodes (p ++ q))[m]? = some y → (t.nodes p)[pre.length + m]? = some y
  | [], t, u, d, h => by
    rw [at_nil] at h
    obtain rfl := Option.some.inj h
    refine ⟨[], [], by simp, fun x => by simp [put], fun p m y hy => ?_⟩
    rw [List.append_nil] at hy
    rw [List.length_nil, Nat.zero_add]
    exact hy
  | i :: q, .nd k ms ks, u, d, h => by
    rw [Tr.at_] at h
    cases e : ks.toL[i]? with
    | none =>
      rw [e] at h
      cases h
    | some s =>
      rw [e] at h
      obtain ⟨a, b, hl, ha⟩ := split_at e
      obtain ⟨pre, post, h1, h2, h3⟩ := put_rows q s u (d + 1) h
      have ed : d + 1 + q.length = d + (i :: q).length := by rw [List.length_cons]; omega
      rw [ed] at h1 h2
      refine ⟨(d, k, srt ms) :: flat a (d + 1) ++ pre, post ++ flat b (d + 1), ?_, fun x => ?_, fun p m y hy => ?_⟩
      · rw [rows_nd, hl, flat_app, flat_cons, h1]
        simp
      · have es : put (.nd k ms ks) (i :: q) x = .nd k ms (ofL (ks.toL.set i (put s q x))) := by
          rw [put, e]
        rw [es, rows_nd, toL_ofL, hl, ← ha, List.set_append_right _ _ (Nat.le_refl _), Nat.sub_self, List.set_cons_zero, flat_app, flat_cons, h2 x]
        simp
      · have la : ((ofL a).nodes p 0).length = (flat a (d + 1)).length := nodess_len (ofL a) p 0 (d + 1)
        have ls : (s.nodes (p ++ [i])).length = (s.rows srt (d + 1)).length := nodes_len s (p ++ [i]) (d + 1)
        have h3' := h3 (p ++ [i]) m y (by rw [List.append_assoc, List.singleton_append]; exact hy)
        have lt : pre.length + m < (s.nodes (p ++ [i])).length := (List.getElem?_eq_some_iff.mp h3').1
        have ek : ks.nodes p 0 = (ofL a).nodes p 0 ++ (s.nodes (p ++ [i]) ++ (ofL b).nodes p (i + 1)) := by
          rw [← ofL_toL ks, hl, nodes_app, ha, Nat.zero_add, show ofL (s :: b) = Trs.cons s (ofL b) from rfl, Trs.nodes]
        rw [Tr.nodes, ek, List.cons_append, List.length_cons, List.length_append, show (flat a (d + 1)).length + pre.length + 1 + m = (flat a (d + 1)).length + (pre.length + m) + 1 by omega, List.getElem?_cons_succ, ← la, List.getElem?_append_right (Nat.le_add_right _ _), Nat.add_sub_cancel_left, List.getElem?_append_left lt]
        exact h3'
/-- where the children of a row of trees begin -/
noncomputable def starts : List Tr → Nat → List Nat
  | [], _ => []
  | t :: l, i => i :: starts l (i + (t.rows srt 0).length)
theorem rows_length (t : Tr) (d : Nat) : (t.rows srt d).length = (t.rows srt 0).length := by rw [← nodes_len t [] d, nodes_len t [] 0]
theorem starts_filt : ∀ (l : List Tr) (d i : Nat) (rs : List Row) (post : List Row), rs.drop i = flat l (d + 1) ++ post → ((List.range (flat l (d + 1)).length).map (i + ·)).filter (fun j => decide (depM rs j = d + 1)) = starts l i
  | [], d, i, rs, post, h => by
    rw [flat_nil]
    rfl
  | t :: l, d, i, rs, post, h => by
    have dep : ∀ m, m < (flat (t :: l) (d + 1)).length → depM rs (i + m) = ((flat (t :: l) (d + 1)).getD m (0, [], [])).1 := fun m hm => by
      unfold depM
      rw [List.getD_eq_getElem?_getD, ← List.getElem?_drop, h, List.getElem?_append_left hm, List.getD_eq_getElem?_getD]
    have hd : rs.drop (i + (t.rows srt (d + 1)).length) = flat l (d + 1) ++ post := by
      rw [← List.drop_drop, h, flat_cons, List.append_assoc, List.drop_left]
    have ih := starts_filt l d (i + (t.rows srt (d + 1)).length) rs post hd
    rw [flat_cons] at dep ⊢
    rw [List.length_append, List.range_add, List.map_append, List.filter_append, List.map_map]
    have e2 : ((i + ·) ∘ ((t.rows srt (d + 1)).length + ·)) = ((i + (t.rows srt (d + 1)).length) + ·) := by
      funext m
      show i + (_ + m) = i + _ + m
      omega
    rw [e2, ih]
    have e1 : (List.map (i + ·) (List.range (t.rows srt (d + 1)).length)).filter (fun j => decide (depM rs j = d + 1)) = [i] := by
      rw [rows_head] at dep ⊢
      rw [List.length_cons, List.range_succ_eq_map, List.map_cons, Nat.add_zero, List.filter_cons]
      have d0 := dep 0 (by simp)
      rw [if_pos (decide_eq_true (by rw [d0]; rfl))]
      congr 1
      rw [List.filter_eq_nil_iff]
      intro j hj
      obtain ⟨j', hj', rfl⟩ := List.mem_map.mp hj
      obtain ⟨m, hm, rfl⟩ := List.mem_map.mp hj'
      have lm := List.mem_range.mp hm
      have dm := dep (m + 1) (by simp; omega)
      show ¬ decide (depM rs (i + (m + 1)) = d + 1) = true
      rw [dm, List.cons_append, List.getD_cons_succ, List.getD_eq_getElem?_getD, List.getElem?_append_left lm, List.getElem?_eq_getElem lm]
      have := rowss_deep t.kids (d + 1 + 1) _ (List.getElem_mem lm)
      simp
      omega
    rw [e1, starts, rows_length t (d + 1)]
    rfl
theorem starts_get : ∀ (l : List Tr) (i j e : Nat), j ≤ l.length → e = i + (flat l 0).length → (starts l i ++ [e]).getD j 0 = i + (flat (l.take j) 0).length
  | [], i, j, e, h, he => by
    have : j = 0 := by simpa using h
    subst this
    rw [he, flat_nil]
    simp [starts, flat_nil]
  | t :: l, i, 0, e, h, he => by
    simp [starts, flat_nil]
  | t :: l, i, j + 1, e, h, he => by
    rw [flat_cons, List.length_append] at he
    have ih := starts_get l (i + (t.rows srt 0).length) j e (by simpa using h) (by omega)
    rw [starts, List.cons_append, List.getD_cons_succ, ih, List.take_succ_cons, flat_cons, List.length_append]
    omega
theorem flat_length (l : List Tr) (d : Nat) : (flat l d).length = (flat l 0).length := by
  unfold flat
  rw [← nodess_len (ofL l) [] 0 d, nodess_len (ofL l) [] 0 0]
/-! ### the edits of a row of nodes -/
theorem end_of {t s : Tr} {i : Nat} {q : Pth} (h : (t.nodes [])[i]? = some (q, s)) : endM (t.rows srt 0) i = i + (s.rows srt 0).length := by
  have no := node_of t i q s h
  obtain ⟨el, eu⟩ := end_le _ i no.lt
  have := congrArg List.length no.part
  unfold partM at this
  rw [List.length_map, List.length_take, List.length_drop] at this
  omega
theorem kids_of {t s : Tr} {i : Nat} {q : Pth} (h : (t.nodes [])[i]? = some (q, s)) : kidsM (t.rows srt 0) i = starts s.kids.toL (i + 1) := by
  have no := node_of t i q s h
  obtain ⟨_, post, hd, _⟩ := seg_tree t [] i q s h
  have hd : (t.rows srt 0).drop i = s.rows srt q.length ++ post := hd
  have dep : depM (t.rows srt 0) i = q.length := congrArg Prod.fst no.row
  have sr : s.rows srt q.length = (q.length, s.kind, srt s.marks) :: flat s.kids.toL (q.length + 1) := by
    rw [rows_head]
    unfold flat
    rw [ofL_toL]
  have d1 : (t.rows srt 0).drop (i + 1) = flat s.kids.toL (q.length + 1) ++ post := by
    rw [← List.drop_drop, hd, sr]
    rfl
  have sl : (s.rows srt 0).length = (flat s.kids.toL (q.length + 1)).length + 1 := by
    rw [← rows_length s q.length, sr, List.length_cons]
  unfold kidsM
  rw [end_of h, dep, show i + (s.rows srt 0).length - (i + 1) = (flat s.kids.toL (q.length + 1)).length by omega]
  exact starts_filt _ _ _ _ _ d1
/-- a node below a path, and where it stands -/
theorem place_of {t u : Tr} {q : Pth} (h : t.at_ q = some u) : ∃ pre post : List Row, t.rows srt 0 = pre ++ u.rows srt q.length ++ post ∧ (∀ x, (put t q x).rows srt 0 = pre ++ x.rows srt q.length ++ post) ∧
    (t.nodes [])[pre.length]? = some (q, u) ∧ ∀ m y, (u.nodes q)[m]? = some y → (t.nodes [])[pre.length + m]? = some y := by
  obtain ⟨pre, post, h1, h2, h3⟩ := put_rows q t u 0 h
  rw [Nat.zero_add] at h1 h2
  refine ⟨pre, post, h1, h2, ?_, fun m y hy => h3 [] m y hy⟩
  have := h3 [] 0 (q, u) (by cases u; rw [Tr.nodes, List.nil_append]; rfl)
  exact this
theorem head_rows {t : Tr} {q : Pth} {k : W} {ms : List W} {ks : Trs} (h : t.at_ q = some (.nd k ms ks)) : ∃ i, (t.nodes [])[i]? = some (q, .nd k ms ks) ∧
    ∀ k' ms', (put t q (.nd k' ms' ks)).rows srt 0 = (t.rows srt 0).take i ++ (q.length, k', srt ms') :: (t.rows srt 0).drop (i + 1) := by
  obtain ⟨pre, post, h1, h2, h3, _⟩ := place_of h
  refine ⟨pre.length, h3, fun k' ms' => ?_⟩
  rw [h2, h1, rows_nd, rows_nd, List.append_assoc, List.append_assoc, List.take_left, ← List.drop_drop, List.drop_left]
  rfl
theorem removed_rows {t u : Tr} {q : Pth} {k : W} {ms : List W} {ks : Trs} {a b : List Tr} (h : t.at_ q = some (.nd k ms ks)) (hl : ks.toL = a ++ u :: b) : ∃ i, (t.nodes [])[i]? = some (q ++ [a.length], u) ∧ i ≠ 0 ∧
    (put t q (.nd k ms (ofL (a ++ b)))).rows srt 0 = (t.rows srt 0).take i ++ (t.rows srt 0).drop (endM (t.rows srt 0) i) := by
  obtain ⟨pre, post, h1, h2, _, h4⟩ := place_of h
  have la : ((ofL a).nodes q 0).length = (flat a (q.length + 1)).length := nodess_len (ofL a) q 0 (q.length + 1)
  have nu : ((Tr.nd k ms ks).nodes q)[1 + (flat a (q.length + 1)).length]? = some (q ++ [a.length], u) := by
    rw [Tr.nodes, ← ofL_toL ks, hl, nodes_app, Nat.zero_add, show ofL (u :: b) = Trs.cons u (ofL b) from rfl, Trs.nodes, Nat.add_comm 1, List.getElem?_cons_succ, ← la, List.getElem?_append_right (Nat.le_refl _), Nat.sub_self]
    cases u
    rw [Tr.nodes]
    rfl
  have ni := h4 _ _ nu
  refine ⟨_, ni, by omega, ?_⟩
  rw [end_of ni, h2, h1, rows_nd, rows_nd, toL_ofL, hl, flat_app, flat_app, flat_cons, ← rows_length u (q.length + 1)]
  have e : ∀ (X Y Z : List Row) (c : Row), pre ++ c :: (X ++ (Y ++ Z)) ++ post = (pre ++ c :: X) ++ (Y ++ (Z ++ post)) := fun X Y Z c => by simp
  have l : ∀ (X : List Row) (c : Row), (pre ++ c :: X).length = pre.length + (1 + X.length) := fun X c => by simp; omega
  rw [e, ← l (flat a (q.length + 1)) (q.length, k, srt ms), List.take_left, ← List.drop_drop, List.drop_left, List.drop_left]
  simp
theorem inserted_rows {t x : Tr} {q : Pth} {k : W} {ms : List W} {ks : Trs} {a b : List Tr} (h : t.at_ q = some (.nd k ms ks)) (hl : ks.toL = a ++ b) : ∃ i, (t.nodes [])[i]? = some (q, .nd k ms ks) ∧ a.length ≤ (kidsM (t.rows srt 0) i).length ∧
    (put t q (.nd k ms (ofL (a ++ x :: b)))).rows srt 0 = insM (t.rows srt 0) (x.rows srt 0) i a.length := by
  obtain ⟨pre, post, h1, h2, h3, _⟩ := place_of h
  have no := node_of _ _ _ _ h3
  have kl : (kidsM (t.rows srt 0) pre.length).length = ks.len := no.kids
  have dep : depM (t.rows srt 0) pre.length = q.length := congrArg Prod.fst no.row
  have al : a.length ≤ ks.toL.length := by rw [hl, List.length_append]; omega
  refine ⟨pre.length, h3, by rw [kl, ← toL_len]; exact al, ?_⟩
  have sp : spotM (t.rows srt 0) pre.length a.length = pre.length + (1 + (flat a (q.length + 1)).length) := by
    unfold spotM
    rw [kids_of h3, end_of h3]
    have e : pre.length + ((Tr.nd k ms ks).rows srt 0).length = pre.length + 1 + (flat ks.toL 0).length := by
      rw [rows_nd, List.length_cons, flat_length _ (0 + 1)]
      omega
    rw [e, show (Tr.nd k ms ks).kids = ks from rfl, starts_get _ _ _ _ al rfl, hl, List.take_left, flat_length a (q.length + 1)]
    omega
  unfold insM
  have mv := move_tree x 0 (q.length + 1)
  rw [Nat.zero_add] at mv
  have mp : (x.rows srt 0).map (up ((depM (t.rows srt 0) pre.length : Int) + 1)) = x.rows srt (q.length + 1) := by
    rw [mv, dep]
    refine List.map_congr_left fun r _ => ?_
    show ((((r.1 : Nat) : Int) + ((q.length : Int) + 1)).toNat, r.2) = (r.1 + (q.length + 1), r.2)
    rw [show (((r.1 : Nat) : Int) + ((q.length : Int) + 1)).toNat = r.1 + (q.length + 1) by omega]
  rw [sp, mp, h2, h1, rows_nd, rows_nd, toL_ofL, hl, flat_app, flat_app, flat_cons]
  have e : ∀ (X Y : List Row) (c : Row), pre ++ c :: (X ++ Y) ++ post = (pre ++ c :: X) ++ (Y ++ post) := fun X Y c => by simp
  have l : ∀ (X : List Row) (c : Row), (pre ++ c :: X).length = pre.length + (1 + X.length) := fun X c => by simp; omega
  rw [e, e, ← l (flat a (q.length + 1)) (q.length, k, srt ms), List.take_left, List.drop_left]
  simp
end K03

namespace K03
open PySem L2 DR DM TL
/-! ### the law's own tree, which is written into: its lists stand at the addresses of A, in this order -/
mutual
def TreeAt (H : Hp) : List Addr → V → Tr → Prop
  | A, v, .nd k ms ks => ∃ a m b vs B, v = .ref a ∧ A = a :: m :: b :: B ∧ H a = some (.lst [sv k, .ref m, .ref b]) ∧ H m = some (.lst (ms.map sv)) ∧ H b = some (.lst vs) ∧ TreesAt H B vs ks
def TreesAt (H : Hp) : List Addr → List V → Trs → Prop
  | B, vs, .nil => B = [] ∧ vs = []
  | B, vs, .cons t ts => ∃ v r A1 A2, vs = v :: r ∧ B = A1 ++ A2 ∧ TreeAt H A1 v t ∧ TreesAt H A2 r ts
end
mutual
theorem TreeAt.move {H H' : Hp} : ∀ (t : Tr) (A : List Addr) (v : V), TreeAt H A v t → (∀ c ∈ A, ∀ u, H c = some u → H' c = some u) → TreeAt H' A v t
  | .nd k ms ks, A, v, h, o => by
    rw [TreeAt] at h ⊢
    obtain ⟨a, m, b, vs, B, e, eA, h1, h2, h3, h4⟩ := h
    subst eA
    exact ⟨a, m, b, vs, B, e, rfl, o a (by simp) _ h1, o m (by simp) _ h2, o b (by simp) _ h3, TreesAt.move ks B vs h4 fun c hc => o c (by simp [hc])⟩
theorem TreesAt.move {H H' : Hp} : ∀ (ts : Trs) (B : List Addr) (vs : List V), TreesAt H B vs ts → (∀ c ∈ B, ∀ u, H c = some u → H' c = some u) → TreesAt H' B vs ts
  | .nil, B, vs, h, _ => by
    rw [TreesAt] at h ⊢
    exact h
  | .cons t ts, B, vs, h, o => by
    rw [TreesAt] at h ⊢
    obtain ⟨v, r, A1, A2, e, eB, h1, h2⟩ := h
    subst eB
    exact ⟨v, r, A1, A2, e, rfl, TreeAt.move t A1 v h1 fun c hc => o c (List.mem_append_left _ hc), TreesAt.move ts A2 r h2 fun c hc => o c (List.mem_append_right _ hc)⟩
end
mutual
theorem TreeAt.node {H : Hp} {N : Addr → Prop} : ∀ (t : Tr) (A : List Addr) (v : V), TreeAt H A v t → (∀ c ∈ A, N c) → NodeAt N H v t
  | .nd k ms ks, A, v, h, n => by
    rw [TreeAt] at h
    rw [NodeAt]
    obtain ⟨a, m, b, vs, B, e, eA, h1, h2, h3, h4⟩ := h
    subst eA
    exact ⟨a, m, b, vs, e, n a (by simp), n m (by simp), n b (by simp), h1, h2, h3, TreesAt.node ks B vs h4 fun c hc => n c (by simp [hc])⟩
theorem TreesAt.node {H : Hp} {N : Addr → Prop} : ∀ (ts : Trs) (B : List Addr) (vs : List V), TreesAt H B vs ts → (∀ c ∈ B, N c) → NodesAt N H vs ts
  | .nil, B, vs, h, _ => by
    rw [TreesAt] at h
    rw [NodesAt]
    exact h.2
  | .cons t ts, B, vs, h, n => by
    rw [TreesAt] at h
    rw [NodesAt]
    obtain ⟨v, r, A1, A2, e, eB, h1, h2⟩ := h
    subst eB
    exact ⟨v, r, e, TreeAt.node t A1 v h1 fun c hc => n c (List.mem_append_left _ hc), TreesAt.node ts A2 r h2 fun c hc => n c (List.mem_append_right _ hc)⟩
end
mutual
/-- all its addresses hold lists -/
theorem TreeAt.lists {H : Hp} : ∀ (t : Tr) (A : List Addr) (v : V), TreeAt H A v t → ∀ c ∈ A, ∃ xs, H c = some (.lst xs)
  | .nd k ms ks, A, v, h, c, hc => by
    rw [TreeAt] at h
    obtain ⟨a, m, b, vs, B, e, eA, h1, h2, h3, h4⟩ := h
    subst eA
    simp only [List.mem_cons] at hc
    rcases hc with rfl | rfl | rfl | hc
    · exact ⟨_, h1⟩
    · exact ⟨_, h2⟩
    · exact ⟨_, h3⟩
    · exact TreesAt.lists ks B vs h4 c hc
theorem TreesAt.lists {H : Hp} : ∀ (ts : Trs) (B : List Addr) (vs : List V), TreesAt H B vs ts → ∀ c ∈ B, ∃ xs, H c = some (.lst xs)
  | .nil, B, vs, h, c, hc => by
    rw [TreesAt] at h
    rw [h.1] at hc
    cases hc
  | .cons t ts, B, vs, h, c, hc => by
    rw [TreesAt] at h
    obtain ⟨v, r, A1, A2, e, eB, h1, h2⟩ := h
    subst eB
    rcases List.mem_append.mp hc with hc | hc
    · exact TreeAt.lists t A1 v h1 c hc
    · exact TreesAt.lists ts A2 r h2 c hc
end
theorem trees_app {H : Hp} : ∀ (l1 l2 : List Tr) (B : List Addr) (vs : List V), TreesAt H B vs (ofL (l1 ++ l2)) ↔ ∃ B1 B2 v1 v2, B = B1 ++ B2 ∧ vs = v1 ++ v2 ∧ v1.length = l1.length ∧ TreesAt H B1 v1 (ofL l1) ∧ TreesAt H B2 v2 (ofL l2)
  | [], l2, B, vs => by
    constructor
    · exact fun h => ⟨[], B, [], vs, rfl, rfl, rfl, by rw [ofL, TreesAt]; exact ⟨rfl, rfl⟩, h⟩
    · rintro ⟨B1, B2, v1, v2, rfl, rfl, e, h1, h2⟩
      rw [ofL, TreesAt] at h1
      obtain ⟨rfl, rfl⟩ := h1
      exact h2
  | t :: l1, l2, B, vs => by
    rw [List.cons_append, ofL, TreesAt]
    constructor
    · rintro ⟨v, r, A1, A2, rfl, rfl, h1, h2⟩
      obtain ⟨B1, B2, v1, v2, rfl, rfl, e, g1, g2⟩ := (trees_app l1 l2 A2 r).mp h2
      refine ⟨A1 ++ B1, B2, v :: v1, v2, by rw [List.append_assoc], rfl, by rw [List.length_cons, List.length_cons, e], ?_, g2⟩
      rw [ofL, TreesAt]
      exact ⟨v, v1, A1, B1, rfl, rfl, h1, g1⟩
    · rintro ⟨B1, B2, v1, v2, rfl, rfl, e, g1, g2⟩
      rw [ofL, TreesAt] at g1
      obtain ⟨v, r, A1, A2, rfl, rfl, h1, h2⟩ := g1
      refine ⟨v, r ++ v2, A1, A2 ++ B2, rfl, by rw [List.append_assoc], h1, (trees_app l1 l2 _ _).mpr ⟨A2, B2, r, v2, rfl, rfl, by simpa using e, h2, g2⟩⟩
theorem trees_one {H : Hp} {t : Tr} {l : List Tr} {B : List Addr} {vs : List V} : TreesAt H B vs (ofL (t :: l)) ↔ ∃ v r A1 A2, vs = v :: r ∧ B = A1 ++ A2 ∧ TreeAt H A1 v t ∧ TreesAt H A2 r (ofL l) := by
  rw [ofL, TreesAt]
/-- where the law's own lists lead along a path -/
def Loc (H : Hp) : V → Pth → V → Prop
  | v, [], y => y = v
  | v, i :: q, y => ∃ a k m b vs v', v = .ref a ∧ H a = some (.lst [k, m, .ref b]) ∧ H b = some (.lst vs) ∧ vs[i]? = some v' ∧ Loc H v' q y
theorem Loc.same {H H' : Hp} (s : Same H H') : ∀ (q : Pth) (v y : V), Loc H v q y → Loc H' v q y
  | [], v, y, h => h
  | i :: q, v, y, ⟨a, k, m, b, vs, v', e, h1, h2, h3, h4⟩ => ⟨a, k, m, b, vs, v', e, s _ _ h1, s _ _ h2, h3, Loc.same s q v' y h4⟩
/-- a node below a path, and the tree with another one there -/
theorem zip_at {H : Hp} : ∀ (q : Pth) (t u : Tr) (A : List Addr) (v : V), TreeAt H A v t → t.at_ q = some u → ∃ y L Au R, A = L ++ Au ++ R ∧ Loc H v q y ∧ TreeAt H Au y u ∧
    ∀ (H' : Hp) (Au' : List Addr) (u' : Tr), (∀ c, c ∈ L ∨ c ∈ R → ∀ w, H c = some w → H' c = some w) → TreeAt H' Au' y u' → TreeAt H' (L ++ Au' ++ R) v (put t q u')
  | [], t, u, A, v, h, e => by
    rw [at_nil] at e
    obtain rfl := Option.some.inj e
    refine ⟨v, [], A, [], by simp, rfl, h, fun H' Au' u' _ h' => ?_⟩
    rw [List.append_nil, List.nil_append, put]
    exact h'
  | i :: q, .nd k ms ks, u, A, v, h, e => by
    rw [Tr.at_] at e
    cases es : ks.toL[i]? with
    | none =>
      rw [es] at e
      cases e
    | some s =>
      rw [es] at e
      obtain ⟨l1, l2, hl, ha⟩ := split_at es
      rw [TreeAt] at h
      obtain ⟨a, m, b, vs, B, rfl, rfl, h1, h2, h3, h4⟩ := h
      rw [← ofL_toL ks, hl] at h4
      obtain ⟨B1, B2, v1, v2, rfl, rfl, e1, g1, g2⟩ := (trees_app l1 (s :: l2) B vs).mp h4
      obtain ⟨w, r, A1, A2, rfl, rfl, g3, g4⟩ := trees_one.mp g2
      obtain ⟨y, L, Au, R, rfl, loc, hu, back⟩ := zip_at q s u A1 w g3 e
      refine ⟨y, a :: m :: b :: (B1 ++ L), Au, R ++ A2, by simp, ⟨a, _, _, b, _, w, rfl, h1, h3, ?_, loc⟩, hu, fun H' Au' u' keep h' => ?_⟩
      · rw [List.getElem?_append_right (by omega), e1, ha, Nat.sub_self]
        rfl
      · have k1 : ∀ c, c ∈ a :: m :: b :: (B1 ++ L) → ∀ w, H c = some w → H' c = some w := fun c hc => keep c (.inl hc)
        have k2 : ∀ c, c ∈ R ++ A2 → ∀ w, H c = some w → H' c = some w := fun c hc => keep c (.inr hc)
        have g5 := back H' Au' u' (fun c hc => hc.elim (fun hc => k1 c (by simp [hc])) fun hc => k2 c (by simp [hc])) h'
        have es' : put (.nd k ms ks) (i :: q) u' = .nd k ms (ofL (l1 ++ put s q u' :: l2)) := by
          rw [put, es, hl, ← ha, List.set_append_right _ _ (Nat.le_refl _), Nat.sub_self, List.set_cons_zero]
        rw [es', TreeAt]
        refine ⟨a, m, b, v1 ++ w :: r, B1 ++ (L ++ Au' ++ R ++ A2), rfl, by simp, k1 a (by simp) _ h1, k1 m (by simp) _ h2, k1 b (by simp) _ h3, ?_⟩
        exact (trees_app l1 _ _ _).mpr ⟨B1, _, v1, _, rfl, rfl, e1, TreesAt.move _ B1 v1 g1 (fun c hc => k1 c (by simp [hc])), trees_one.mpr ⟨w, r, _, A2, rfl, by simp, g5, TreesAt.move _ A2 r g4 fun c hc => k2 c (by simp [hc])⟩⟩
/-- the read of a node's place is one -/
theorem loc_fun {H : Hp} : ∀ (q : Pth) (v y z : V), Loc H v q y → Loc H v q z → y = z
  | [], v, y, z, h1, h2 => h1.trans h2.symm
  | i :: q, v, y, z, ⟨a, k, m, b, vs, v', e, h1, h2, h3, h4⟩, ⟨a2, k2, m2, b2, vs2, v2, e2, g1, g2, g3, g4⟩ => by
    rw [e] at e2
    injection e2 with e2
    subst e2
    rw [h1] at g1
    injection g1 with g1
    injection g1 with g1
    injection g1 with _ g1
    injection g1 with _ g1
    injection g1 with g1 _
    injection g1 with g1
    subst g1
    rw [h2] at g2
    injection g2 with g2
    injection g2 with g2
    subst g2
    rw [h3] at g3
    injection g3 with g3
    subst g3
    exact loc_fun q v' y z h4 g4
end K03

namespace K03
open PySem L2 DR DM TL
/-! ### trees of any form, of few nodes -/
mutual
def _root_.DM.Tr.wild : Tr → Prop
  | .nd k ms ks => isName k = true ∧ areNames ms = true ∧ ms.length ≤ 3 ∧ ks.wild
def _root_.DM.Trs.wild : Trs → Prop
  | .nil => True
  | .cons t ts => t.wild ∧ ts.wild
end
noncomputable def sz (t : Tr) : Nat := (t.rows srt 0).length
theorem wild_toL : ∀ {ts : Trs}, ts.wild ↔ ∀ t ∈ ts.toL, t.wild
  | .nil => by
    rw [Trs.wild, Trs.toL]
    simp
  | .cons t ts => by
    rw [Trs.wild, Trs.toL, wild_toL (ts := ts)]
    simp
theorem sz_nd (k : W) (ms : List W) (ks : Trs) : sz (.nd k ms ks) = 1 + (flat ks.toL 0).length := by
  unfold sz
  rw [rows_nd, List.length_cons, flat_length _ (0 + 1)]
  omega
theorem flat_mem : ∀ {l : List Tr} {t : Tr}, t ∈ l → sz t ≤ (flat l 0).length
  | u :: l, t, h => by
    rw [flat_cons, List.length_append]
    rcases List.mem_cons.mp h with rfl | h
    · exact Nat.le_add_right _ _
    · exact Nat.le_trans (flat_mem h) (Nat.le_add_left _ _)
theorem sz_pos (t : Tr) : 1 ≤ sz t := by
  cases t with
  | nd k ms ks =>
    rw [sz_nd]
    omega
theorem sz_kid {k : W} {ms : List W} {ks : Trs} {t : Tr} (h : t ∈ ks.toL) : sz t + 1 ≤ sz (.nd k ms ks) := by
  have := flat_mem h
  rw [sz_nd]
  omega
theorem flat_len : ∀ l : List Tr, l.length ≤ (flat l 0).length
  | [] => Nat.zero_le _
  | t :: l => by
    have := flat_len l
    have := sz_pos t
    unfold sz at this
    rw [flat_cons, List.length_append, List.length_cons]
    omega
theorem head_wild {k : W} {ms : List W} (hk : isName k = true) (hm : areNames ms = true) (h3 : ms.length ≤ 3) : 1 ≤ (headL k (srt ms)).length ∧ (headL k (srt ms)).length ≤ 35 ∧ (srt ms).length ≤ 3 ∧ ((srt ms).map fun m => 46 :: m).flatten.length ≤ 27 := by
  have p := srt_perm ms
  have l1 : (srt ms).length ≤ 3 := by
    rw [p.length_eq]
    exact h3
  have l2 := flat_le (srt ms) fun w hw => (isName_mem ((areNames_mem hm).1 w (p.subset hw))).2.1
  have l3 := head_len k (srt ms)
  obtain ⟨k1, k2, _⟩ := isName_mem hk
  have k1 : 1 ≤ k.length := by
    cases k with
    | nil => exact absurd rfl k1
    | cons _ _ => simp
  have l4 : (headL k (srt ms)).length = k.length + ((srt ms).map fun m => 46 :: m).flatten.length := by
    unfold headL
    rw [List.length_append]
  rw [List.flatten_cons, List.length_append] at l3
  omega
theorem join_sum : ∀ l : List W, (joinL [44] l).length ≤ (l.map fun w => w.length + 1).sum
  | [] => Nat.zero_le _
  | [w] => by
    show w.length ≤ _
    simp
  | w :: v :: l => by
    have h := join_sum (v :: l)
    show (w ++ ([44] ++ joinL [44] (v :: l))).length ≤ _
    rw [List.length_append, List.length_append, List.map_cons, List.sum_cons]
    show _ + (1 + _) ≤ _
    omega
theorem flat_sum : ∀ l : List W, l.flatten.length + l.length = (l.map fun w => w.length + 1).sum
  | [] => rfl
  | w :: l => by
    have h := flat_sum l
    rw [List.flatten_cons, List.length_append, List.length_cons, List.map_cons, List.sum_cons]
    omega
theorem kids_sum : ∀ l : List Tr, (∀ t ∈ l, (txt t).length + 1 ≤ 38 * sz t) → ((l.map txt).map fun w => w.length + 1).sum ≤ 38 * (flat l 0).length
  | [], _ => Nat.zero_le _
  | t :: l, h => by
    have h1 := h t (List.mem_cons_self ..)
    have h2 := kids_sum l fun x hx => h x (List.mem_cons_of_mem _ hx)
    have h3 := sz_pos t
    rw [flat_cons, List.length_append, List.map_cons, List.map_cons, List.sum_cons]
    show (txt t).length + 1 + _ ≤ 38 * (sz t + _)
    omega
theorem txt_size : ∀ (n : Nat) (t : Tr), sz t ≤ n → t.wild → (txt t).length + 1 ≤ 38 * sz t ∧ 1 ≤ (txt t).length
  | 0, t, h, _ => absurd (sz_pos t) (by omega)
  | n + 1, .nd k ms ks, h, g => by
    rw [Tr.wild] at g
    obtain ⟨hk, hm, h3, hf⟩ := g
    obtain ⟨l0, l1, l2, _⟩ := head_wild hk hm h3
    have ih : ∀ t ∈ ks.toL, (txt t).length + 1 ≤ 38 * sz t := fun t ht => (txt_size n t (by have := sz_kid (k := k) (ms := ms) ht; omega) (wild_toL.mp hf t ht)).1
    have q := kids_sum ks.toL ih
    have j := join_sum (ks.toL.map txt)
    rw [txt_nd, List.length_append, sz_nd]
    by_cases c : ks.toL = []
    · rw [if_pos c]
      refine ⟨?_, by omega⟩
      show _ + 0 + 1 ≤ _
      omega
    · rw [if_neg c, List.length_cons, List.length_append]
      refine ⟨?_, by omega⟩
      show _ + (_ + 1 + 1) + 1 ≤ _
      omega
def spTextW (d : Nat) : Sp := fun vs H Q _ => ∃ (v : V) (t : Tr) (N : Addr → Prop), vs = [v] ∧ NodeAt N H v t ∧ t.wild ∧ sz t ≤ d ∧ ∀ H', Same H H' → Q (sv (txt t)) H'
section
variable {P : Program} {w : World} {K : PySem.W.Frag} {mg : Str → Option Value} {base : Heap}
theorem wtext_step {f : Addr} {fd : FuncData} {d : Nat} {spR : Sp} (F : Fun K "_law_text" "_law_text" sLText f fd) (T : Txt mg) (hd4 : d ≤ 100)
    (mN : mg "_law_text" = some (.ref f)) (kN : PySem.W.keepIn K (.ref f) = true) (bN : Binds K fd ["_law_node_here"] [])
    (G : FnOk P w K mg base CX0 (d + 1) f fd ["_law_node_here"] spR) (hR : d ≠ 0 → spR = spTextW (d - 1)) : FnOk P w K mg base CX0 (d + 2) f fd ["_law_node_here"] (spTextW d) := by
  refine F.ok scLText (fun vs H Q E h => ?_) (fun cdv A outer s H vs Q E hr h => ?_)
  · obtain ⟨_, _, _, rfl, _⟩ := h
    rfl
  · obtain ⟨v, t, N, rfl, nd, ft, fs, fin⟩ := h
    refine ⟨_, pss_cons (ps_set (i := 1) scLText.nd rfl (Or.inl rfl) (pe_op op_add_str (pe_ix ix_list (pv 0) pe_int (fun _ _ => rfl)) (pe_join pe_str (pe_lc (own := [("_law_mark", 3)]) (g := gName 3) (tt := tYes) rfl scLText.nd
          (pi_list (pe_callB cr_sortedS (by rfl) T.sorted PyProof.Rows.boot_sorted (pa_cons (pe_ix ix_list (pv 0) pe_int (fun _ _ => rfl)) pa_nil)))
          (blkOk_by (N := ["_law_node_here", "_law_head", "_law_inner", "_law_mark", "_law_child"]) (sc := defScope sLText) (by decide +kernel)) (fun _ _ _ _ _ => pg_name (i := 3) scLText.nd rfl (Or.inl rfl)) (fun _ _ _ _ _ => pts_nil)
          (fun _ _ _ _ _ => pe_op op_add_str pe_str (pv 3))))))
      (pss_cons (ps_set (i := 2) scLText.nd rfl (Or.inl rfl) (pe_join pe_str (pe_lc (own := [("_law_child", 4)]) (g := gName 4) (tt := tYes) rfl scLText.nd (pi_list (pe_ix ix_list (pv 0) pe_int (fun _ _ => rfl)))
          (blkOk_by (N := ["_law_node_here", "_law_head", "_law_inner", "_law_mark", "_law_child"]) (sc := defScope sLText) (by decide +kernel)) (fun _ _ _ _ _ => pg_name (i := 4) scLText.nd rfl (Or.inl rfl)) (fun _ _ _ _ _ => pts_nil)
          (fun _ _ _ _ _ => pe_call G hr (by rfl) mN kN bN .nil pass0 (pa_cons (pv 4) pa_nil)))))
      (pss_one (ps_ret (pe_ifExp (pt_cmpR op_ne (pv 2) pe_str rfl) (pe_op op_add_str (pe_op op_add_str (pe_op op_add_str (pv 1) pe_str) (pv 2)) pe_str) (pv 1))))), ?_⟩
    have B := big
    cases t with
    | nd k ms ks =>
    rw [NodeAt] at nd
    obtain ⟨a, m, b, us, rfl, na, nm, nb, h1, h2, h3, h4⟩ := nd
    rw [Tr.wild] at ft
    obtain ⟨hk, hm, h3', hf⟩ := ft
    obtain ⟨t0, t1, t2, t3⟩ := head_wild hk hm h3'
    have fl := flat_len ks.toL
    have fz := sz_nd k ms ks
    have l3 : ks.len ≤ 100 := by
      rw [← toL_len]
      omega
    have pr := nodes_to h4
    have dot : ("." : Str) = toS [46] := by decide +kernel
    have com : ("," : Str) = toS [44] := by decide +kernel
    have emp : ("" : Str) = toS [] := by decide +kernel
    have few : ms.length ≤ 3 := h3'
    refine ⟨_, rfl, a, _, 0, _, rfl, rfl, SqL.of h1, atI_nat (j := 0) rfl, ⟨"", rfl⟩, _, rfl, a, _, 1, _, rfl, rfl, SqL.of h1, atI_nat (j := 1) rfl, m, ms.map toS, rfl, SqL.of (by rw [h2, List.map_map]; rfl), by rw [List.length_map]; omega, fun ys sa pe so hsa => ?_⟩
    have es : (ys.map V.str) = (srt ms).map sv := by
      have q := srt_eq (pe.map tl) (rises_of so)
      rw [List.map_map, show (tl ∘ toS) = id from rfl, List.map_id] at q
      rw [q, List.map_map]
      refine List.map_congr_left fun y _ => ?_
      show V.str y = V.str (toS (tl y))
      rw [toS_tl]
    rw [es]
    generalize g1 : upd H sa _ = H1
    have s1 : Same H H1 := g1 ▸ same_new hsa
    have m1 : H1 sa = some (.lst ((srt ms).map sv)) := g1 ▸ upd_same
    refine ⟨sa, rfl, ⟨_, SqL.of m1⟩, fun D hD => lc_it (walk_list (K := K) (a := sa) (xs := (srt ms).map sv)) (fun i H' => Same H1 H' ∧ H' D = some (.lst (((srt ms).take i).map fun w => sv (46 :: w))))
      ⟨same_new hD, upd_same⟩ (fun i H' _ ⟨s, _⟩ => SqL.of (s _ _ m1)) ?_ ?_⟩
    · rintro i x H2 H3 hi ⟨s2, m2⟩ ⟨rfl, hx⟩
      rw [List.length_map] at hi
      rw [List.getElem?_map] at hx
      obtain ⟨u, hu, rfl⟩ := Option.map_eq_some_iff.mp hx
      refine ⟨rfl, ?_⟩
      unfold tYes
      have ul : u.length ≤ 8 := (isName_mem ((areNames_mem hm).1 u ((srt_perm ms).subset (List.mem_of_getElem? hu)))).2.1
      refine iteT ⟨_, rfl, _, _, rfl, rfl, ?_, _, m2, ?_, same_put s2 hD, ?_⟩
      · rw [toS_len]
        show 1 + _ ≤ _
        omega
      · rw [List.length_map, List.length_take]
        omega
      · rw [upd_same, List.take_succ, hu, List.map_append, dot, toS_app]
        rfl
    rintro H2 ⟨s2, m2⟩
    rw [List.length_map, List.take_length] at m2
    have s12 := s1.trans s2
    refine ⟨"", D, ((srt ms).map fun w => 46 :: w).map toS, rfl, rfl, .inl (SqL.of (by rw [m2, List.map_map, List.map_map]; rfl)), ?_, _, _, rfl, rfl, ?_, ?_⟩
    · rw [sum_len]
      show _ + _ * 0 ≤ _
      omega
    · rw [emp, join_text, join_nil, toS_len, toS_len]
      have := (isName_mem hk).2.1
      omega
    rw [emp, join_text, join_nil, toS_app, show k ++ ((srt ms).map fun w => 46 :: w).flatten = headL k (srt ms) from rfl]
    have tn := txt_nd k ms ks
    generalize headL k (srt ms) = hd at t0 t1 tn ⊢
    -- the children
    refine ⟨⟨",", rfl⟩, _, rfl, a, _, 2, _, rfl, rfl, SqL.of (s12 _ _ h1), atI_nat (j := 2) rfl, b, rfl, ⟨_, SqL.of (s12 _ _ h3)⟩, fun D2 hD2 => lc_it (walk_list (K := K) (a := b) (xs := us)) (fun i H' => Same H2 H' ∧ H' D2 = some (.lst ((ks.toL.take i).map fun t => sv (txt t))))
      ⟨same_new hD2, upd_same⟩ (fun i H' _ ⟨s, _⟩ => SqL.of (s _ _ (s12 _ _ h3))) ?_ ?_⟩
    · rintro i x H3 H4 hi ⟨s3, m3⟩ ⟨rfl, hx⟩
      obtain ⟨t, ht, nt⟩ := prd_get pr hx
      have mt := List.mem_of_getElem? ht
      have sk := sz_kid (k := k) (ms := ms) mt
      have d0 : d ≠ 0 := by omega
      refine ⟨rfl, ?_⟩
      unfold tYes
      rw [hR d0]
      have s13 := s12.trans s3
      refine iteT ⟨_, rfl, x, t, N, rfl, NodeAt.move (fun _ h => h) (fun c u _ e => s13 _ _ e) t x nt, wild_toL.mp hf t mt, by omega, fun H5 s5 => ⟨_, s5 _ _ m3, ?_, same_put (s3.trans s5) hD2, ?_⟩⟩
      · rw [List.length_map, List.length_take]
        have := pr.length
        have := toL_len ks
        omega
      · rw [upd_same, List.take_succ, ht, List.map_append]
        rfl
    rintro H3 ⟨s3, m3⟩
    rw [pr.length, List.take_length] at m3
    have kl := toL_len ks
    have ts : ∀ t ∈ ks.toL, (txt t).length + 1 ≤ 38 * sz t ∧ 1 ≤ (txt t).length := fun t ht => txt_size _ t (Nat.le_refl _) (wild_toL.mp hf t ht)
    have tb : ∀ w ∈ ks.toL.map txt, w.length ≤ 5000 ∧ 1 ≤ w.length := fun w hw => by
      obtain ⟨t, ht, rfl⟩ := List.mem_map.mp hw
      obtain ⟨q1, q2⟩ := ts t ht
      have := sz_kid (k := k) (ms := ms) ht
      exact ⟨by omega, q2⟩
    have ksum := kids_sum ks.toL fun t ht => (ts t ht).1
    have jl : (joinL [44] (ks.toL.map txt)).length ≤ 4000 := by
      have := join_sum (ks.toL.map txt)
      omega
    have sl : (ks.toL.map txt).flatten.length ≤ 4000 := by
      have := flat_sum (ks.toL.map txt)
      omega
    refine ⟨",", D2, (ks.toL.map txt).map toS, rfl, rfl, .inl (SqL.of (by rw [m3, List.map_map, List.map_map]; rfl)), ?_, ?_⟩
    · rw [sum_len, List.length_map, List.length_map]
      show _ + _ * 1 ≤ _
      omega
    rw [com, join_text]
    have te : (!decide (V.str (toS (joinL [44] (ks.toL.map txt))) = V.str "")) = !decide (joinL [44] (ks.toL.map txt) = []) := by
      rw [emp]
      exact congrArg not (sv_is _ _)
    refine ⟨_, rfl, rfl, _, congrArg V.bl te, ?_⟩
    have opn : ("(" : Str) = toS [40] := by decide +kernel
    have sht : (")" : Str) = toS [41] := by decide +kernel
    have ll : (joinL [44] (ks.toL.map txt)).length ≤ 15003 := by omega
    by_cases c : ks.toL = []
    · have jz : joinL [44] (ks.toL.map txt) = [] := by
        rw [c]
        rfl
      rw [decide_eq_true jz]
      refine iteF ⟨_, rfl, ?_⟩
      rw [tn, if_pos c, List.append_nil] at fin
      exact fin _ (s12.trans s3)
    · have ne : joinL [44] (ks.toL.map txt) ≠ [] := by
        cases e : ks.toL with
        | nil => exact absurd e c
        | cons t ts =>
          rw [List.map_cons]
          exact joinL_ne _ _ (tb _ (by rw [e, List.map_cons]; exact List.mem_cons_self ..)).2 _
      rw [decide_eq_false ne]
      refine iteT ⟨_, rfl, _, _, rfl, rfl, ?_, _, rfl, _, _, rfl, rfl, ?_, _, _, rfl, rfl, ?_, ?_⟩
      · rw [toS_len]
        show _ + 1 ≤ _
        omega
      · rw [opn, toS_app, toS_len, toS_len, List.length_append]
        show _ + 1 + _ ≤ _
        omega
      · rw [opn, toS_app, toS_app, toS_len, List.length_append, List.length_append]
        show _ + 1 + _ + 1 ≤ _
        omega
      · rw [opn, sht, toS_app, toS_app, toS_app]
        rw [tn, if_neg c] at fin
        have e : hd ++ [40] ++ joinL [44] (ks.toL.map txt) ++ [41] = hd ++ 40 :: (joinL [44] (ks.toL.map txt) ++ [41]) := by simp
        rw [e]
        exact fin _ (s12.trans s3)
theorem ok_wtext {f : Addr} {fd : FuncData} (F : Fun K "_law_text" "_law_text" sLText f fd) (T : Txt mg) (mN : mg "_law_text" = some (.ref f)) (kN : PySem.W.keepIn K (.ref f) = true) (bN : Binds K fd ["_law_node_here"] []) :
    ∀ d, d ≤ 100 → FnOk P w K mg base CX0 (d + 2) f fd ["_law_node_here"] (spTextW d)
  | 0, h => wtext_step F T h mN kN bN never_ok fun z => absurd rfl z
  | d + 1, h => wtext_step F T h mN kN bN (ok_wtext F T mN kN bN d (by omega)) fun _ => rfl
end
end K03

namespace K03
open PySem L2 DR DM TL
def spPathsW (d : Nat) : Sp := fun vs H Q _ => ∃ (v px : V) (t : Tr) (N : Addr → Prop) (q : Pth), vs = [v, px] ∧ NodeAt N H v t ∧ sz t ≤ d ∧ PthAt H px q ∧ q.length + d ≤ 150 ∧
  ∀ D ws H', H D = none → Same H H' → H' D = some (.lst ws) → PthsAt H' ws ((t.nodes q).map (·.1)) → Q (.ref D) H'
section
variable {P : Program} {w : World} {K : PySem.W.Frag} {mg : Str → Option Value} {base : Heap}
theorem wpaths_step {f : Addr} {fd : FuncData} {d : Nat} {spR : Sp} (F : Fun K "_law_paths" "_law_paths" sLPaths f fd) (T : Txt mg) (hd4 : d ≤ 100)
    (mN : mg "_law_paths" = some (.ref f)) (kN : PySem.W.keepIn K (.ref f) = true) (bN : Binds K fd ["_law_node_here", "_law_path_here"] [])
    (G : FnOk P w K mg base CX0 (d + 1) f fd ["_law_node_here", "_law_path_here"] spR) (hR : d ≠ 0 → spR = spPathsW (d - 1)) : FnOk P w K mg base CX0 (d + 2) f fd ["_law_node_here", "_law_path_here"] (spPathsW d) := by
  refine F.ok scLPaths (fun vs H Q E h => ?_) (fun cdv A outer s H vs Q E hr h => ?_)
  · obtain ⟨_, _, _, _, _, rfl, _⟩ := h
    rfl
  · obtain ⟨v, px, t, N, q, rfl, nd, ft, pa, ql, fin⟩ := h
    refine ⟨_, pss_cons (ps_set (i := 2) scLPaths.nd rfl (Or.inl rfl) (pe_lst (pa_cons (pv 1) pa_nil)))
      (pss_cons (ps_for PassesOwn.never rfl (pi_enum (by rfl) T.enum (pa_cons (pe_ix ix_list (pv 0) pe_int (fun _ _ => rfl)) pa_nil)) (pg_tup rfl (pgs_cons (pg_name (i := 3) scLPaths.nd rfl (Or.inl rfl)) (pgs_cons (pg_name (i := 4) scLPaths.nd rfl (Or.inl rfl)) pgs_nil)))
        (pss_one (ps_set (i := 2) scLPaths.nd rfl (Or.inl rfl) (pe_op op_cat (pv 2) (pe_call G hr (by rfl) mN kN bN .nil pass0 (pa_cons (pv 4) (pa_cons (pe_op op_catA (pv 1) (pe_tup (pa_cons (pv 3) pa_nil))) pa_nil)))))))
      (pss_one (ps_ret (pv 2)))), ?_⟩
    have B := big
    cases t with
    | nd k ms ks =>
    have full : ((Tr.nd k ms ks).nodes q).length = sz (.nd k ms ks) := nodes_len _ q 0
    rw [Tr.nodes, List.length_cons] at full
    rw [NodeAt] at nd
    obtain ⟨a, m, b, us, rfl, na, nm, nb', h1, h2, h3, h4⟩ := nd
    have pr := nodes_to h4
    obtain ⟨pp, rfl, hpp⟩ := pa
    rw [Tr.nodes, List.map_cons] at fin
    refine ⟨_, rfl, by show 1 ≤ sizeLine; decide, fun D0 hD0 => ?_⟩
    generalize g1 : upd H D0 _ = H1
    have s1 : Same H H1 := g1 ▸ same_new hD0
    have m1 : H1 D0 = some (.lst [.ref pp]) := g1 ▸ upd_same
    have cap : ∀ n, n ≤ ks.toL.length → (kn q ks.toL n).length ≤ 121 := fun n hn => by
      have : (kn q ks.toL n).length ≤ (kn q ks.toL ks.toL.length).length := kn_mono q ks.toL hn
      rw [kids_nodes] at full
      omega
    refine ⟨_, rfl, a, _, 2, _, rfl, rfl, SqL.of (s1 _ _ h1), atI_nat (j := 2) rfl, b, us, rfl, SqL.of (s1 _ _ h3), for_it (walk_enum (K := K) (a := b) (xs := us)) (fun i σ H' => ∃ (o3 o4 : Option V) (D : Addr) (ws : List V), σ = [some (.ref a), some (.ref pp), some (.ref D), o3, o4] ∧ Same H H' ∧ H D = none ∧
      H' D = some (.lst ws) ∧ PthsAt H' ws (q :: (kn q ks.toL i).map (·.1))) ⟨none, none, D0, _, rfl, s1, hD0, m1, .cons ⟨pp, rfl, s1 _ _ hpp⟩ .nil⟩ (fun i σ H' _ ⟨_, _, _, _, _, s, _⟩ => SqL.of (s _ _ h3)) ?_ ?_⟩
    · rintro i x σ H2 H3 hi ⟨o3, o4, D, ws, rfl, s2, nD, m2, wa⟩ ⟨T0, x1, x2, rfl, hT0, rfl, e1, e2⟩
      obtain rfl := Option.some.inj e1
      obtain ⟨t, ht, nt⟩ := prd_get pr e2
      have mt := List.mem_of_getElem? ht
      have sk := sz_kid (k := k) (ms := ms) mt
      have d0 : d ≠ 0 := by omega
      generalize g3 : upd H2 T0 _ = H3
      have s3 : Same H2 H3 := g3 ▸ same_new hT0
      have m3 : H3 T0 = some (.tup [.int (i : Nat), x2]) := g3 ▸ upd_same
      have s13 := s2.trans s3
      refine ⟨T0, _, rfl, .inl (.inl m3), rfl, _, _, rfl, _, _, rfl, rfl, ?_⟩
      rw [hR d0]
      refine ⟨_, rfl, _, rfl, _, rfl, _, rfl, by show 1 ≤ sizeLine; decide, fun c hc => ?_⟩
      generalize g4 : upd H3 c _ = H4
      have s4 : Same H3 H4 := g4 ▸ same_new hc
      have m4 : H4 c = some (.tup [.int (i : Nat)]) := g4 ▸ upd_same
      have s14 := s13.trans s4
      have call : ∀ (y : Addr) (H5 : Hp), Same H4 H5 → H5 y = some (.tup ((q ++ [i]).map nv)) → True := fun _ _ _ _ => trivial
      refine ⟨pp, c, _, _, rfl, rfl, .inl (.inl (s14 _ _ hpp)), .inl (.inl m4), ?_, fun z => ?_, fun _ z => absurd z (by simp), fun _ _ y hy => ?_⟩
      · rw [List.length_map]
        show _ + 1 ≤ _
        omega
      · have q0 : q = [] := List.map_eq_nil_iff.mp z
        have mc : H4 c = some (.tup ((q ++ [i]).map nv)) := by
          rw [m4, q0]
          rfl
        have s44 : Same H4 H4 := Same.refl H4
        have s15 := s14.trans s44
        refine ⟨x2, .ref c, t, N, q ++ [i], rfl, NodeAt.move (fun _ h => h) (fun c u _ e => s15 _ _ e) t x2 nt, by omega, ⟨c, rfl, mc⟩, ?_, fun D2 ws2 H6 n6 s6 m6 wa6 => ?_⟩
        · rw [List.length_append]
          show _ + 1 + _ ≤ _
          omega
        · have s26 : Same H2 H6 := s3.trans (s4.trans (s44.trans s6))
          have m26 := s26 _ _ m2
          have nx : kn q ks.toL (i + 1) = kn q ks.toL i ++ t.nodes (q ++ [i]) := by
            show kn q ks.toL i ++ (match ks.toL[i]? with | some t => t.nodes (q ++ [i]) | none => []) = _
            rw [ht]
          have len : ws.length + ws2.length ≤ 122 := by
            have c1 := cap (i + 1) (by have := pr.length; omega)
            rw [nx, List.length_append] at c1
            rw [wa.length, wa6.length, List.length_cons, List.length_map, List.length_map]
            omega
          refine ⟨D, D2, ws, ws2, rfl, rfl, m26, m6, by omega, fun E hE => ?_⟩
          have sE : Same H6 (upd H6 E (.lst (ws ++ ws2))) := same_new hE
          refine ⟨_, _, E, ws ++ ws2, rfl, (s2.trans s26).trans sE, (s2.trans s26).free hE, upd_same, ?_⟩
          rw [nx, List.map_append, ← List.cons_append]
          exact paired_append ((wa.same s26).same sE) (wa6.same sE)
      · generalize g5 : upd H4 y _ = H5
        have s45 : Same H4 H5 := g5 ▸ same_new hy
        have my : H5 y = some (.tup ((q ++ [i]).map nv)) := g5 ▸ (upd_same.trans (by rw [List.map_append]; rfl))
        have s15 := s14.trans s45
        refine ⟨x2, .ref y, t, N, q ++ [i], rfl, NodeAt.move (fun _ h => h) (fun c u _ e => s15 _ _ e) t x2 nt, by omega, ⟨y, rfl, my⟩, ?_, fun D2 ws2 H6 n6 s6 m6 wa6 => ?_⟩
        · rw [List.length_append]
          show _ + 1 + _ ≤ _
          omega
        · have s26 : Same H2 H6 := s3.trans (s4.trans (s45.trans s6))
          have m26 := s26 _ _ m2
          have nx : kn q ks.toL (i + 1) = kn q ks.toL i ++ t.nodes (q ++ [i]) := by
            show kn q ks.toL i ++ (match ks.toL[i]? with | some t => t.nodes (q ++ [i]) | none => []) = _
            rw [ht]
          have len : ws.length + ws2.length ≤ 122 := by
            have c1 := cap (i + 1) (by have := pr.length; omega)
            rw [nx, List.length_append] at c1
            rw [wa.length, wa6.length, List.length_cons, List.length_map, List.length_map]
            omega
          refine ⟨D, D2, ws, ws2, rfl, rfl, m26, m6, by omega, fun E hE => ?_⟩
          have sE : Same H6 (upd H6 E (.lst (ws ++ ws2))) := same_new hE
          refine ⟨_, _, E, ws ++ ws2, rfl, (s2.trans s26).trans sE, (s2.trans s26).free hE, upd_same, ?_⟩
          rw [nx, List.map_append, ← List.cons_append]
          exact paired_append ((wa.same s26).same sE) (wa6.same sE)
    · rintro σ H2 ⟨o3, o4, D, ws, rfl, s2, nD, m2, wa⟩
      refine ⟨_, rfl, fin D ws _ nD s2 m2 ?_⟩
      rw [kids_nodes, ← pr.length]
      exact wa
theorem ok_wpaths {f : Addr} {fd : FuncData} (F : Fun K "_law_paths" "_law_paths" sLPaths f fd) (T : Txt mg) (mN : mg "_law_paths" = some (.ref f)) (kN : PySem.W.keepIn K (.ref f) = true) (bN : Binds K fd ["_law_node_here", "_law_path_here"] []) :
    ∀ d, d ≤ 100 → FnOk P w K mg base CX0 (d + 2) f fd ["_law_node_here", "_law_path_here"] (spPathsW d)
  | 0, h => wpaths_step F T h mN kN bN never_ok fun z => absurd rfl z
  | d + 1, h => wpaths_step F T h mN kN bN (ok_wpaths F T mN kN bN d (by omega)) fun _ => rfl
/-- _law_at, in the law's own lists -/
def spAtW : Sp := fun vs H Q _ => ∃ (v px y : V) (q : Pth), vs = [v, px] ∧ PthAt H px q ∧ Loc H v q y ∧ Q y H
theorem loc_take {H : Hp} : ∀ (q : Pth) (v y : V), Loc H v q y → ∀ n, ∃ x, Loc H v (q.take n) x ∧ ∀ i, q[n]? = some i → ∃ a k m b vs v', x = .ref a ∧ H a = some (.lst [k, m, .ref b]) ∧ H b = some (.lst vs) ∧ vs[i]? = some v' ∧ Loc H v (q.take (n + 1)) v'
  | [], v, y, h, n => ⟨v, by rw [List.take_nil]; exact rfl, fun i e => by simp at e⟩
  | j :: q, v, y, ⟨a, k, m, b, vs, v', e, h1, h2, h3, h4⟩, 0 => ⟨v, rfl, fun i ei => by
      have ei : j = i := by simpa using ei
      subst ei
      exact ⟨a, k, m, b, vs, v', e, h1, h2, h3, a, k, m, b, vs, v', e, h1, h2, h3, rfl⟩⟩
  | j :: q, v, y, ⟨a, k, m, b, vs, v', e, h1, h2, h3, h4⟩, n + 1 => by
    obtain ⟨x, g1, g2⟩ := loc_take q v' y h4 n
    refine ⟨x, ⟨a, k, m, b, vs, v', e, h1, h2, h3, g1⟩, fun i ei => ?_⟩
    obtain ⟨a2, k2, m2, b2, vs2, v2, e2, q1, q2, q3, q4⟩ := g2 i (by simpa using ei)
    exact ⟨a2, k2, m2, b2, vs2, v2, e2, q1, q2, q3, a, k, m, b, vs, v', e, h1, h2, h3, q4⟩
theorem ok_wat {f : Addr} {fd : FuncData} (F : Fun K "_law_at" "_law_at" sLAt f fd) : FnOk P w K mg base CX0 1 f fd ["_law_node_here", "_law_path_here"] spAtW := by
  refine F.ok scLAt (fun vs H Q E h => ?_) (fun cdv A outer s H vs Q E hr h => ?_)
  · obtain ⟨_, _, _, _, rfl, _⟩ := h
    rfl
  · obtain ⟨v, px, y, q, rfl, ⟨pp, rfl, hpp⟩, loc, fin⟩ := h
    refine ⟨_, pss_cons (ps_for PassesOwn.never rfl (pi_tup (pv 1)) (pg_name (i := 2) scLAt.nd rfl (Or.inl rfl)) (pss_one (ps_set (i := 0) scLAt.nd rfl (Or.inl rfl) (pe_ix ix_list (pe_ix ix_list (pv 0) pe_int (fun _ _ => rfl)) (pv 2) (fun _ _ => rfl)))))
      (pss_one (ps_ret (pv 0))), ?_⟩
    refine ⟨_, rfl, pp, rfl, ⟨_, .inl (.inl hpp)⟩, for_it (walk_tup (K := K) (a := pp) (xs := q.map nv)) (fun i σ H' => ∃ (x : V) (o2 : Option V), σ = [some x, some (.ref pp), o2] ∧ H = H' ∧ Loc H v (q.take i) x)
      ⟨v, none, rfl, rfl, rfl⟩ (fun i σ H' _ ⟨_, _, _, e, _⟩ => e ▸ .inl (.inl hpp)) ?_ ?_⟩
    · rintro i x0 σ H1 H2 hi ⟨x, o2, rfl, rfl, lx⟩ ⟨rfl, hx⟩
      rw [List.getElem?_map] at hx
      obtain ⟨n, hn, rfl⟩ := Option.map_eq_some_iff.mp hx
      obtain ⟨x', g1, g2⟩ := loc_take q v y loc i
      obtain rfl := loc_fun _ _ _ _ lx g1
      obtain ⟨a, k, m, b, vs, v', rfl, q1, q2, q3, q4⟩ := g2 n hn
      exact ⟨_, rfl, a, _, 2, _, rfl, rfl, SqL.of q1, atI_nat (j := 2) rfl, _, rfl, b, _, n, _, rfl, rfl, SqL.of q2, atI_nat q3, v', _, rfl, rfl, q4⟩
    · rintro σ H2 ⟨x, o2, rfl, rfl, lx⟩
      rw [List.length_map, List.take_length] at lx
      obtain rfl := loc_fun _ _ _ _ lx loc
      exact ⟨_, rfl, fin⟩
end
end K03

namespace K03
open PySem L2 DR DM TL
def spNamesT (K : PySem.W.Frag) : Sp := fun vs H Q _ => ∃ (p : Addr) (ts : List Str), vs = [.ref p] ∧ H p = some (.tup (ts.map V.str)) ∧ ts.length ≤ 1000 ∧ (∀ t ∈ ts, (tl t).length ≤ 30000) ∧ ∀ H', Same H H' → Q (.bl (areNames (ts.map tl))) H'
section
variable {P : Program} {w : World} {K : PySem.W.Frag} {mg : Str → Option Value} {base : Heap}
theorem ok_namesT {f : Addr} {fd : FuncData} (F : Fun K "are_names" "are_names" sNames f fd) (T : Txt mg) (D : Has P w K mg base 1 "is_name" ["value"] spName) : FnOk P w K mg base CX0 2 f fd ["values"] (spNamesT K) := by
  obtain ⟨fN, fdN, GN, mN, kN, bN⟩ := D
  refine F.ok scNames (fun vs H Q E h => ?_) (fun cdv A outer s H vs Q E hr h => ?_)
  · obtain ⟨_, _, rfl, _⟩ := h
    rfl
  · obtain ⟨p, ts, rfl, hp, few, len, fin⟩ := h
    have hr1 : Room 1 _ := hr.mono (by decide)
    refine ⟨_, pss_cons (ps_if (pt_not (pt_val (pe_callB call_isiT (by rfl) T.isi PyProof.Rows.boot_isinstance (pa_cons (pv 0) (pa_cons (pe_tup (pa_cons (pe_bltn (v := .ty "list") (by rfl) T.list (by decide +kernel) rfl) (pa_cons (pe_bltn (v := .ty "tuple") (by rfl) T.tuple (by decide +kernel) rfl) pa_nil))) pa_nil))))) (pss_one (ps_ret pe_bl)) pss_nil)
      (pss_one (ps_ret (pe_and (pe_callB (cr_all rfl) (by rfl) T.all PyProof.Rows.boot_all (pa_cons (pe_lc (own := [("value", 1)]) (g := gName 1) (tt := tYes) rfl scNames.nd (pi_tup (pv 0))
        (blkOk_by (N := ["values", "value"]) (sc := defScope sNames) (by decide +kernel)) (fun _ _ _ _ _ => pg_name (i := 1) scNames.nd rfl (Or.inl rfl)) (fun _ _ _ _ _ => pts_nil)
        (fun _ _ _ _ _ => pe_call GN hr1 (by rfl) mN kN bN .nil pass0 (pa_cons (pv 1) pa_nil))) pa_nil))
        (pe_one (pe_cmpR op_eq (pe_lenSetU rfl (by rfl) T.len (by rfl) T.set (pv 0)) (pe_callB call_len_seq (by rfl) T.len PySem.boot_len (pa_cons (pv 0) pa_nil)) rfl))))), ?_⟩
    have B := big
    refine ⟨_, rfl, by show 2 ≤ sizeLine; decide, fun q hq => ?_⟩
    generalize g1 : upd H q _ = H1
    have s1 : Same H H1 := g1 ▸ same_new hq
    have m1 : H1 q = some (.tup [.ty "list", .ty "tuple"]) := g1 ▸ upd_same
    refine ⟨.ref p, q, _, .type "tuple", _, true, rfl, m1, .cons (.ty _) (.cons (.ty _) .nil), .base (.tup (s1 _ _ hp)), by rfl, true, rfl, ?_⟩
    refine iteF ⟨_, rfl, p, rfl, ⟨_, .inl (.inl (s1 _ _ hp))⟩, fun D hD => lc_it (walk_tup (K := K) (a := p) (xs := ts.map V.str)) (fun i H' => Same H1 H' ∧ H' D = some (.lst ((ts.take i).map fun t => V.bl (isName (tl t)))))
      ⟨same_new hD, upd_same⟩ (fun i H' _ ⟨s, _⟩ => .inl (.inl (s _ _ (s1 _ _ hp)))) ?_ ?_⟩
    · rintro i x H2 H3 hi ⟨s2, m2⟩ ⟨rfl, hx⟩
      rw [List.getElem?_map] at hx
      obtain ⟨t, ht, rfl⟩ := Option.map_eq_some_iff.mp hx
      refine ⟨rfl, ?_⟩
      unfold tYes
      refine iteT ⟨_, rfl, t, rfl, len t (List.mem_of_getElem? ht), fun H4 s4 => ⟨_, s4 _ _ m2, ?_, ?_, ?_⟩⟩
      · rw [List.length_map]
        exact Nat.lt_of_le_of_lt (List.length_take_le _ _) (by rw [List.length_map] at hi; omega)
      · exact same_put (s2.trans s4) hD
      · rw [upd_same, List.take_succ, ht, List.map_append]
        rfl
    · rintro H2 ⟨s2, m2⟩
      rw [List.length_map, List.take_length] at m2
      refine ⟨D, ts.map fun t => isName (tl t), rfl, SqL.of (by rw [m2, List.map_map]; rfl), _, rfl, ?_⟩
      have all : (ts.map fun t => isName (tl t)).all id = (ts.map tl).all isName := by
        rw [List.all_map, List.all_map]
        rfl
      rw [all]
      refine ite2 (fun c1 => ?_) (fun c1 => ?_)
      · refine ⟨_, rfl, p, ts, rfl, .inl (.inl (s2 _ _ (s1 _ _ hp))), by unfold PySem.scanBound; omega, fun c hc => ⟨_, rfl, p, _, rfl, .inr (.inl (.inl (s2 _ _ (s1 _ _ hp)))), ?_⟩⟩
        have e : areNames (ts.map tl) = decide (V.int (c : Int) = V.int (((ts.map V.str).length : Nat) : Int)) := by
          unfold areNames
          rw [c1, Bool.true_and, List.length_map, decide_eq_decide, ← nodup_tl, ← hc]
          exact ⟨fun q => by rw [q], fun q => by injection q with q; omega⟩
        rw [e] at fin
        exact ⟨rfl, fin _ (s1.trans s2)⟩
      · have e : areNames (ts.map tl) = false := by
          unfold areNames
          rw [Bool.eq_false_iff.mpr c1]
          rfl
        rw [e] at fin
        exact fin _ (s1.trans s2)

def spMarked (C : Addr) : Sp := fun vs H Q _ => ∃ (a mm : Addr) (rs : List Row) (x : V) (q : Pth) (i : Nat) (ms : List W), vs = [.ref a, x, .ref mm] ∧ DocAt C H a rs ∧ PthAt H x q ∧ q.length ≤ 1000 ∧ i < rs.length ∧ valV (plc (pathsM rs) rs.length) (pk q) = some (nv i) ∧
  (H mm = some (.tup (ms.map sv)) ∨ H mm = some (.lst (ms.map sv))) ∧ areNames ms = true ∧ ms.length ≤ 3 ∧ Few (rs.take i ++ ((rs.getD i (0, [], [])).1, (rs.getD i (0, [], [])).2.1, srt ms) :: rs.drop (i + 1)) ∧
  ∀ b H', Same H H' → DocAt C H' b (rs.take i ++ ((rs.getD i (0, [], [])).1, (rs.getD i (0, [], [])).2.1, srt ms) :: rs.drop (i + 1)) → Q (.ref b) H'
theorem scMarked : FnScope ["self", "path", "marks", "at", "depth", "kind", "_"] ["self", "path", "marks"] (defScope (cDoc 15)) := ⟨rfl, rfl, rfl, by decide +kernel, rfl, by decide +kernel, by decide +kernel⟩
theorem fn_or {C0 : CXT} {k : Nat} {f : Addr} {fd : FuncData} {ps : List Str} {sp1 sp2 : Sp} (F1 : FnOk P w K mg base C0 k f fd ps sp1) (F2 : FnOk P w K mg base C0 k f fd ps sp2) : FnOk P w K mg base C0 k f fd ps (fun vs H Q E => sp1 vs H Q E ∨ sp2 vs H Q E) :=
  { len := fun _ _ _ _ h => h.elim (F1.len _ _ _ _) (F2.len _ _ _ _), run := fun A out s H args us vs Q E hr e hb hv h => h.elim (F1.run A out s H args us vs Q E hr e hb hv) (F2.run A out s H args us vs Q E hr e hb hv) }
def spNamesU (K : PySem.W.Frag) : Sp := fun vs H Q E => spNames K vs H Q E ∨ spNamesT K vs H Q E
theorem ok_marked {f C : Addr} {fd : FuncData} (F : Fun K "marked" "Document.marked" (cDoc 15) f fd) (T : Txt mg) (DC : DCls K mg C) (D1 : C8.Met P w K mg base 4 C "number_of" (spPlaceP C) []) (D2 : Has P w K mg base 2 "are_names" ["values"] (spNamesU K)) (D3 : C8.Met P w K mg base 4 C "_replaced" (spReplaced C) []) :
    FnOk P w K mg base CX0 5 f fd ["self", "path", "marks"] (spMarked C) := by
  obtain ⟨fN, fdN, GN, mN, kN, bN⟩ := D2
  refine F.ok scMarked (fun vs H Q E h => ?_) (fun cdv A outer s H vs Q E hr h => ?_)
  · obtain ⟨_, _, _, _, _, _, _, rfl, _⟩ := h
    rfl
  · obtain ⟨a, mm, rs, x, q, i, ms, rfl, dc, px, ql, hi, at_, hm, nm, l3, few, fin⟩ := h
    have hr2 : Room 2 _ := hr.mono (by decide)
    refine ⟨_, pss_cons (ps_set (i := 3) scMarked.nd rfl (Or.inl rfl) (C8.pe_mt D1 hr (Nat.le_refl _) (pv 0) (pa_cons (pv 1) pa_nil)))
      (pss_cons (ps_if (pt_not (pt_val (pe_call GN hr2 (by rfl) mN kN bN .nil pass0 (pa_cons (pv 2) pa_nil)))) (pss_one ps_never) pss_nil)
      (pss_cons (ps_asg (pe_ix ix_tup (pe_fld (pv 0) rfl) (pv 3) (fun _ _ => rfl)) (pg_tup rfl (pgs_cons (pg_name (i := 4) scMarked.nd rfl (Or.inl rfl)) (pgs_cons (pg_name (i := 5) scMarked.nd rfl (Or.inl rfl)) (pgs_cons (pg_name (i := 6) scMarked.nd rfl (Or.inl rfl)) pgs_nil)))))
      (pss_one (ps_ret (C8.pe_mt D3 hr (Nat.le_refl _) (pv 0) (pa_cons (pv 3) (pa_cons (pe_tup (pa_cons (pv 4) (pa_cons (pv 5) (pa_cons (pe_callTy call_tuple_of (by rfl) T.tuple (by decide +kernel)
        (pa_cons (pe_callB cr_sortedU (by rfl) T.sorted PyProof.Rows.boot_sorted (pa_cons (pv 2) pa_nil)) pa_nil)) pa_nil)))) pa_nil))))))), ?_⟩
    have B := big
    obtain ⟨dx0, _, _, _, _, _, hd0, _⟩ := id dc
    refine ⟨_, rfl, a, dx0, _, rfl, hd0, rfl, _, rfl, a, rs, x, q, i, rfl, dc, px, ql, at_, fun H1 s1 => ?_⟩
    have mn := areNames_mem nm
    have sh : ∀ t ∈ ms.map toS, (tl t).length ≤ 30000 := fun t ht => by
      obtain ⟨m, hm, rfl⟩ := List.mem_map.mp ht
      have := (isName_mem (mn.1 m hm)).2.1
      show m.length ≤ 30000
      omega
    have em : (ms.map toS).map V.str = ms.map sv := by
      rw [List.map_map]
      rfl
    have et : (ms.map toS).map tl = ms := by
      rw [List.map_map]
      exact List.map_id ms
    have named : ∀ (Q' : VK) (E' : XK), (∀ H', Same H1 H' → Q' (.bl true) H') → spNamesU K [.ref mm] H1 Q' E' := fun Q' E' k => by
      rcases hm with hm | hm
      · exact .inr ⟨mm, ms.map toS, rfl, by rw [em]; exact s1 _ _ hm, by rw [List.length_map]; omega, sh, fun H' s => by rw [et, nm]; exact k H' s⟩
      · exact .inl ⟨mm, ms.map toS, rfl, by rw [em]; exact s1 _ _ hm, by rw [List.length_map]; omega, sh, fun H' s => by rw [et, nm]; exact k H' s⟩
    refine ⟨_, rfl, named _ _ fun H2 s2 => ⟨_, rfl, ?_⟩⟩
    refine iteF ?_
    have s12 := s1.trans s2
    obtain ⟨dx, rr, p, d, us, ws, h1, h2, h3, _⟩ := id (dc.same s12)
    obtain ⟨x1, r1, ux1, rx1, g1, a1, m1, rfl, ha1, hm1⟩ := row_at h3 hi
    refine ⟨_, rfl, a, C, dx, _, _, rfl, h1, DC.cls, DC.rows, rfl, _, rfl, rr, us, _, _, rfl, rfl, .inl (.inl h2), atI_nat ux1, a1, _, rfl, .inl (.inl ha1), rfl, _, _, rfl, _, _, rfl, _, _, rfl, rfl, ?_⟩
    have hm2 : H2 mm = some (.tup ((ms.map toS).map V.str)) ∨ H2 mm = some (.lst ((ms.map toS).map V.str)) := by
      rw [em]
      exact hm.imp (s12 _ _) (s12 _ _)
    refine ⟨_, rfl, a, dx, _, rfl, h1, rfl, _, rfl, _, rfl, _, rfl, _, rfl, mm, ms.map toS, rfl, hm2, by rw [List.length_map]; omega, fun ys sp pe so hsp => ?_⟩
    have es : ys.map V.str = (srt ms).map sv := by
      have q := srt_eq (pe.map tl) (rises_of so)
      rw [et] at q
      rw [q, List.map_map]
      refine List.map_congr_left fun y _ => ?_
      show V.str y = V.str (toS (tl y))
      rw [toS_tl]
    rw [es]
    generalize g3 : upd H2 sp _ = H3
    have s3 : Same H2 H3 := g3 ▸ same_new hsp
    have m3 : H3 sp = some (.lst ((srt ms).map sv)) := g3 ▸ upd_same
    refine ⟨sp, _, rfl, .inl ⟨SqL.of m3, fun tp htp => ?_⟩⟩
    generalize g4 : upd H3 tp _ = H4
    have s4 : Same H3 H4 := g4 ▸ same_new htp
    have m4 : H4 tp = some (.tup ((srt ms).map sv)) := g4 ▸ upd_same
    refine ⟨by show 3 ≤ sizeLine; decide, fun e he => ?_⟩
    generalize g5 : upd H4 e _ = H5
    have s5 : Same H4 H5 := g5 ▸ same_new he
    have m5 : H5 e = some (.tup [.int (r1.1 : Nat), sv r1.2.1, .ref tp]) := g5 ▸ upd_same
    have s25 := s3.trans (s4.trans s5)
    rw [g1] at few fin
    exact ⟨a, rs, i, .ref e, (r1.1, r1.2.1, srt ms), rfl, (dc.same s12).same s25, hi, ⟨e, tp, rfl, m5, s5 _ _ m4⟩, few, fun b H' s6 d6 => fin b H' (s12.trans (s25.trans s6)) d6⟩
end
end K03

namespace K03
open PySem L2 DR DM TL
abbrev sCopy : Stmt := top 33
/-- a copy: all of its lists are new -/
def spCopy (d : Nat) : Sp := fun vs H Q _ => ∃ (v : V) (t : Tr) (N : Addr → Prop), vs = [v] ∧ NodeAt N H v t ∧ sz t ≤ d ∧ ∀ y A H', Same H H' → (∀ c ∈ A, H c = none) → A.Nodup → TreeAt H' A y t → Q y H'
theorem trees_snoc {H : Hp} {t : Tr} {l : List Tr} {B A : List Addr} {vs : List V} {v : V} (h : TreesAt H B vs (ofL l)) (e : vs.length = l.length) (h2 : TreeAt H A v t) : TreesAt H (B ++ A) (vs ++ [v]) (ofL (l ++ [t])) :=
  (trees_app l [t] _ _).mpr ⟨B, A, vs, [v], rfl, rfl, e, h, trees_one.mpr ⟨v, [], A, [], rfl, (List.append_nil A).symm, h2, by rw [ofL, TreesAt]; exact ⟨rfl, rfl⟩⟩⟩
theorem NodeAt.same {N : Addr → Prop} {H H' : Hp} (s : Same H H') {v : V} {t : Tr} (h : NodeAt N H v t) : NodeAt N H' v t := NodeAt.move (fun _ h => h) (fun c u _ e => s c u e) t v h
section
variable {P : Program} {w : World} {K : PySem.W.Frag} {mg : Str → Option Value} {base : Heap}
theorem scCopy : FnScope ["_law_node_here", "_law_child"] ["_law_node_here"] (defScope sCopy) := ⟨rfl, rfl, rfl, by decide +kernel, rfl, by decide +kernel, by decide +kernel⟩
theorem copy_step {f : Addr} {fd : FuncData} {d : Nat} {spR : Sp} (F : Fun K "_law_copy" "_law_copy" sCopy f fd) (T : Txt mg) (hd4 : d ≤ 100)
    (mN : mg "_law_copy" = some (.ref f)) (kN : PySem.W.keepIn K (.ref f) = true) (bN : Binds K fd ["_law_node_here"] [])
    (G : FnOk P w K mg base CX0 (d + 1) f fd ["_law_node_here"] spR) (hR : d ≠ 0 → spR = spCopy (d - 1)) : FnOk P w K mg base CX0 (d + 2) f fd ["_law_node_here"] (spCopy d) := by
  refine F.ok scCopy (fun vs H Q E h => ?_) (fun cdv A outer s H vs Q E hr h => ?_)
  · obtain ⟨_, _, _, rfl, _⟩ := h
    rfl
  · obtain ⟨v, t, N, rfl, nd, ft, fin⟩ := h
    refine ⟨_, pss_one (ps_ret (pe_lst (pa_cons (pe_ix ix_list (pv 0) pe_int (fun _ _ => rfl)) (pa_cons (pe_callTy call_list_of (by rfl) T.list (by decide +kernel) (pa_cons (pe_ix ix_list (pv 0) pe_int (fun _ _ => rfl)) pa_nil))
      (pa_cons (pe_lc (own := [("_law_child", 1)]) (g := gName 1) (tt := tYes) rfl scCopy.nd (pi_list (pe_ix ix_list (pv 0) pe_int (fun _ _ => rfl)))
          (blkOk_by (N := ["_law_node_here", "_law_child"]) (sc := defScope sCopy) (by decide +kernel)) (fun _ _ _ _ _ => pg_name (i := 1) scCopy.nd rfl (Or.inl rfl)) (fun _ _ _ _ _ => pts_nil)
          (fun _ _ _ _ _ => pe_call G hr (by rfl) mN kN bN .nil pass0 (pa_cons (pv 1) pa_nil))) pa_nil))))), ?_⟩
    have B := big
    cases t with
    | nd k ms ks =>
    have fl := flat_len ks.toL
    have fz := sz_nd k ms ks
    have nd0 := nd
    rw [NodeAt] at nd
    obtain ⟨a, m, b, us, rfl, na, nm, nb, h1, h2, h3, h4⟩ := nd
    have pr := nodes_to h4
    have ul : us.length ≤ 100 := by
      rw [pr.length]
      omega
    refine ⟨_, rfl, a, _, 0, _, rfl, rfl, SqL.of h1, atI_nat (j := 0) rfl, _, rfl, a, _, 1, _, rfl, rfl, SqL.of h1, atI_nat (j := 1) rfl, m, _, rfl, .inl (SqL.of h2), fun m2 hm2 => ?_⟩
    generalize g1 : upd H m2 _ = H1
    have s1 : Same H H1 := g1 ▸ same_new hm2
    have x1 : H1 m2 = some (.lst (ms.map sv)) := g1 ▸ upd_same
    refine ⟨_, rfl, a, _, 2, _, rfl, rfl, SqL.of (s1 _ _ h1), atI_nat (j := 2) rfl, b, rfl, ⟨_, SqL.of (s1 _ _ h3)⟩, fun D hD => lc_it (walk_list (K := K) (a := b) (xs := us)) (fun i H' => ∃ (ys : List V) (B : List Addr), Same H1 H' ∧ H' D = some (.lst ys) ∧ ys.length = i ∧ B.Nodup ∧ (∀ c ∈ B, H1 c = none ∧ c ≠ D) ∧ TreesAt H' B ys (ofL (ks.toL.take i)))
      ⟨[], [], same_new hD, upd_same, rfl, List.nodup_nil, fun c hc => (nomatch hc), by rw [List.take_zero, ofL, TreesAt]; exact ⟨rfl, rfl⟩⟩ (fun i H' _ ⟨_, _, s, _⟩ => SqL.of (s _ _ (s1 _ _ h3))) ?_ ?_⟩
    · rintro i x H2 H3 hi ⟨ys, B1, s2, m2', yl, bn, bf, ta⟩ ⟨rfl, hx⟩
      obtain ⟨t, ht, nt⟩ := prd_get pr hx
      have mt := List.mem_of_getElem? ht
      have sk := sz_kid (k := k) (ms := ms) mt
      have d0 : d ≠ 0 := by omega
      refine ⟨rfl, ?_⟩
      unfold tYes
      rw [hR d0]
      refine iteT ⟨_, rfl, x, t, N, rfl, nt.same (s1.trans s2), by omega, fun y A2 H4 s4 fr an ta2 => ⟨ys, s4 _ _ m2', by omega, ?_⟩⟩
      have ne : ∀ c ∈ A2, c ≠ D := fun c hc z => by
        have := fr c hc
        rw [z, m2'] at this
        cases this
      have dj : ∀ c ∈ B1, c ∉ A2 := fun c hc hc2 => by
        obtain ⟨xs, e⟩ := TreesAt.lists _ _ _ ta c hc
        have := fr c hc2
        rw [e] at this
        cases this
      refine ⟨ys ++ [y], B1 ++ A2, same_put (s2.trans s4) hD, upd_same, by rw [List.length_append, yl]; rfl, ?_, fun c hc => ?_, ?_⟩
      · exact List.nodup_append.mpr ⟨bn, an, fun a ha b hb e => dj a ha (e ▸ hb)⟩
      · rcases List.mem_append.mp hc with hc | hc
        · exact bf c hc
        · exact ⟨s2.free (fr c hc), ne c hc⟩
      · rw [List.take_succ, ht]
        have k1 : ∀ c, c ≠ D → ∀ u, H4 c = some u → upd H4 D (.lst (ys ++ [y])) c = some u := fun c hc u e => by rw [upd_ne hc]; exact e
        exact trees_snoc (TreesAt.move _ _ _ ta fun c hc u e => k1 c (bf c hc).2 u (s4 _ _ e)) (by rw [yl, List.length_take]; have := (List.getElem?_eq_some_iff.mp ht).1; omega) (TreeAt.move _ _ _ ta2 fun c hc => k1 c (ne c hc))
    rintro H2 ⟨ys, B1, s2, m2', yl, bn, bf, ta⟩
    have tk : ks.toL.take us.length = ks.toL := by
      rw [pr.length]
      exact List.take_length
    rw [tk, ofL_toL] at ta
    refine ⟨by show 3 ≤ sizeLine; decide, fun a2 ha2 => ?_⟩
    have sn := same_new (o := .lst [sv k, .ref m2, .ref D]) ha2
    have s12 := s1.trans s2
    have mD : H2 D ≠ none := fun z => by rw [z] at m2'; cases m2'
    have mm : H2 m2 ≠ none := fun z => by rw [s2 _ _ x1] at z; cases z
    have bl : ∀ c ∈ B1, H2 c ≠ none := fun c hc z => by
      obtain ⟨xs, e⟩ := TreesAt.lists _ _ _ ta c hc
      rw [e] at z
      cases z
    have nDm : m2 ≠ D := fun z => by
      rw [z] at x1
      rw [hD] at x1
      cases x1
    have nBm : ∀ c ∈ B1, c ≠ m2 := fun c hc z => by
      have := (bf c hc).1
      rw [z, x1] at this
      cases this
    refine fin (.ref a2) (a2 :: m2 :: D :: B1) _ (s12.trans sn) (fun c hc => ?_) ?_ ?_
    · simp only [List.mem_cons] at hc
      rcases hc with rfl | rfl | rfl | hc
      · exact s12.free ha2
      · exact hm2
      · exact s1.free hD
      · exact s1.free (bf c hc).1
    · simp only [List.nodup_cons, List.mem_cons, not_or]
      exact ⟨⟨fun z => mm (z ▸ ha2), fun z => mD (z ▸ ha2), fun z => bl a2 z ha2⟩, ⟨nDm, fun z => nBm m2 z rfl⟩, fun z => (bf D z).2 rfl, bn⟩
    · rw [TreeAt]
      exact ⟨a2, m2, D, ys, B1, rfl, rfl, upd_same, sn _ _ (s2 _ _ x1), sn _ _ m2', TreesAt.move _ _ _ ta fun c hc u e => sn _ _ e⟩
theorem ok_copy {f : Addr} {fd : FuncData} (F : Fun K "_law_copy" "_law_copy" sCopy f fd) (T : Txt mg) (mN : mg "_law_copy" = some (.ref f)) (kN : PySem.W.keepIn K (.ref f) = true) (bN : Binds K fd ["_law_node_here"] []) :
    ∀ d, d ≤ 100 → FnOk P w K mg base CX0 (d + 2) f fd ["_law_node_here"] (spCopy d)
  | 0, h => copy_step F T h mN kN bN never_ok fun z => absurd rfl z
  | d + 1, h => copy_step F T h mN kN bN (ok_copy F T mN kN bN d (by omega)) fun _ => rfl
end
end K03

namespace K03
open PySem L2 DR DM TL
mutual
def _root_.DM.Tr.slim : Tr → Prop
  | .nd k ms ks => (headL k ms).length ≤ 60 ∧ ks.slim
def _root_.DM.Trs.slim : Trs → Prop
  | .nil => True
  | .cons t ts => t.slim ∧ ts.slim
end
mutual
theorem toks_slim : ∀ (t : Tr), t.slim → ∀ p ∈ t.toks, p.length ≤ 60
  | .nd k ms ks, f, p, h => by
    rw [Tr.slim] at f
    rw [Tr.toks] at h
    rcases List.mem_cons.mp h with rfl | h
    · exact f.1
    · exact wrap_slim ks f.2 p h
theorem wrap_slim : ∀ (ts : Trs), ts.slim → ∀ p ∈ ts.wrapT, p.length ≤ 60
  | .nil, f, p, h => by
    rw [Trs.wrapT] at h
    exact absurd h List.not_mem_nil
  | .cons t ts, f, p, h => by
    rw [Trs.slim] at f
    rw [Trs.wrapT] at h
    rcases List.mem_cons.mp h with rfl | h
    · exact Nat.le_of_ble_eq_true rfl
    · rcases List.mem_append.mp h with h | h
      · exact toks_slim t f.1 p h
      · exact more_slim ts f.2 p h
theorem more_slim : ∀ (ts : Trs), ts.slim → ∀ p ∈ ts.moreT, p.length ≤ 60
  | .nil, f, p, h => by
    rw [Trs.moreT] at h
    rw [List.mem_singleton.mp h]
    exact Nat.le_of_ble_eq_true rfl
  | .cons t ts, f, p, h => by
    rw [Trs.slim] at f
    rw [Trs.moreT] at h
    rcases List.mem_cons.mp h with rfl | h
    · exact Nat.le_of_ble_eq_true rfl
    · rcases List.mem_append.mp h with h | h
      · exact toks_slim t f.1 p h
      · exact more_slim ts f.2 p h
end
theorem spl_count : ∀ (l acc : List Nat), (spl [46] 0 acc l).length ≤ l.length + 1
  | [], acc => by
    rw [spl_nil]
    exact Nat.le_refl _
  | c :: r, acc => by
    by_cases p : pre [46] (c :: r) = true
    · rw [spl_hit p]
      have h : (spl [46] 0 [] r).length ≤ r.length + 1 := spl_count r []
      show (spl [46] 0 [] r).length + 1 ≤ (r.length + 1) + 1
      omega
    · rw [spl_miss (Bool.eq_false_iff.mpr p), List.length_cons]
      have := spl_count r (acc ++ [c])
      omega

theorem sorted_ex (ms : List W) : ∃ ys : List W, ys.Perm ms ∧ rises ys := by
  have h := List.pairwise_mergeSort (le := fun a b : W => !decide (b < a)) (fun a b c h1 h2 => by
    simp only [Bool.not_eq_true', decide_eq_false_iff_not] at h1 h2 ⊢
    exact nlt_trans h1 h2) (fun a b => by
    by_cases c : b < a
    · have : ¬ a < b := fun z => List.lt_asymm c z
      simp [this]
    · simp [c]) ms
  refine ⟨ms.mergeSort fun a b => !decide (b < a), List.mergeSort_perm _ _, h.imp fun {a b} z => ?_⟩
  simpa using z
theorem srt_rises (ms : List W) : rises (srt ms) := by
  obtain ⟨ys, p, r⟩ := sorted_ex ms
  rw [srt_eq p r]
  exact r
theorem srt_srt (ms : List W) : srt (srt ms) = srt ms := srt_eq (List.Perm.refl _) (srt_rises ms)
theorem srt_names {ms : List W} (h : areNames ms = true) : areNames (srt ms) = true := by
  obtain ⟨h1, h2⟩ := areNames_mem h
  unfold areNames
  rw [Bool.and_eq_true, List.all_eq_true, decide_eq_true_eq]
  exact ⟨fun m hm => h1 m ((srt_perm ms).subset hm), ((srt_perm ms).nodup_iff).mpr h2⟩
mutual
theorem sort_rows : ∀ (t : Tr) (d : Nat), (t.sortT srt).rows srt d = t.rows srt d
  | .nd k ms ks, d => by
    rw [Tr.sortT, Tr.rows, Tr.rows, srt_srt, sorts_rows ks (d + 1)]
theorem sorts_rows : ∀ (ts : Trs) (d : Nat), (ts.sortT srt).rows srt d = ts.rows srt d
  | .nil, d => by rw [Trs.sortT]
  | .cons t ts, d => by rw [Trs.sortT, Trs.rows, Trs.rows, sort_rows t d, sorts_rows ts d]
end
mutual
theorem sort_good : ∀ (t : Tr), t.wild → (t.sortT srt).good ∧ (t.sortT srt).slim
  | .nd k ms ks, h => by
    rw [Tr.wild] at h
    obtain ⟨hk, hm, h3, hf⟩ := h
    rw [Tr.sortT, Tr.good, Tr.slim]
    obtain ⟨g1, g2⟩ := sorts_good ks hf
    have := (head_wild hk hm h3).2.1
    exact ⟨⟨hk, srt_names hm, g1⟩, by omega, g2⟩
theorem sorts_good : ∀ (ts : Trs), ts.wild → (ts.sortT srt).good ∧ (ts.sortT srt).slim
  | .nil, h => by
    rw [Trs.sortT, Trs.good, Trs.slim]
    exact ⟨trivial, trivial⟩
  | .cons t ts, h => by
    rw [Trs.wild] at h
    rw [Trs.sortT, Trs.good, Trs.slim]
    obtain ⟨a1, a2⟩ := sort_good t h.1
    obtain ⟨b1, b2⟩ := sorts_good ts h.2
    exact ⟨⟨a1, b1⟩, a2, b2⟩
end
theorem wild_rows : ∀ (n : Nat) (t : Tr) (d : Nat), sz t ≤ n → t.wild → ∀ r ∈ t.rows srt d, r.1 + 1 ≤ d + sz t ∧ (headL r.2.1 r.2.2).length ≤ 35
  | 0, t, d, h, _ => absurd (sz_pos t) (by omega)
  | n + 1, .nd k ms ks, d, h, g => by
    rw [Tr.wild] at g
    obtain ⟨hk, hm, h3, hf⟩ := g
    intro r hr
    rw [rows_nd] at hr
    have hz := sz_nd k ms ks
    rcases List.mem_cons.mp hr with rfl | hr
    · exact ⟨by show d + 1 ≤ _; omega, (head_wild hk hm h3).2.1⟩
    · have : ∀ l : List Tr, (∀ x ∈ l, x ∈ ks.toL) → ∀ r ∈ flat l (d + 1), r.1 + 1 ≤ d + sz (.nd k ms ks) ∧ (headL r.2.1 r.2.2).length ≤ 35 := by
        intro l
        induction l with
        | nil =>
          intro _ r hr
          rw [flat_nil] at hr
          cases hr
        | cons x l ih =>
          intro g r hr
          rw [flat_cons] at hr
          rcases List.mem_append.mp hr with hr | hr
          · have mx := g x (List.mem_cons_self ..)
            have sk := sz_kid (k := k) (ms := ms) mx
            obtain ⟨q1, q2⟩ := wild_rows n x (d + 1) (by omega) (wild_toL.mp hf x mx) r hr
            exact ⟨by omega, q2⟩
          · exact ih (fun y hy => g y (List.mem_cons_of_mem _ hy)) r hr
      exact this ks.toL (fun x h => h) r hr
theorem wild_few {t : Tr} (g : t.wild) (h : sz t ≤ 200) : Few (t.rows srt 0) :=
  ⟨h, fun r hr => by
    obtain ⟨q1, q2⟩ := wild_rows _ t 0 (Nat.le_refl _) g r hr
    exact ⟨by omega, by omega⟩⟩
/-- what is asked of a text that is parsed -/
theorem wild_text {t : Tr} (g : t.wild) (h : sz t ≤ 200) : (tl (toS (txt t))).length ≤ 30000 ∧ (∀ ps, cutM LD SG (tl (toS (txt t))) = some ps → ∀ p ∈ ps, (spl [46] 0 [] p).length < 64) ∧ (cutM LD SG (tl (toS (txt t)))).bind (readM srt) = some (t.rows srt 0) := by
  obtain ⟨g1, g2⟩ := sort_good t g
  have ct : cutM LD SG (txt t) = some (t.sortT srt).toks := cut_text _ g1
  have rd := read_text (srt := srt) (t.sortT srt) g1
  rw [sort_rows] at rd
  refine ⟨?_, fun ps e p hp => ?_, ?_⟩
  · have := (txt_size _ t (Nat.le_refl _) g).1
    show (txt t).length ≤ 30000
    omega
  · have e : cutM LD SG (txt t) = some ps := e
    rw [ct] at e
    injection e with e
    subst e
    have := toks_slim _ g2 p hp
    have := spl_count p []
    omega
  · show (cutM LD SG (txt t)).bind (readM srt) = _
    rw [ct]
    exact rd
end K03

namespace K03
open PySem L2 DR DM TL
def kl (q : Pth) (l : List Tr) : Nat → List (Pth × Tr)
  | 0 => []
  | n + 1 => kl q l n ++ match l[n]? with
    | some t => [(q ++ [n], t)]
    | none => []
def rest (stk : List (Pth × Tr)) : List (Pth × Tr) := stk.reverse.flatMap fun x => x.2.nodes x.1
theorem kl_flat (q : Pth) (l : List Tr) : ∀ n, (kl q l n).flatMap (fun x => x.2.nodes x.1) = kn q l n
  | 0 => rfl
  | n + 1 => by
    show (kl q l n ++ _).flatMap _ = kn q l n ++ _
    rw [List.flatMap_append, kl_flat q l n]
    congr 1
    cases l[n]? with
    | none => rfl
    | some t => simp
theorem rest_pop (st : List (Pth × Tr)) (x : Pth × Tr) : rest (st ++ [x]) = x.2.nodes x.1 ++ rest st := by
  unfold rest
  rw [List.reverse_append]
  rfl
theorem rest_push (st ks : List (Pth × Tr)) : rest (st ++ ks.reverse) = ks.flatMap (fun x => x.2.nodes x.1) ++ rest st := by
  unfold rest
  rw [List.reverse_append, List.reverse_reverse, List.flatMap_append]
theorem kl_map (q : Pth) (l : List Tr) : ∀ n, n ≤ l.length → (kl q l n).map (·.1) = (List.range n).map fun j => q ++ [j]
  | 0, _ => rfl
  | n + 1, h => by
    show ((kl q l n) ++ _).map _ = _
    rw [List.map_append, kl_map q l n (by omega), List.range_succ, List.map_append, List.getElem?_eq_getElem (show n < l.length from h)]
    rfl
def dint (q : Pth) : PyData := .tuple (q.map fun (n : Nat) => PyData.int (n : Int))
theorem dps_ints {K : PySem.W.Frag} {H : Hp} : ∀ q : Pth, DpAll K H (q.map nv) (q.map fun (n : Nat) => PyData.int (n : Int))
  | [] => .nil
  | n :: q => .cons (.int _) (dps_ints q)
theorem dps_pths {K : PySem.W.Frag} {H : Hp} : ∀ {ws : List V} {qs : List Pth}, PthsAt H ws qs → DpAll K H ws (qs.map dint)
  | _, _, .nil => .nil
  | _, _, .cons ⟨a, e, h⟩ t => by
    subst e
    exact .cons (.tup (.inl (.inl h)) (dps_ints _)) (dps_pths t)
theorem lay_ints : ∀ q : Pth, PyData.canLayAll0 (q.map fun (n : Nat) => PyData.int (n : Int)) = true ∧ PyData.depthAll (q.map fun (n : Nat) => PyData.int (n : Int)) = 0
  | [] => ⟨by simp [PyData.canLayAll0], by simp [PyData.depthAll]⟩
  | n :: q => by
    obtain ⟨a, b⟩ := lay_ints q
    refine ⟨?_, ?_⟩
    · show PyData.canLayAll0 (PyData.int n :: q.map fun (n : Nat) => PyData.int (n : Int)) = true
      simp [PyData.canLayAll0, PyData.canLay0, a]
    · show PyData.depthAll (PyData.int n :: q.map fun (n : Nat) => PyData.int (n : Int)) = 0
      simp [PyData.depthAll, PyData.depth, b]
theorem lay_pths : ∀ qs : List Pth, PyData.canLayAll0 (qs.map dint) = true ∧ PyData.depthAll (qs.map dint) ≤ 1
  | [] => ⟨by simp [PyData.canLayAll0], by simp [PyData.depthAll]⟩
  | q :: qs => by
    obtain ⟨a, b⟩ := lay_pths qs
    obtain ⟨c, d⟩ := lay_ints q
    refine ⟨?_, ?_⟩
    · show PyData.canLayAll0 (dint q :: qs.map dint) = true
      simp [PyData.canLayAll0, PyData.canLay0, dint, a, c]
    · show PyData.depthAll (dint q :: qs.map dint) ≤ 1
      simp [PyData.depthAll, PyData.depth, dint, d]
      omega
theorem shaped_pths (qs : List Pth) : SeqAt.shaped (.list (qs.map dint)) = true := by
  obtain ⟨a, b⟩ := lay_pths qs
  unfold SeqAt.shaped
  simp [PyData.canLay0, PyData.depth, a]
  omega
theorem eqv_empty (qs : List Pth) : PyData.eqv (.list (qs.map dint)) (.list []) = decide (qs = []) := by
  cases qs with
  | nil => rfl
  | cons q qs => rfl
theorem prd_snoc {α β : Type} {F : α → β → Prop} : ∀ {xs : List β} {us : List α} {x : β}, Paired F us (xs ++ [x]) → ∃ us0 y, us = us0 ++ [y] ∧ Paired F us0 xs ∧ F y x
  | [], _, x, h => by
    cases h with
    | cons a b =>
      cases b
      exact ⟨[], _, rfl, .nil, a⟩
  | z :: xs, _, x, h => by
    cases h with
    | cons a b =>
      obtain ⟨us0, y, rfl, h1, h2⟩ := prd_snoc b
      exact ⟨_ :: us0, y, rfl, .cons a h1, h2⟩
theorem prd_rev {α β : Type} {F : α → β → Prop} : ∀ {us : List α} {xs : List β}, Paired F us xs → Paired F us.reverse xs.reverse
  | _, _, .nil => .nil
  | _, _, .cons a b => by
    rw [List.reverse_cons, List.reverse_cons]
    exact Paired.snoc (prd_rev b) a
def wEvery (t : Tr) (a D0 : Addr) (H : Hp) (m : Nat) (σ : L2.St) (H' : Hp) : Prop := ∃ (dn stk : List (Pth × Tr)) (D : Addr) (ws us : List V) (o3 : Option V), σ = [some (.ref a), some (.ref D0), some (.ref D), o3, none] ∧ Same H H' ∧ H D = none ∧ D ≠ D0 ∧
  H' D0 = some (.lst ws) ∧ H' D = some (.lst us) ∧ PthsAt H' ws (dn.map (·.1)) ∧ PthsAt H' us (stk.map (·.1)) ∧ t.nodes [] = dn ++ rest stk ∧ m = (rest stk).length
theorem kids_len (u : Tr) (q : Pth) : u.kids.len ≤ (u.kids.nodes q 0).length := by
  have gen : ∀ (ts : Trs) (i : Nat), ts.len ≤ (ts.nodes q i).length := fun ts => by
    intro i
    induction ts using Trs.rec (motive_1 := fun _ => True) generalizing i with
    | nd => trivial
    | nil => exact Nat.zero_le _
    | cons t ts _ ih =>
      rw [Trs.nodes, List.length_append, Trs.len]
      have h1 := ih (i + 1)
      have h2 : 1 ≤ (t.nodes (q ++ [i])).length := by
        cases t
        rw [Tr.nodes, List.length_cons]
        omega
      omega
  exact gen _ 0
theorem rest_len (st : List (Pth × Tr)) : st.length ≤ (rest st).length := by
  unfold rest
  have gen : ∀ l : List (Pth × Tr), l.length ≤ (l.flatMap fun x => x.2.nodes x.1).length := fun l => by
    induction l with
    | nil => exact Nat.le_refl _
    | cons x l ih =>
      rw [List.flatMap_cons, List.length_append, List.length_cons]
      have h2 : 1 ≤ (x.2.nodes x.1).length := by
        cases x.2
        rw [Tr.nodes, List.length_cons]
        omega
      omega
  have := gen st.reverse
  rwa [List.length_reverse] at this
abbrev sEvery : Stmt := top 35
def spEvery (C : Addr) : Sp := fun vs H Q _ => ∃ (a : Addr) (t : Tr), vs = [.ref a] ∧ DocAt C H a (t.rows srt 0) ∧ (t.nodes []).length ≤ 150 ∧ (∀ x ∈ t.nodes [], x.1.length ≤ 200) ∧
  ∀ D ws H', H D = none → Same H H' → H' D = some (.lst ws) → PthsAt H' ws ((t.nodes []).map (·.1)) → Q (.ref D) H'
section
variable {P : Program} {w : World} {K : PySem.W.Frag} {mg : Str → Option Value} {base : Heap}
theorem scEvery : FnScope ["_law_one", "_law_found", "_law_left", "_law_at_here", "_law_place"] ["_law_one"] (defScope sEvery) := ⟨rfl, rfl, rfl, by decide +kernel, rfl, by decide +kernel, by decide +kernel⟩
theorem ok_every {f C : Addr} {fd : FuncData} (F : Fun K "_law_every" "_law_every" sEvery f fd) (T : Txt mg) (D4 : C8.Met P w K mg base 5 C "width" (spWidthP C) []) : FnOk P w K mg base CX0 6 f fd ["_law_one"] (spEvery C) := by
  refine F.ok scEvery (fun vs H Q E h => ?_) (fun cdv A outer s H vs Q E hr h => ?_)
  · obtain ⟨_, _, rfl, _⟩ := h
    rfl
  · obtain ⟨a, t, rfl, dc, few, short, fin⟩ := h
    have hu := hr.units
    refine ⟨_, pss_cons (ps_par (i := 1) (j := 2) rfl scEvery.nd rfl rfl (by decide) rfl rfl (pa_cons (pe_lst pa_nil) (pa_cons (pe_lst (pa_cons (pe_tup pa_nil) pa_nil)) pa_nil)) (by rfl))
      (pss_cons (ps_while PassesOwn.never (PW.pt (pw_and (pt_cmpR (op_neD hu) (pv 2) (pe_lst pa_nil) rfl) (pw_and1 (pt_cmpR op_lt (pe_callB call_len_seq (by rfl) T.len PySem.boot_len (pa_cons (pv 1) pa_nil)) pe_int rfl))))
        (pss_cons (ps_set (i := 3) scEvery.nd rfl (Or.inr rfl) (pe_bm0 PySem.F.plainAttrs_list PySem.F.slot_list_pop PySem.F.type_list_pop mt_pop (pv 2)))
        (pss_cons (append_rule (pv 1) (pa_cons (pv 3) pa_nil))
        (pss_one (ps_set (i := 2) scEvery.nd rfl (Or.inl rfl) (pe_op op_cat (pv 2) (pe_revL (pe_lc (own := [("_law_place", 4)]) (g := gName 4) (tt := tYes) (te := tOp (rCatA K) (tVar 3) (tTup (tCons (tVar 4) tNil))) rfl scEvery.nd (pi_range1 (by rfl) T.range (pa_cons (C8.pe_mt D4 hr (Nat.le_refl _) (pv 0) (pa_cons (pv 3) pa_nil)) pa_nil))
          (blkOk_by (N := ["_law_one", "_law_found", "_law_left", "_law_at_here", "_law_place"]) (sc := defScope sEvery) (by decide +kernel)) (fun _ _ _ _ _ => pg_name (i := 4) scEvery.nd rfl (Or.inl rfl)) (fun _ _ _ _ _ => pts_nil)
          (fun _ _ _ _ _ => pe_op op_catA (pv 3) (pe_tup (pa_cons (pv 4) pa_nil)))))))))))
      (pss_one (ps_ret (pv 1)))), ?_⟩
    have B := big
    refine ⟨by show 0 ≤ sizeLine; decide, fun D0 hD0 => ⟨by show 0 ≤ sizeLine; decide, fun e he => ⟨by show 1 ≤ sizeLine; decide, fun D1 hD1 => ⟨_, _, rfl, ?_⟩⟩⟩⟩
    generalize g1 : upd H D0 _ = H1 at *
    have s1 : Same H H1 := g1 ▸ same_new hD0
    have m1 : H1 D0 = some (.lst []) := g1 ▸ upd_same
    generalize g2 : upd H1 e _ = H2 at *
    have s2 : Same H1 H2 := g2 ▸ same_new he
    have m2 : H2 e = some (.tup []) := g2 ▸ upd_same
    generalize g3 : upd H2 D1 _ = H3 at *
    have s3 : Same H2 H3 := g3 ▸ same_new hD1
    have m3 : H3 D1 = some (.lst [.ref e]) := g3 ▸ upd_same
    have s12 := s1.trans s2
    have d10 : D1 ≠ D0 := fun z => by
      rw [z, s2 _ _ m1] at hD1
      cases hD1
    refine ⟨wEvery t a D0 H, ⟨(t.nodes []).length, [], [([], t)], D1, [], [.ref e], none, rfl, s12.trans s3, s12.free hD1, d10, s3 _ _ (s2 _ _ m1), m3, .nil, .cons ⟨e, rfl, s3 _ _ m2⟩ .nil, by simp [rest], by simp [rest]⟩, ?_⟩
    rintro m σ H4 ⟨dn, stk, D, ws, us, o3, rfl, s4, nD, dd, w4, u4, wp, up, split, rfl⟩
    refine ⟨_, rfl, by show 0 ≤ sizeLine; decide, fun c hc => ?_⟩
    generalize g5 : upd H4 c _ = H5
    have s5 : Same H4 H5 := g5 ▸ same_new hc
    have m5 : H5 c = some (.lst []) := g5 ▸ upd_same
    refine ⟨.list ((stk.map (·.1)).map dint), .list [], .lst (SqL.of (s5 _ _ u4)) (dps_pths (up.same s5)), .lst (SqL.of m5) .nil, shaped_pths _, shaped_pths [], _, congrArg (fun z => V.bl (!z)) (eqv_empty _), ?_⟩
    rcases List.eq_nil_or_concat stk with e0 | ⟨st0, ⟨q, u⟩, e0⟩
    · subst e0
      refine iteF (iteF ?_)
      have : t.nodes [] = dn := by rw [split]; simp [rest]
      rw [this] at fin
      exact ⟨_, rfl, fin D0 ws _ hD0 (s4.trans s5) (s5 _ _ w4) (wp.same s5)⟩
    · rw [List.concat_eq_append] at e0
      subst e0
      rw [rest_pop] at split
      have nodeu : u.nodes q = (q, u) :: u.kids.nodes q 0 := by
        cases u
        rw [Tr.nodes]
        rfl
      have dl : dn.length < 150 := by
        have := congrArg List.length split
        rw [List.length_append, nodeu, List.cons_append, List.length_cons] at this
        omega
      have idx : (t.nodes [])[dn.length]? = some (q, u) := by
        rw [split, nodeu, List.getElem?_append_right (Nat.le_refl _), Nat.sub_self]
        rfl
      have no := node_of t _ q u idx
      have ql := short _ (List.mem_of_getElem? idx)
      have ql : q.length ≤ 200 := ql
      have wl : ws.length = dn.length := by rw [wp.length, List.length_map]
      rw [decide_eq_false (show ¬ ((st0 ++ [(q, u)]).map (·.1) = []) by simp)]
      refine iteT ⟨_, rfl, D0, ws, rfl, .inl (SqL.of (s5 _ _ w4)), _, _, rfl, rfl, _, rfl, ?_⟩
      rw [decide_eq_true (show ((ws.length : Nat) : Int) < 200 by omega)]
      refine iteT ?_
      rw [List.map_append] at up
      obtain ⟨us0, y, rfl, up0, ⟨qa, ey, hqa⟩⟩ := prd_snoc up
      subst ey
      refine ⟨fun σ' H' => wEvery t a D0 H ((u.kids.nodes q 0).length + (rest st0).length) σ' H', fun σ' H' z => ⟨_, ?_, z⟩, ?_⟩
      · rw [rest_pop, nodeu, List.length_append, List.length_cons]
        omega
      have u5 := s5 _ _ u4
      have w5 := s5 _ _ w4
      refine ⟨_, rfl, .inl ⟨rfl, _, .inl (.inl u5)⟩, D, _, .ref qa, rfl, rfl, u5, by simp, ?_⟩
      rw [List.dropLast_concat]
      generalize g6 : upd H5 D _ = H6
      have s6' : Same H H6 := g6 ▸ same_put (s4.trans s5) nD
      have u6 : H6 D = some (.lst us0) := g6 ▸ upd_same
      have w6 : H6 D0 = some (.lst ws) := g6 ▸ (upd_ne (fun z => dd z.symm) ▸ w5)
      have q6 : H6 qa = some (.tup (q.map nv)) := g6 ▸ (upd_ne (ne_of (s5 _ _ hqa) u5 (fun z => by cases z)) ▸ s5 _ _ hqa)
      have wp6 : PthsAt H6 ws (dn.map (·.1)) := g6 ▸ PthsAt.put u5 (wp.same s5)
      have up6 : PthsAt H6 us0 (st0.map (·.1)) := g6 ▸ PthsAt.put u5 (PthsAt.same s5 up0)
      refine ⟨_, rfl, .inl ⟨rfl, _, .inl (.inl w6)⟩, _, rfl, D0, _, _, rfl, rfl, w6, by omega, ?_⟩
      generalize g7 : upd H6 D0 _ = H7
      have s7' : Same H H7 := g7 ▸ same_put s6' hD0
      have u7 : H7 D = some (.lst us0) := g7 ▸ (upd_ne dd ▸ u6)
      have w7 : H7 D0 = some (.lst (ws ++ [.ref qa])) := g7 ▸ upd_same
      have q7 : H7 qa = some (.tup (q.map nv)) := g7 ▸ (upd_ne (ne_of q6 w6 (fun z => by cases z)) ▸ q6)
      have wp7 : PthsAt H7 ws (dn.map (·.1)) := g7 ▸ PthsAt.put w6 wp6
      have up7 : PthsAt H7 us0 (st0.map (·.1)) := g7 ▸ PthsAt.put w6 up6
      have dc7 := dc.same s7'
      obtain ⟨dx, _, _, _, _, _, h1, _⟩ := id dc7
      refine ⟨_, rfl, _, rfl, a, dx, _, rfl, h1, rfl, _, rfl, a, _, .ref qa, q, dn.length, rfl, dc7, ⟨qa, rfl, q7⟩, by omega, no.lt, no.place, fun H8 s8 => ?_⟩
      have kb : u.kids.len ≤ 150 := by
        have h1 := kids_len u q
        have := congrArg List.length split
        rw [List.length_append, nodeu, List.cons_append, List.length_cons, List.length_append] at this
        omega
      rw [no.kids]
      refine ⟨_, rfl, by omega, by omega, fun L hL => ?_⟩
      rw [Int.toNat_natCast]
      refine lc_it (walk_range (lo := 0) (n := u.kids.len)) (fun j H' => ∃ vs, Same H8 H' ∧ H' L = some (.lst vs) ∧ PthsAt H' vs ((List.range j).map fun j => q ++ [j])) ⟨[], same_new hL, upd_same, .nil⟩ (fun _ _ _ _ => trivial) ?_ ?_
      · rintro j x H9 HA hj ⟨vs, s6, m6, v6⟩ ⟨rfl, rfl⟩
        have z0 : (0 : Int) + ((j : Nat) : Int) = ((j : Nat) : Int) := Int.zero_add _
        show gName 4 (V.int ((0 : Int) + ((j : Nat) : Int))) _ _ _
        rw [z0]
        refine ⟨rfl, ?_⟩
        unfold tYes
        refine iteT ⟨_, rfl, _, rfl, by show 1 ≤ sizeLine; decide, fun c2 hc2 => ?_⟩
        generalize gb : upd HA c2 _ = HB
        have sB : Same HA HB := gb ▸ same_new hc2
        have mB : HB c2 = some (.tup [nv j]) := gb ▸ upd_same
        have qB := sB _ _ (s6 _ _ (s8 _ _ q7))
        refine ⟨qa, c2, _, _, rfl, rfl, .inl (.inl qB), .inl (.inl mB), ?_, fun z => ?_, fun _ z => absurd z (by simp), fun _ _ y hy => ?_⟩
        · rw [List.length_map]
          show _ + 1 ≤ _
          omega
        · have q0 : q = [] := List.map_eq_nil_iff.mp z
          have mc : HB c2 = some (.tup ((q ++ [j]).map nv)) := by
            rw [mB, q0]
            rfl
          have sx := s6.trans sB
          refine ⟨_, sB _ _ m6, ?_, vs ++ [.ref c2], same_put sx hL, upd_same, ?_⟩
          · rw [v6.length, List.length_map, List.length_range]
            omega
          · rw [List.range_succ, List.map_append]
            exact PthsAt.put (sB _ _ m6) (Paired.snoc (v6.same sB) ⟨c2, rfl, mc⟩)
        · generalize gy : upd HB y _ = HC
          have sC : Same HA HC := sB.trans (gy ▸ same_new hy)
          have md : HC y = some (.tup ((q ++ [j]).map nv)) := gy ▸ (upd_same.trans (by rw [List.map_append]; rfl))
          have sx := s6.trans sC
          refine ⟨_, sC _ _ m6, ?_, vs ++ [.ref y], same_put sx hL, upd_same, ?_⟩
          · rw [v6.length, List.length_map, List.length_range]
            omega
          · rw [List.range_succ, List.map_append]
            exact PthsAt.put (sC _ _ m6) (Paired.snoc (v6.same sC) ⟨y, rfl, md⟩)
      · rintro H9 ⟨vs, s9, m9, v9⟩
        have s79 := s8.trans s9
        refine ⟨L, vs, rfl, SqL.of m9, fun R hR => ?_⟩
        generalize gr : upd H9 R _ = HA
        have sA : Same H9 HA := gr ▸ same_new hR
        have mA : HA R = some (.lst vs.reverse) := gr ▸ upd_same
        have uA := sA _ _ (s79 _ _ u7)
        have s7A := s79.trans sA
        have sl : us0.length + vs.reverse.length ≤ 400 := by
          have h1 := rest_len st0
          have := congrArg List.length split
          rw [List.length_append, nodeu, List.cons_append, List.length_cons, List.length_append] at this
          rw [up7.length, List.length_map, List.length_reverse, v9.length, List.length_map, List.length_range]
          omega
        refine ⟨D, R, us0, vs.reverse, rfl, rfl, uA, mA, by omega, fun E hE => ?_⟩
        have sE : Same HA (upd HA E (.lst (us0 ++ vs.reverse))) := same_new hE
        have s7E := s7A.trans sE
        have ks := kids_nodes q u.kids
        refine ⟨dn ++ [(q, u)], st0 ++ (kl q u.kids.toL u.kids.toL.length).reverse, E, ws ++ [.ref qa], us0 ++ vs.reverse, _, rfl, s7'.trans s7E, (s7'.trans s7A).free hE, fun z => ?_, s7E _ _ w7, upd_same, ?_, ?_, ?_, ?_⟩
        · rw [z, s7A _ _ w7] at hE
          cases hE
        · rw [List.map_append]
          exact Paired.snoc (wp7.same s7E) ⟨qa, rfl, s7E _ _ q7⟩
        · rw [List.map_append, List.map_reverse, kl_map q _ _ (Nat.le_refl _), toL_len]
          exact paired_append (up7.same s7E) (prd_rev ((v9.same sA).same sE))
        · rw [rest_push, kl_flat, ← ks, List.append_assoc]
          rw [split, nodeu]
          rfl
        · rw [rest_push, kl_flat, ← ks, List.length_append]
end
end K03

namespace K03
open PySem L2 DR DM TL
theorem wild_nd {k : W} {ms : List W} {ks : Trs} : (Tr.nd k ms ks).wild ↔ isName k = true ∧ areNames ms = true ∧ ms.length ≤ 3 ∧ ∀ t ∈ ks.toL, t.wild := by
  rw [Tr.wild, wild_toL]
theorem at_wild : ∀ (q : Pth) (t u : Tr), t.wild → t.at_ q = some u → u.wild
  | [], t, u, g, h => by
    rw [at_nil] at h
    exact Option.some.inj h ▸ g
  | i :: q, .nd k ms ks, u, g, h => by
    rw [Tr.at_] at h
    cases e : ks.toL[i]? with
    | none =>
      rw [e] at h
      cases h
    | some s =>
      rw [e] at h
      exact at_wild q s u ((wild_nd.mp g).2.2.2 s (List.mem_of_getElem? e)) h
theorem put_wild : ∀ (q : Pth) (t u x : Tr), t.wild → t.at_ q = some u → x.wild → (put t q x).wild
  | [], t, u, x, _, _, gx => by
    rw [put]
    exact gx
  | i :: q, .nd k ms ks, u, x, g, h, gx => by
    rw [Tr.at_] at h
    cases e : ks.toL[i]? with
    | none =>
      rw [e] at h
      cases h
    | some s =>
      rw [e] at h
      obtain ⟨g1, g2, g3, g4⟩ := wild_nd.mp g
      have gs := put_wild q s u x (g4 s (List.mem_of_getElem? e)) h gx
      rw [put, e]
      refine wild_nd.mpr ⟨g1, g2, g3, fun y hy => ?_⟩
      rw [toL_ofL] at hy
      rcases List.mem_or_eq_of_mem_set hy with hy | rfl
      · exact g4 y hy
      · exact gs
theorem put_size {t u x : Tr} {q : Pth} (h : t.at_ q = some u) : sz (put t q x) + sz u = sz t + sz x := by
  obtain ⟨pre, post, h1, h2, _, _⟩ := place_of h
  have l1 := congrArg List.length h1
  have l2 := congrArg List.length (h2 x)
  rw [List.length_append, List.length_append, rows_length u] at l1
  rw [List.length_append, List.length_append, rows_length x] at l2
  unfold sz
  omega
theorem fits_wild {Ks Ms : List W} (gk : ∀ k ∈ Ks, isName k = true) (gm : areNames Ms = true) (l : Ms.length ≤ 3) : ∀ (n : Nat) (t : Tr) (d : Nat), sz t ≤ n → t.fits Ks Ms d → t.wild
  | 0, t, d, h, _ => absurd (sz_pos t) (by omega)
  | n + 1, .nd k ms ks, d, h, f => by
    rw [Tr.fits] at f
    obtain ⟨hk, hm, _, _, hf⟩ := f
    obtain ⟨m1, m2⟩ := areNames_mem gm
    refine wild_nd.mpr ⟨gk k hk, ?_, Nat.le_trans hm.length_le l, fun t ht => fits_wild gk gm l n t (d - 1) (by have := sz_kid (k := k) (ms := ms) ht; omega) (fits_to hf t ht)⟩
    unfold areNames
    rw [Bool.and_eq_true, List.all_eq_true, decide_eq_true_eq]
    exact ⟨fun m hm' => m1 m (hm.subset hm'), m2.sublist hm⟩
theorem fits_size {Ks Ms : List W} {d : Nat} {t : Tr} (f : t.fits Ks Ms d) : sz t ≤ nb d := by
  have := nodes_le d t f []
  rw [nodes_len t [] 0] at this
  exact this
def KS2 : List W := [tl "a", tl "item"]
def MS2 : List W := [tl "hot", tl "z"]
abbrev sEdit : Stmt := top 34
theorem nodup_mid {a b : List Addr} {x : Addr} (h : (a ++ x :: b).Nodup) : x ∉ a ++ b := fun m => by
  obtain ⟨_, h2, h3⟩ := List.nodup_append.mp h
  rcases List.mem_append.mp m with m | m
  · exact h3 x m x (List.mem_cons_self ..) rfl
  · exact (List.nodup_cons.mp h2).1 m
theorem shaped_pth (q : Pth) : SeqAt.shaped (dint q) = true := by
  obtain ⟨c, d⟩ := lay_ints q
  unfold SeqAt.shaped dint
  simp [PyData.canLay0, PyData.depth, c, d]
theorem eqv_pth (q : Pth) : PyData.eqv (dint q) (.tuple []) = decide (q = []) := by
  cases q with
  | nil => rfl
  | cons a q => rfl
theorem cut_last (q : Pth) : cutV (q.map nv) none (some (-1)) = q.dropLast.map nv := by
  unfold cutV
  rw [HT.sIx_none, List.drop_zero, List.length_map]
  show (q.map nv).take ((-1 + (q.length : Int)).toNat - 0) = _
  rw [List.dropLast_eq_take, List.map_take]
  congr 1
  omega
theorem snoc_of {q : Pth} (h : q ≠ []) : ∃ qp j, q = qp ++ [j] ∧ q.dropLast = qp := ⟨q.dropLast, q.getLast h, (List.dropLast_concat_getLast h).symm, rfl⟩
theorem at_one {k : W} {ms : List W} {ks : Trs} {j : Nat} {u : Tr} (h : (Tr.nd k ms ks).at_ [j] = some u) : ks.toL[j]? = some u := by
  rw [Tr.at_] at h
  cases e : ks.toL[j]? with
  | none =>
    rw [e] at h
    cases h
  | some s =>
    rw [e] at h
    have h : s.at_ [] = some u := h
    rw [at_nil] at h
    rw [Option.some.inj h]
theorem at_split : ∀ (qp : Pth) (t u : Tr) (j : Nat), t.at_ (qp ++ [j]) = some u → ∃ s, t.at_ qp = some s
  | qp, t, u, j, h => by
    obtain ⟨x, hx⟩ := at_take (qp ++ [j]) qp.length t u h
    rw [List.take_left] at hx
    exact ⟨x, hx⟩
def MS3 : List W := [tl "z", tl "new", tl "hot"]
theorem names_sub3 {ws : List W} (h : ws.Sublist MS3) : areNames ws = true := by
  obtain ⟨m1, m2⟩ := areNames_mem (show areNames MS3 = true by decide +kernel)
  unfold areNames
  rw [Bool.and_eq_true, List.all_eq_true, decide_eq_true_eq]
  exact ⟨fun m hm => m1 m (h.subset hm), m2.sublist h⟩
theorem swap_mem {L B R : List Addr} {a m b D c : Addr} (h : c ∈ L ++ a :: D :: b :: B ++ R) : c ∈ L ++ a :: m :: b :: B ++ R ∨ c = D := by
  simp only [List.mem_append, List.mem_cons] at h ⊢
  rcases h with (h | h | h | h | h) | h
  · exact .inl (.inl (.inl h))
  · exact .inl (.inl (.inr (.inl h)))
  · exact .inr h
  · exact .inl (.inl (.inr (.inr (.inr (.inl h)))))
  · exact .inl (.inl (.inr (.inr (.inr (.inr h)))))
  · exact .inl (.inr h)
theorem nodup_swap {L B R : List Addr} {a m b D : Addr} (h : (L ++ a :: m :: b :: B ++ R).Nodup) (n : D ∉ L ++ a :: m :: b :: B ++ R) : (L ++ a :: D :: b :: B ++ R).Nodup := by
  have p1 : (L ++ a :: D :: b :: B ++ R).Perm (D :: (L ++ a :: b :: B ++ R)) := by
    refine List.perm_iff_count.mpr fun c => ?_
    show (L ++ ([a] ++ ([D] ++ ([b] ++ B))) ++ R).count c = ([D] ++ (L ++ ([a] ++ ([b] ++ B)) ++ R)).count c
    simp only [List.count_append]
    omega
  have s : List.Sublist (L ++ a :: b :: B ++ R) (L ++ a :: m :: b :: B ++ R) :=
    List.Sublist.append (List.Sublist.append (List.Sublist.refl _) ((List.sublist_cons_self m _).cons₂ a)) (List.Sublist.refl _)
  exact p1.nodup_iff.mpr (List.nodup_cons.mpr ⟨fun z => n (s.subset z), h.sublist s⟩)
/-- what is no list stays -/
def Keep (H H' : Hp) : Prop := ∀ c o, H c = some o → (∀ xs, o ≠ .lst xs) → H' c = some o
theorem Keep.same {H H' : Hp} (s : Same H H') : Keep H H' := fun c o e _ => s c o e
theorem Keep.trans {H H1 H2 : Hp} (a : Keep H H1) (b : Keep H1 H2) : Keep H H2 := fun c o e n => b c o (a c o e n) n
theorem Keep.put {H : Hp} {k : Addr} {xs : List V} {o : HO} (h : H k = some (.lst xs)) : Keep H (upd H k o) := fun c u e n => by
  rw [upd_ne (fun z => by rw [z, h] at e; injection e with e; exact n xs e.symm)]
  exact e
theorem PthAt.keep {H H' : Hp} {v : V} {q : Pth} (k : Keep H H') (h : PthAt H v q) : PthAt H' v q :=
  let ⟨a, e, h1⟩ := h
  ⟨a, e, k _ _ h1 fun xs z => nomatch z⟩
theorem PthsAt.keep {H H' : Hp} {ws : List V} {qs : List Pth} (k : Keep H H') (h : PthsAt H ws qs) : PthsAt H' ws qs := Paired.mapP h fun _ _ q => q.keep k
theorem RowsAt.keep {H H' : Hp} {us : List V} {rs : List Row} (k : Keep H H') (h : RowsAt H us rs) : RowsAt H' us rs := Paired.mapP h fun _ _ ⟨a, m, e, h1, h2⟩ => ⟨a, m, e, k _ _ h1 (fun xs z => nomatch z), k _ _ h2 fun xs z => nomatch z⟩
theorem DocAt.keep {C a : Addr} {H H' : Hp} {rs : List Row} (k : Keep H H') (h : DocAt C H a rs) : DocAt C H' a rs :=
  let ⟨dx, r, p, d, us, ws, h1, h2, h3, h4, h5, h6, h7⟩ := h
  ⟨dx, r, p, d, us, ws, k _ _ h1 (fun xs z => nomatch z), k _ _ h2 (fun xs z => nomatch z), h3.keep k, k _ _ h4 (fun xs z => nomatch z), h5.keep k, k _ _ h6 (fun xs z => nomatch z), h7⟩
/-- all that the law knows of its tree -/
structure Own (H : Hp) (p : Addr) (A : List Addr) (v : V) (t : Tr) : Prop where
  tree : TreeAt H A v t
  nodup : A.Nodup
  pool : p ∉ A
  wild : t.wild
def spEdit (C : Addr) : Sp := fun vs H Q _ => ∃ (p dd : Addr) (v : V) (a b : Int) (t : Tr) (A : List Addr), vs = [.ref p, .ref dd, v] ∧ Pool H p a b ∧ Own H p A v t ∧ sz t ≤ 90 ∧ DocAt C H dd (t.rows srt 0) ∧
  ∀ (y : Addr) (t' : Tr) (A' : List Addr) (a' b' : Int) (H' : Hp), (∀ c o, c ≠ p → c ∉ A → H c = some o → H' c = some o) → Pool H' p a' b' → Own H' p A' v t' → (∀ c ∈ A', c ∈ A ∨ H c = none) → sz t' ≤ sz t + 4 → DocAt C H' y (t'.rows srt 0) → Q (.ref y) H'
structure EDefs (P : Program) (w : World) (K : PySem.W.Frag) (mg : Str → Option Value) (base : Heap) (C : Addr) : Prop where
  take : Has P w K mg base 1 "_law_take" ["_law_pool_here", "_law_many"] spTake
  node : Has P w K mg base 3 "_law_node" ["_law_pool_here", "_law_depth", "_law_kinds", "_law_marks_here"] (spNode KS2 MS2 1)
  text : Has P w K mg base 102 "_law_text" ["_law_node_here"] (spTextW 100)
  paths : Has P w K mg base 102 "_law_paths" ["_law_node_here", "_law_path_here"] (spPathsW 100)
  at_ : Has P w K mg base 1 "_law_at" ["_law_node_here", "_law_path_here"] spAtW
  copy : Has P w K mg base 102 "_law_copy" ["_law_node_here"] (spCopy 100)
  parse : Has P w K mg base 5 "parse_document" ["text"] (spParse C)
  cls : Cls K C
  ins : ∃ f fd, Meth K C "inserted" f ∧ FnOk P w K mg base CX0 5 f fd ["self", "path", "index", "part"] (spInserted K C) ∧ ∀ (s : Shared) (a u v v2 : Value), BindsTo s fd ⟨[a, u], [("part", v), ("index", v2)]⟩ ((["self", "path", "index", "part"] : List Str).zip [a, u, v2, v])
  rem : ∃ f fd, Meth K C "removed" f ∧ FnOk P w K mg base CX0 5 f fd ["self", "path"] (spRemoved C) ∧ ∀ (s : Shared) (a v : Value), BindsTo s fd ⟨[a], [("path", v)]⟩ ((["self", "path"] : List Str).zip [a, v])
  ren : ∃ f fd, Meth K C "renamed" f ∧ FnOk P w K mg base CX0 5 f fd ["self", "path", "kind"] (spRenamed C) ∧ ∀ (s : Shared) (a u v : Value), BindsTo s fd ⟨[a, u], [("kind", v)]⟩ ((["self", "path", "kind"] : List Str).zip [a, u, v])
  mar : ∃ f fd, Meth K C "marked" f ∧ FnOk P w K mg base CX0 5 f fd ["self", "path", "marks"] (spMarked C) ∧ ∀ (s : Shared) (a u v : Value), BindsTo s fd ⟨[a, u], [("marks", v)]⟩ ((["self", "path", "marks"] : List Str).zip [a, u, v])
section
variable {P : Program} {w : World} {K : PySem.W.Frag} {mg : Str → Option Value} {base : Heap}
theorem scEdit : FnScope ["_law_pool_here", "_law_document", "_law_node_here", "_law_paths_here", "_law_path_here", "_law_one", "_law_way", "_law_part_here", "_law_index_here", "_law_mark"] ["_law_pool_here", "_law_document", "_law_node_here"] (defScope sEdit) := ⟨rfl, rfl, rfl, by decide +kernel, rfl, by decide +kernel, by decide +kernel⟩
theorem ok_edit {f C : Addr} {fd : FuncData} (F : Fun K "_law_edit" "_law_edit" sEdit f fd) (T : Txt mg) (D : EDefs P w K mg base C) : FnOk P w K mg base CX0 103 f fd ["_law_pool_here", "_law_document", "_law_node_here"] (spEdit C) := by
  obtain ⟨fT, fdT, GT, mT, kT, bT⟩ := D.take
  obtain ⟨fN, fdN, GN, mN, kN, bN⟩ := D.node
  obtain ⟨fX, fdX, GX, mX, kX, bX⟩ := D.text
  obtain ⟨fP, fdP, GP, mP, kP, bP⟩ := D.paths
  obtain ⟨fA, fdA, GA, mA, kA, bA⟩ := D.at_
  obtain ⟨fC, fdC, GC, mC, kC, bC⟩ := D.copy
  obtain ⟨fD, fdD, GD, mD, kD, bD⟩ := D.parse
  obtain ⟨f1, fd1, M1, G1, b1⟩ := D.ins
  obtain ⟨f2, fd2, M2, G2, b2⟩ := D.rem
  obtain ⟨f3, fd3, M3, G3, b3⟩ := D.ren
  obtain ⟨f4, fd4, M4, G4, b4⟩ := D.mar
  refine F.ok scEdit (fun vs H Q E h => ?_) (fun cdv A0 outer s H vs Q E hr h => ?_)
  · obtain ⟨_, _, _, _, _, _, _, rfl, _⟩ := h
    rfl
  · obtain ⟨p, dd, v, pa, pb, t, A, rfl, hp, own, small, dc, fin⟩ := h
    have hu := hr.units
    have hr1 : Room 1 _ := hr.mono (by decide)
    have hr3 : Room 3 _ := hr.mono (by decide)
    have hr5 : Room 5 _ := hr.mono (by decide)
    refine ⟨_, pss_cons (ps_set (i := 3) scEdit.nd rfl (Or.inl rfl) (pe_call GP hr (by rfl) mP kP bP .nil pass0 (pa_cons (pv 2) (pa_cons (pe_tup pa_nil) pa_nil))))
      (pss_cons (ps_set (i := 4) scEdit.nd rfl (Or.inl rfl) (pe_ix ix_list (pv 3) (pe_call GT hr1 (by rfl) mT kT bT .nil pass0 (pa_cons (pv 0) (pa_cons (pe_callB call_len_seq (by rfl) T.len PySem.boot_len (pa_cons (pv 3) pa_nil)) pa_nil))) (fun _ _ => rfl)))
      (pss_cons (ps_par (i := 5) (j := 6) (by rfl) scEdit.nd rfl rfl (by decide) rfl rfl (pa_cons (pe_call GA hr1 (by rfl) mA kA bA .nil pass0 (pa_cons (pv 2) (pa_cons (pv 4) pa_nil))) (pa_cons (pe_call GT hr1 (by rfl) mT kT bT .nil pass0 (pa_cons (pv 0) (pa_cons pe_int pa_nil))) pa_nil)) (by rfl))
      (pss_cons (ps_if (pt_cmpR op_lt (pv 6) pe_int (nomark _))
        (pss_cons (ps_par (i := 7) (j := 8) (by rfl) scEdit.nd rfl rfl (by decide) rfl rfl (pa_cons (pe_call GN hr3 (by rfl) mN kN bN .nil pass0 (pa_cons (pv 0) (pa_cons pe_int (pa_cons (pe_lst (pa_cons pe_str (pa_cons pe_str pa_nil))) (pa_cons (pe_lst (pa_cons pe_str (pa_cons pe_str pa_nil))) pa_nil)))))
            (pa_cons (pe_call GT hr1 (by rfl) mT kT bT .nil pass0 (pa_cons (pv 0) (pa_cons (pe_op op_add (pe_callB call_len_seq (by rfl) T.len PySem.boot_len (pa_cons (pe_ix ix_list (pv 5) pe_int (fun _ _ => rfl)) pa_nil)) pe_int) pa_nil))) pa_nil)) (by rfl))
        (pss_cons (ps_expr (pe_bm PySem.F.plainAttrs_list PySem.F.slot_list_insert PySem.F.type_list_insert mt_insert (pe_ix ix_list (pv 5) pe_int (fun _ _ => rfl)) (pa_cons (pv 8) (pa_cons (pe_call GC hr (by rfl) mC kC bC .nil pass0 (pa_cons (pv 7) pa_nil)) pa_nil))))
        (pss_one (ps_ret (pe_meth12 (pv 1) D.cls M1 G1 hr5 b1 pass0 (pv 4) (pe_call GD hr5 (by rfl) mD kD bD .nil pass0 (pa_cons (pe_call GX hr (by rfl) mX kX bX .nil pass0 (pa_cons (pv 7) pa_nil)) pa_nil)) (pv 8)))))) pss_nil)
      (pss_cons (ps_if (PW.pt (pw_and (pt_cmpR op_eq (pv 6) pe_int (nomark _)) (pw_and1 (pt_cmpR (op_neD hu) (pv 4) (pe_tup pa_nil) (nomark _)))))
        (pss_cons (ps_expr (pe_bm PySem.F.plainAttrs_list PySem.F.slot_list_pop PySem.F.type_list_pop mt_popAt (pe_ix ix_list (pe_call GA hr1 (by rfl) mA kA bA .nil pass0 (pa_cons (pv 2) (pa_cons (pe_slice sl_U (pv 4) po_none (po_some (pe_un un_neg pe_int))) pa_nil))) pe_int (fun _ _ => rfl)) (pa_cons (pe_ix ix_tup (pv 4) (pe_un un_neg pe_int) (fun _ _ => rfl)) pa_nil)))
        (pss_one (ps_ret (pe_methK1 rfl (pv 1) D.cls M2 G2 hr5 b2 pass0 (pv 4))))) pss_nil)
      (pss_cons (ps_if (pt_cmpR op_eq (pv 6) pe_int (nomark _))
        (pss_cons (ps_asg (pe_ix ix_list (pe_lst (pa_cons pe_str (pa_cons pe_str pa_nil))) (pe_call GT hr1 (by rfl) mT kT bT .nil pass0 (pa_cons (pv 0) (pa_cons pe_int pa_nil))) (fun _ _ => rfl)) (pg_sub (pv 5) pe_int set_list))
        (pss_one (ps_ret (pe_meth11 (pv 1) D.cls M3 G3 hr5 b3 pass0 (pv 4) (pe_ix ix_list (pv 5) pe_int (fun _ _ => rfl)))))) pss_nil)
      (pss_cons (ps_asg (pe_lc (own := [("_law_mark", 9)]) (g := gName 9) (tt := tTest (tOp rEq (tCall spTake [] E0 (tCons (tVar 0) (tCons (tC (.int 2)) tNil))) (tC (.int 0)))) rfl scEdit.nd (pi_list (pe_lst (pa_cons pe_str (pa_cons pe_str (pa_cons pe_str pa_nil)))))
          (blkOk_by (N := ["_law_pool_here", "_law_document", "_law_node_here", "_law_paths_here", "_law_path_here", "_law_one", "_law_way", "_law_part_here", "_law_index_here", "_law_mark"]) (sc := defScope sEdit) (by decide +kernel)) (fun _ _ _ _ _ => pg_name (i := 9) scEdit.nd rfl (Or.inl rfl))
          (fun _ _ _ _ _ => pts_one (pt_cmpR op_eq (pe_call GT hr1 (by rfl) mT kT bT .nil pass0 (pa_cons (pv 0) (pa_cons pe_int pa_nil))) pe_int rfl)) (fun _ _ _ _ _ => pv 9)) (pg_sub (pv 5) pe_int set_list))
      (pss_one (ps_ret (pe_meth11 (pv 1) D.cls M4 G4 hr5 b4 pass0 (pv 4) (pe_ix ix_list (pe_lst (pa_cons (pe_callTy call_list_of (by rfl) T.list (by decide +kernel) (pa_cons (pe_ix ix_list (pv 5) pe_int (fun _ _ => rfl)) pa_nil))
          (pa_cons (pe_callTy call_tuple_of (by rfl) T.tuple (by decide +kernel) (pa_cons (pe_ix ix_list (pv 5) pe_int (fun _ _ => rfl)) pa_nil)) pa_nil))) (pe_call GT hr1 (by rfl) mT kT bT .nil pass0 (pa_cons (pv 0) (pa_cons pe_int pa_nil))) (fun _ _ => rfl))))))))))), ?_⟩
    have B := big
    refine ⟨_, rfl, by show 0 ≤ sizeLine; decide, fun e he => ?_⟩
    generalize g1 : upd H e _ = H1
    have s1 : Same H H1 := g1 ▸ same_new he
    have m1 : H1 e = some (.tup []) := g1 ▸ upd_same
    clear g1
    have nl : (t.nodes []).length = sz t := nodes_len t [] 0
    refine ⟨v, .ref e, t, (· ∈ A), [], rfl, NodeAt.same s1 (TreeAt.node t A v own.tree fun c hc => hc), by omega, ⟨e, rfl, m1⟩, by show 0 + 100 ≤ 150; decide, fun PD pw H2 n2 s2 m2 pw2 => ?_⟩
    have s12 := s1.trans s2
    have p2 : Pool H2 p pa pb := ⟨s12 _ _ hp.1, hp.2⟩
    have pwl : pw.length = sz t := by
      rw [pw2.length, List.length_map, nl]
    have szp := sz_pos t
    refine ⟨_, rfl, _, rfl, _, rfl, PD, _, rfl, .inl (SqL.of m2), p, _, pa, pb, rfl, p2, by omega, by omega, fun ii a3 b3 i0 i1 q1 q2 q3 => ?_⟩
    obtain ⟨i, rfl⟩ : ∃ i : Nat, ii = (i : Int) := ⟨ii.toNat, by omega⟩
    generalize g3 : upd H2 p _ = H3
    have k23 : Keep H2 H3 := g3 ▸ Keep.put p2.1
    have o3 : Off p H H3 := fun c o n z => by rw [← g3, upd_ne n]; exact s12 _ _ z
    have p3 : Pool H3 p a3 b3 := ⟨g3 ▸ upd_same, q1, q2, q3⟩
    have m3 : H3 PD = some (.lst pw) := by
      rw [← g3, upd_ne (fun z => by rw [z] at n2; exact p2.at_ (by rw [s1 _ _ hp.1] at n2; cases n2))]
      exact m2
    clear g3
    have il : i < (t.nodes []).length := by omega
    obtain ⟨⟨q, u⟩, hn⟩ : ∃ x, (t.nodes [])[i]? = some x := ⟨_, List.getElem?_eq_getElem il⟩
    obtain ⟨x, hx, px⟩ := prd_get2 pw2 (i := i) (r := q) (by rw [List.getElem?_map, hn]; rfl)
    have px3 : PthAt H3 x q := px.keep k23
    obtain ⟨r, er, hat⟩ := nodes_at t [] (q, u) (List.mem_of_getElem? hn)
    have er : q = r := er
    subst er
    have hat : t.at_ q = some u := hat
    have ql : q.length ≤ 200 := by
      have no := node_of t i q u hn
      have := (wild_few own.wild (by omega)).2 _ (List.mem_of_getElem? (by
        have lt := no.lt
        rw [List.getElem?_eq_getElem lt]) : (t.rows srt 0)[i]'(node_of t i q u hn).lt ∈ t.rows srt 0)
      have e := no.row
      rw [List.getD_eq_getElem?_getD, List.getElem?_eq_getElem no.lt] at e
      have e : (t.rows srt 0)[i]'(node_of t i q u hn).lt = (q.length, u.kind, srt u.marks) := e
      rw [e] at this
      exact this.1
    have tree3 : TreeAt H3 A v t := own.tree.move t A v fun c hc w z => o3 c w (fun z => own.pool (z ▸ hc)) z
    obtain ⟨y, L, Au, R, rfl, loc, hu3, back⟩ := zip_at q t u A v tree3 hat
    have gw := at_wild q t u own.wild hat
    have dc3 : DocAt C H3 dd (t.rows srt 0) := (dc.same s12).keep k23
    refine ⟨PD, _, _, _, rfl, rfl, SqL.of m3, atI_nat hx, _, rfl, _, rfl, v, x, y, q, rfl, px3, loc, _, rfl, p, 5, a3, b3, rfl, p3, by decide, by decide, fun wi a4 b4 w0 w1 r1 r2 r3 => ⟨_, _, rfl, ?_⟩⟩
    generalize g4 : upd H3 p _ = H4
    have k34 : Keep H3 H4 := g4 ▸ Keep.put p3.1
    have o34 : Off p H3 H4 := fun c o n z => by rw [← g4, upd_ne n]; exact z
    have o4 : Off p H H4 := o3.trans o34
    have p4 : Pool H4 p a4 b4 := ⟨g4 ▸ upd_same, r1, r2, r3⟩
    clear g4
    have dc4 := dc3.keep k34
    have px4 := px3.keep k34
    have np : ∀ {c}, c ∈ L ++ Au ++ R → c ≠ p := fun hc z => own.pool (z ▸ hc)
    have hu4 : TreeAt H4 Au y u := hu3.move u Au y fun c hc w z => o34 c w (np (by simp [hc])) z
    cases u with
    | nd k ms ks =>
    rw [TreeAt] at hu4
    obtain ⟨a1, m1', b1', vs1, B1, rfl, rfl, h1, h2, h3, h4⟩ := hu4
    have na1 : a1 ≠ p := np (by simp)
    have nm1 : m1' ≠ p := np (by simp)
    have nb1 : b1' ≠ p := np (by simp)
    have vl : vs1.length = ks.toL.length := (nodes_to (TreesAt.node (N := fun _ => True) ks B1 vs1 h4 fun _ _ => trivial)).length
    have usz : sz (.nd k ms ks) ≤ sz t := by
      obtain ⟨pre, post, e1, _⟩ := place_of hat
      have := congrArg List.length e1
      rw [List.length_append, List.length_append, rows_length (Tr.nd k ms ks) q.length] at this
      unfold sz
      omega
    have kl : ks.toL.length + 1 ≤ sz (.nd k ms ks) := by
      have := flat_len ks.toL
      rw [sz_nd]
      omega
    obtain ⟨dx0, _, _, _, _, _, hd0, _⟩ := id dc4
    refine ⟨_, rfl, _, _, rfl, rfl, _, rfl, ?_⟩
    refine ite2 (fun c1 => ?_) (fun c1 => ?_)
    · -- a part inserted
      refine ⟨_, rfl, by show 2 ≤ sizeLine; decide, fun ka hka => ?_⟩
      generalize g5 : upd H4 ka _ = H5
      have s5 : Same H4 H5 := g5 ▸ same_new hka
      have k5 : H5 ka = some (.lst (KS2.map sv)) := g5 ▸ upd_same
      clear g5
      refine ⟨by show 2 ≤ sizeLine; decide, fun ma hma => ?_⟩
      generalize g6 : upd H5 ma _ = H6
      have s6 : Same H5 H6 := g6 ▸ same_new hma
      have k6 : H6 ma = some (.lst (MS2.map sv)) := g6 ▸ upd_same
      clear g6
      have s46 := s5.trans s6
      have p6 : Pool H6 p a4 b4 := ⟨s46 _ _ p4.1, p4.2⟩
      refine ⟨p, ka, ma, a4, b4, rfl, p6, s6 _ _ k5, k6, fun vp tp H7 a7 b7 o67 p7 ndp ftp => ?_⟩
      have o47 : Off p H4 H7 := fun c o n z => o67 c o n (s46 _ _ z)
      have k47 : Keep H4 H7 := fun c o z n => o47 c o (fun zp => by rw [zp, p4.1] at z; injection z with z; exact n _ z.symm) z
      have h3_7 := o47 _ _ nb1 h3
      refine ⟨_, rfl, _, rfl, a1, _, 2, _, rfl, rfl, SqL.of (o47 _ _ na1 h1), atI_nat (j := 2) rfl, b1', _, rfl, .inl (SqL.of h3_7), _, _, rfl, rfl, p, _, a7, b7, rfl, p7, by omega, by omega, fun ji a8 b8 j0 j1 t1 t2 t3 => ⟨_, _, rfl, ?_⟩⟩
      obtain ⟨j, rfl⟩ : ∃ j : Nat, ji = (j : Int) := ⟨ji.toNat, by omega⟩
      generalize g8 : upd H7 p _ = H8
      have k78 : Keep H7 H8 := g8 ▸ Keep.put p7.1
      have o78 : Off p H7 H8 := fun c o n z => by rw [← g8, upd_ne n]; exact z
      have p8 : Pool H8 p a8 b8 := ⟨g8 ▸ upd_same, t1, t2, t3⟩
      clear g8
      have o48 := o47.trans o78
      have npN : ∀ {c}, H6 c = none → c ≠ p := fun hc z => by rw [z, p6.1] at hc; cases hc
      have ndp8 : NodeAt (fun c => H6 c = none) H8 vp tp := NodeAt.move (fun _ h => h) (fun c w n z => o78 c w (npN n) z) tp vp ndp
      have gp : tp.wild := fits_wild (by decide +kernel) (by decide +kernel) (by decide) _ tp 1 (Nat.le_refl _) ftp
      have sp4 : sz tp ≤ 4 := Nat.le_trans (fits_size ftp) (by decide)
      have jl : j ≤ ks.toL.length := by omega
      refine ⟨_, rfl, a1, _, 2, _, rfl, rfl, SqL.of (o48 _ _ na1 h1), atI_nat (j := 2) rfl, .inl ⟨rfl, _, SqL.of (o48 _ _ nb1 h3)⟩, _, rfl, _, rfl, vp, tp, _, rfl, ndp8, by omega, fun yc Ac H9 s9 fr9 nd9 ta9 => ?_⟩
      refine ⟨b1', vs1, _, yc, rfl, rfl, s9 _ _ (o48 _ _ nb1 h3), by omega, by omega, by omega, ?_⟩
      generalize g10 : upd H9 b1' _ = H10
      have m10 : H10 b1' = some (.lst (vs1.take j ++ [yc] ++ vs1.drop j)) := g10 ▸ upd_same
      have q10 : ∀ c o, c ≠ b1' → H9 c = some o → H10 c = some o := fun c o n z => by rw [← g10, upd_ne n]; exact z
      have k910 : Keep H9 H10 := g10 ▸ Keep.put (s9 _ _ (o48 _ _ nb1 h3))
      clear g10
      have dc10 : DocAt C H10 dd (t.rows srt 0) := (((dc4.keep k47).keep k78).same s9).keep k910
      have px10 : PthAt H10 x q := (((px4.keep k47).keep k78).keep (Keep.same s9)).keep k910
      have nbN : ∀ {c}, H6 c = none → c ≠ b1' := fun hc z => by rw [z, s46 _ _ h3] at hc; cases hc
      have ndp10 : NodeAt (fun c => H6 c = none) H10 vp tp := NodeAt.move (fun _ h => h) (fun c w n z => q10 c w (nbN n) (s9 _ _ z)) tp vp ndp8
      obtain ⟨lT, sT, rT⟩ := wild_text gp (by omega)
      obtain ⟨dx, _, _, _, _, _, hd10, _⟩ := id dc10
      refine ⟨_, rfl, dd, dx, _, rfl, hd10, rfl, _, rfl, _, rfl, vp, tp, _, rfl, ndp10, gp, by omega, fun H11 s11 => ?_⟩
      refine ⟨toS (txt tp), tp.rows srt 0, rfl, lT, sT, rT, wild_few gp (by omega), fun d2 H12 s12' dc2 => ?_⟩
      have s1012 := s11.trans s12'
      have hl : ks.toL = ks.toL.take j ++ ks.toL.drop j := (List.take_append_drop j _).symm
      have tj : (ks.toL.take j).length = j := List.length_take_of_le jl
      obtain ⟨i2, hn2, j2, eq2⟩ := inserted_rows (x := tp) hat hl
      rw [tj] at j2 eq2
      have no2 := node_of _ _ _ _ hn2
      obtain ⟨gk1, gk2, gk3, gk4⟩ := wild_nd.mp gw
      have gu : (Tr.nd k ms (ofL (ks.toL.take j ++ tp :: ks.toL.drop j))).wild := wild_nd.mpr ⟨gk1, gk2, gk3, fun z hz => by
        rw [toL_ofL] at hz
        rcases List.mem_append.mp hz with hz | hz
        · exact gk4 z (List.mem_of_mem_take hz)
        · rcases List.mem_cons.mp hz with rfl | hz
          · exact gp
          · exact gk4 z (List.mem_of_mem_drop hz)⟩
      have gt := put_wild q t _ _ own.wild hat gu
      have su : sz (.nd k ms (ofL (ks.toL.take j ++ tp :: ks.toL.drop j))) = sz (.nd k ms ks) + sz tp := by
        rw [sz_nd, sz_nd, toL_ofL, flat_app, flat_cons, hl, flat_app, List.length_append, List.length_append, List.length_append, ← hl]
        unfold sz
        omega
      have ps := put_size (x := .nd k ms (ofL (ks.toL.take j ++ tp :: ks.toL.drop j))) hat
      have few2 : Few (insM (t.rows srt 0) (tp.rows srt 0) i2 j) := eq2 ▸ wild_few gt (by omega)
      refine ⟨_, rfl, _, _, _, rfl, rfl, dd, d2, t.rows srt 0, tp.rows srt 0, x, q, i2, j, rfl, dc10.same s1012, dc2, px10.keep (Keep.same s1012), by omega, no2.lt, no2.place, j2, by show sz t + sz tp ≤ 200; omega, few2, fun c H13 s13 dc13 => ?_⟩
      rw [← eq2] at dc13
      have s1013 := s1012.trans s13
      have nd := own.nodup
      have nd2 : (L ++ [a1, m1'] ++ b1' :: (B1 ++ R)).Nodup := by simpa using nd
      have nb := nodup_mid nd2
      rw [← ofL_toL ks, hl] at h4
      obtain ⟨Ba, Bb, va, vb, rfl, rfl, va1, ta, tb⟩ := (trees_app _ _ _ _).mp h4
      rw [tj] at va1
      have tv : (va ++ vb).take j = va := by rw [← va1, List.take_left]
      have dv : (va ++ vb).drop j = vb := by rw [← va1, List.drop_left]
      have q13 : ∀ c o, c ≠ p → c ≠ b1' → H4 c = some o → H13 c = some o := fun c o n1 n2 z => s1013 _ _ (q10 c o n2 (s9 _ _ (o48 c o n1 z)))
      have acN : ∀ c ∈ Ac, c ∉ L ++ (a1 :: m1' :: b1' :: (Ba ++ Bb)) ++ R := fun c hc hA => by
        obtain ⟨xs, z⟩ := own.tree.lists t _ v c hA
        have := o4.trans o48 c _ (np hA) z
        rw [fr9 c hc] at this
        cases this
      have acp : p ∉ Ac := fun hc => p8.at_ (fr9 p hc)
      have acb : ∀ c ∈ Ac, c ≠ b1' := fun c hc z => acN c hc (by rw [z]; simp)
      have perm : (L ++ (a1 :: m1' :: b1' :: (Ba ++ (Ac ++ Bb))) ++ R).Perm ((L ++ (a1 :: m1' :: b1' :: (Ba ++ Bb)) ++ R) ++ Ac) := by
        refine List.perm_iff_count.mpr fun c => ?_
        show (L ++ ([a1, m1', b1'] ++ (Ba ++ (Ac ++ Bb))) ++ R).count c = ((L ++ ([a1, m1', b1'] ++ (Ba ++ Bb)) ++ R) ++ Ac).count c
        simp only [List.count_append]
        omega
      refine fin c _ (L ++ (a1 :: m1' :: b1' :: (Ba ++ (Ac ++ Bb))) ++ R) a8 b8 H13 (fun c o n1 n2 z => q13 c o n1 (fun z => n2 (by rw [z]; simp)) (o4 c o n1 z)) ⟨s1013 _ _ (q10 _ _ (fun z => nb1 z.symm) (s9 _ _ p8.1)), p8.2⟩ ⟨?_, ?_, ?_, gt⟩ (fun c hc => ?_) (by omega) dc13
      · refine back H13 _ _ (fun c hc w z => q13 c w (np (hc.elim (fun h => by simp [h]) fun h => by simp [h])) (fun zb => nb (by rw [← zb]; exact hc.elim (fun h => by simp [h]) fun h => by simp [h])) (o34 c w (np (hc.elim (fun h => by simp [h]) fun h => by simp [h])) z)) ?_
        rw [TreeAt]
        refine ⟨a1, m1', b1', va ++ yc :: vb, Ba ++ (Ac ++ Bb), rfl, rfl, q13 _ _ na1 (fun z => nb (by rw [← z]; simp)) h1, q13 _ _ nm1 (fun z => nb (by rw [← z]; simp)) h2, ?_, ?_⟩
        · rw [s1013 _ _ m10, tv, dv]
          simp
        · refine (trees_app _ _ _ _).mpr ⟨Ba, Ac ++ Bb, va, yc :: vb, rfl, rfl, by rw [va1, tj], ?_, trees_one.mpr ⟨yc, vb, Ac, Bb, rfl, rfl, ?_, ?_⟩⟩
          · exact TreesAt.move _ _ _ ta fun c hc w z => q13 c w (np (by simp [hc])) (fun zb => nb (by rw [← zb]; simp [hc])) z
          · exact TreeAt.move _ _ _ ta9 fun c hc w z => s1013 _ _ (q10 _ _ (acb c hc) z)
          · exact TreesAt.move _ _ _ tb fun c hc w z => q13 c w (np (by simp [hc])) (fun zb => nb (by rw [← zb]; simp [hc])) z
      · refine perm.nodup_iff.mpr (List.nodup_append.mpr ⟨own.nodup, nd9, fun a ha b hb e => acN b hb (e ▸ ha)⟩)
      · intro hc
        rcases List.mem_append.mp (perm.subset hc) with h | h
        · exact own.pool h
        · exact acp h
      · rcases List.mem_append.mp (perm.subset hc) with h | h
        · exact .inl h
        · exact .inr ((o4.trans o48).free (fr9 c h) p8.at_)
    · -- no part inserted
      have rest : True := trivial
      refine ⟨_, rfl, rfl, _, rfl, ?_⟩
      refine ite2 (fun c2 => ?_) (fun c2 => ?_)
      · refine ⟨_, rfl, by show 0 ≤ sizeLine; decide, fun e2 he2 => ?_⟩
        obtain ⟨xp, rfl, hxp⟩ := px4
        have se := same_new (o := .tup []) he2
        refine ⟨dint q, .tuple [], .tup (.inl (.inl (se _ _ hxp))) (dps_ints q), .tup (.inl (.inl upd_same)) .nil, shaped_pth q, by decide, _, rfl, ?_⟩
        rw [eqv_pth]
        by_cases qe : q = []
        · rw [decide_eq_true qe]
          refine iteF ?_
          generalize ge : upd H4 e2 _ = HB at se
          clear ge
          refine ⟨_, rfl, rfl, _, rfl, ?_⟩
          have p4b : Pool HB p a4 b4 := ⟨se _ _ p4.1, p4.2⟩
          have dcb : DocAt C HB dd (t.rows srt 0) := dc4.same se
          have pxb : PthAt HB (.ref xp) q := ⟨xp, rfl, se _ _ hxp⟩
          have nd := own.nodup
          have nda : (L ++ a1 :: (m1' :: b1' :: B1 ++ R)).Nodup := by simpa using nd
          have na := nodup_mid nda
          have tree4 : TreeAt H4 (L ++ a1 :: m1' :: b1' :: B1 ++ R) v t := tree3.move _ _ _ fun c hc w z => o34 c w (np hc) z
          have down : ∀ {c w}, c ∈ L ++ a1 :: m1' :: b1' :: B1 ++ R → H3 c = some w → H4 c = some w := fun {c w} hc z => o34 c w (np hc) z
          obtain ⟨i2, hn2, eq2⟩ := head_rows hat
          have no2 := node_of _ _ _ _ hn2
          obtain ⟨gk1, gk2, gk3, gk4⟩ := wild_nd.mp gw
          have same_sz : ∀ (k' : W) (ms' : List W), sz (.nd k' ms' ks) = sz (.nd k ms ks) := fun k' ms' => by rw [sz_nd, sz_nd]
          refine ite2 (fun c3 => ?_) (fun c3 => ?_)
          · refine ⟨by show 2 ≤ sizeLine; decide, fun kb hkb => ?_⟩
            generalize g5 : upd HB kb _ = H5
            have s5 : Same HB H5 := g5 ▸ same_new hkb
            have m5 : H5 kb = some (.lst [.str "b", .str "other"]) := g5 ▸ upd_same
            clear g5
            have kbp : kb ≠ p := fun z => by rw [z] at hkb; exact p4b.at_ hkb
            have kba : kb ≠ a1 := fun z => by rw [z, se _ _ h1] at hkb; cases hkb
            have p5 : Pool H5 p a4 b4 := ⟨s5 _ _ p4b.1, p4b.2⟩
            refine ⟨_, rfl, p, 2, a4, b4, rfl, p5, by decide, by decide, fun gi a6 b6 g0 g1 t1 t2 t3 => ?_⟩
            obtain ⟨g, rfl⟩ : ∃ g : Nat, gi = (g : Int) := ⟨gi.toNat, by omega⟩
            generalize g6 : upd H5 p _ = H6
            have o6 : Off p H5 H6 := fun c o n z => by rw [← g6, upd_ne n]; exact z
            have k6 : Keep H5 H6 := g6 ▸ Keep.put p5.1
            have p6 : Pool H6 p a6 b6 := ⟨g6 ▸ upd_same, t1, t2, t3⟩
            clear g6
            obtain ⟨kw, hkw, nkw⟩ : ∃ kw : W, [V.str "b", V.str "other"][g]? = some (sv kw) ∧ isName kw = true := by
              have : g = 0 ∨ g = 1 := by omega
              rcases this with rfl | rfl
              · exact ⟨tl "b", by rw [show sv (tl "b") = V.str "b" from congrArg V.str (toS_tl _)]; rfl, by decide +kernel⟩
              · exact ⟨tl "other", by rw [show sv (tl "other") = V.str "other" from congrArg V.str (toS_tl _)]; rfl, by decide +kernel⟩
            have h16 : H6 a1 = some (.lst [sv k, .ref m1', .ref b1']) := o6 _ _ na1 (s5 _ _ (se _ _ h1))
            refine ⟨kb, _, _, _, rfl, rfl, SqL.of (o6 _ _ kbp m5), atI_nat hkw, ?_⟩
            refine ⟨_, rfl, a1, _, 0, 0, rfl, rfl, h16, rfl, ?_⟩
            generalize g7 : upd H6 a1 _ = H7
            have m7 : H7 a1 = some (.lst [sv kw, .ref m1', .ref b1']) := g7 ▸ upd_same
            have q7 : ∀ c o, c ≠ p → c ≠ a1 → HB c = some o → H7 c = some o := fun c o n1 n2 z => by rw [← g7, upd_ne n2]; exact o6 _ _ n1 (s5 _ _ z)
            have p7 : Pool H7 p a6 b6 := ⟨by rw [← g7, upd_ne (fun z => na1 z.symm)]; exact p6.1, p6.2⟩
            have k7 : Keep HB H7 := (Keep.same s5).trans (k6.trans (g7 ▸ Keep.put h16))
            clear g7
            have dc7 := dcb.keep k7
            obtain ⟨dx, _, _, _, _, _, hd7, _⟩ := id dc7
            have er : (t.rows srt 0).take i2 ++ (((t.rows srt 0).getD i2 (0, [], [])).1, kw, ((t.rows srt 0).getD i2 (0, [], [])).2.2) :: (t.rows srt 0).drop (i2 + 1) = (put t q (.nd kw ms ks)).rows srt 0 := by
              rw [no2.row, eq2 kw ms]
              rfl
            have gt := put_wild q t _ _ own.wild hat (wild_nd.mpr ⟨nkw, gk2, gk3, gk4⟩)
            have ps := put_size (x := .nd kw ms ks) hat
            have ss := same_sz kw ms
            refine ⟨_, rfl, dd, dx, _, rfl, hd7, rfl, _, rfl, _, rfl, a1, _, 0, _, rfl, rfl, SqL.of m7, atI_nat (j := 0) rfl, _, _, rfl, rfl, dd, t.rows srt 0, (.ref xp), q, i2, kw, rfl, dc7, pxb.keep k7, by omega, no2.lt, no2.place, nkw, ?_, fun c H13 s13 dc13 => ?_⟩
            · rw [er]
              exact wild_few gt (by omega)
            rw [er] at dc13
            have q13 : ∀ c o, c ≠ p → c ≠ a1 → H4 c = some o → H13 c = some o := fun c o n1 n2 z => s13 _ _ (q7 c o n1 n2 (se _ _ z))
            refine fin c _ (L ++ a1 :: m1' :: b1' :: B1 ++ R) a6 b6 H13 (fun c o n1 n2 z => q13 c o n1 (fun zb => n2 (by rw [zb]; simp)) (o4 c o n1 z)) ⟨s13 _ _ p7.1, p7.2⟩ ⟨?_, nd, own.pool, gt⟩ (fun c hc => .inl hc) (by omega) dc13
            refine back H13 _ _ (fun c hc w z => q13 c w (np (hc.elim (fun h => by simp [h]) fun h => by simp [h])) (fun zb => na (by rw [← zb]; exact hc.elim (fun h => by simp [h]) fun h => by simp [h])) (down (hc.elim (fun h => by simp [h]) fun h => by simp [h]) z)) ?_
            rw [TreeAt]
            refine ⟨a1, m1', b1', vs1, B1, rfl, rfl, s13 _ _ m7, q13 _ _ nm1 (fun z => na (by rw [← z]; simp)) h2, q13 _ _ nb1 (fun z => na (by rw [← z]; simp)) h3, ?_⟩
            exact TreesAt.move _ _ _ h4 fun c hc w z => q13 c w (np (by simp [hc])) (fun zb => na (by rw [← zb]; simp [hc])) z
          · refine ⟨by show 3 ≤ sizeLine; decide, fun lb hlb => ?_⟩
            generalize g5 : upd HB lb _ = H5
            have s5 : Same HB H5 := g5 ▸ same_new hlb
            have m5 : H5 lb = some (.lst (MS3.map sv)) := g5 ▸ upd_same
            clear g5
            have lbp : lb ≠ p := fun z => by rw [z] at hlb; exact p4b.at_ hlb
            have p5 : Pool H5 p a4 b4 := ⟨s5 _ _ p4b.1, p4b.2⟩
            refine ⟨lb, rfl, ⟨_, SqL.of m5⟩, fun D hD => lc_it (walk_list (K := K) (a := lb) (xs := MS3.map sv)) (fun i H' => ∃ ws a' b', Off p H5 H' ∧ Pool H' p a' b' ∧ H' D = some (.lst (List.map sv ws)) ∧ ws.Sublist (MS3.take i))
              ⟨[], a4, b4, Off.refl.new hD, ⟨by rw [upd_ne (ne_of_none p5.1 hD)]; exact p5.1, p5.2⟩, upd_same, List.nil_sublist _⟩ (fun i H' _ ⟨_, _, _, o, _⟩ => SqL.of (o _ _ lbp m5)) ?_ ?_⟩
            · rintro i' x' Ha Hb' hi' ⟨ws, a2, b2, o3', p3', m3', sub⟩ ⟨rfl, hx'⟩
              rw [List.length_map] at hi'
              rw [List.getElem?_map] at hx'
              obtain ⟨u', hu', rfl⟩ := Option.map_eq_some_iff.mp hx'
              have dne : D ≠ p := fun z => by rw [z] at hD; exact p5.at_ hD
              refine ⟨rfl, ?_⟩
              refine ⟨_, rfl, p, 2, a2, b2, rfl, p3', by decide, by decide, fun d3 a3' b3' d0 d1 h1' h2' h3' => ⟨rfl, _, rfl, ?_⟩⟩
              generalize g4 : upd Hb' p _ = H4'
              have o4' : Off p Hb' H4' := g4 ▸ Off.put
              have p4' : Pool H4' p a3' b3' := ⟨g4 ▸ upd_same, h1', h2', h3'⟩
              have m4' := o4' _ _ dne m3'
              refine ite2 (fun c => ?_) (fun c => ?_)
              · refine ⟨_, rfl, _, m4', ?_, ws ++ [u'], a3', b3', ?_, ⟨by rw [upd_ne (fun z => dne z.symm)]; exact p4'.1, p4'.2⟩, ?_, ?_⟩
                · rw [List.length_map]
                  have := sub.length_le
                  rw [List.length_take] at this
                  have : MS3.length = 3 := rfl
                  omega
                · exact (o3'.trans o4').new hD
                · rw [upd_same, List.map_append]
                  rfl
                · rw [List.take_succ, hu']
                  exact sub.append (List.Sublist.refl _)
              · exact ⟨ws, a3', b3', o3'.trans o4', p4', m4', sub.trans (List.take_sublist_take_left (Nat.le_succ i'))⟩
            rintro H6 ⟨ws, a6, b6, o56, p6, m6, sub⟩
            rw [List.length_map, List.take_length] at sub
            have nws : areNames ws = true := names_sub3 sub
            have l3 : ws.length ≤ 3 := sub.length_le
            have ob6 : ∀ c o, c ≠ p → HB c = some o → H6 c = some o := fun c o n z => o56 c o n (s5 _ _ z)
            have kb6 : Keep HB H6 := fun c o z n => ob6 c o (fun zp => by rw [zp, p4b.1] at z; injection z with z; exact n _ z.symm) z
            have h16 : H6 a1 = some (.lst [sv k, .ref m1', .ref b1']) := ob6 _ _ na1 (se _ _ h1)
            have dfree : HB D = none := s5.free hD
            refine ⟨_, rfl, a1, _, 1, 1, rfl, rfl, h16, rfl, ?_⟩
            generalize g7 : upd H6 a1 _ = H7
            have m7 : H7 a1 = some (.lst [sv k, .ref D, .ref b1']) := g7 ▸ upd_same
            have dna : D ≠ a1 := fun z => by rw [z, se _ _ h1] at dfree; cases dfree
            have mD7 : H7 D = some (.lst (ws.map sv)) := by rw [← g7, upd_ne dna]; exact m6
            have q7 : ∀ c o, c ≠ p → c ≠ a1 → HB c = some o → H7 c = some o := fun c o n1 n2 z => by rw [← g7, upd_ne n2]; exact ob6 _ _ n1 z
            have p7 : Pool H7 p a6 b6 := ⟨by rw [← g7, upd_ne (fun z => na1 z.symm)]; exact p6.1, p6.2⟩
            have k7 : Keep HB H7 := kb6.trans (g7 ▸ Keep.put h16)
            clear g7
            have dc7 := dcb.keep k7
            obtain ⟨dx, _, _, _, _, _, hd7, _⟩ := id dc7
            refine ⟨_, rfl, dd, dx, _, rfl, hd7, rfl, _, rfl, ?_⟩
            refine ⟨_, rfl, a1, _, 1, _, rfl, rfl, SqL.of m7, atI_nat (j := 1) rfl, D, _, rfl, .inl (SqL.of mD7), fun l1 n1 => ?_⟩
            generalize g8 : upd H7 l1 _ = H8
            have s8 : Same H7 H8 := g8 ▸ same_new n1
            have m8 : H8 l1 = some (.lst (ws.map sv)) := g8 ▸ upd_same
            clear g8
            refine ⟨_, rfl, a1, _, 1, _, rfl, rfl, SqL.of (s8 _ _ m7), atI_nat (j := 1) rfl, D, _, rfl, .inl ⟨SqL.of (s8 _ _ mD7), fun l2 n2 => ?_⟩⟩
            generalize g9 : upd H8 l2 _ = H9
            have s9 : Same H8 H9 := g9 ▸ same_new n2
            have m9 : H9 l2 = some (.tup (ws.map sv)) := g9 ▸ upd_same
            clear g9
            refine ⟨by show 2 ≤ sizeLine; decide, fun lo hlo => ?_⟩
            generalize g10 : upd H9 lo _ = H10
            have s10 : Same H9 H10 := g10 ▸ same_new hlo
            have m10 : H10 lo = some (.lst [.ref l1, .ref l2]) := g10 ▸ upd_same
            clear g10
            have s710 := s8.trans (s9.trans s10)
            have lop : lo ≠ p := fun z => by rw [z, s9 _ _ (s8 _ _ p7.1)] at hlo; cases hlo
            have l1p : l1 ≠ p := fun z => by rw [z] at n1; exact p7.at_ n1
            have p10 : Pool H10 p a6 b6 := ⟨s710 _ _ p7.1, p7.2⟩
            refine ⟨_, rfl, p, 2, a6, b6, rfl, p10, by decide, by decide, fun gi a11 b11 g0 g1 t1 t2 t3 => ?_⟩
            obtain ⟨g, rfl⟩ : ∃ g : Nat, gi = (g : Int) := ⟨gi.toNat, by omega⟩
            generalize g11 : upd H10 p _ = H11
            have o11 : Off p H10 H11 := fun c o n z => by rw [← g11, upd_ne n]; exact z
            have k11 : Keep H10 H11 := g11 ▸ Keep.put p10.1
            have p11 : Pool H11 p a11 b11 := ⟨g11 ▸ upd_same, t1, t2, t3⟩
            clear g11
            obtain ⟨mm, hmm, hm⟩ : ∃ mm : Addr, [V.ref l1, V.ref l2][g]? = some (.ref mm) ∧ (H11 mm = some (.tup (ws.map sv)) ∨ H11 mm = some (.lst (ws.map sv))) := by
              have : g = 0 ∨ g = 1 := by omega
              rcases this with rfl | rfl
              · exact ⟨l1, rfl, .inr (o11 _ _ l1p (s10 _ _ (s9 _ _ m8)))⟩
              · exact ⟨l2, rfl, .inl (k11 _ _ (s10 _ _ m9) fun xs z => nomatch z)⟩
            have er : (t.rows srt 0).take i2 ++ (((t.rows srt 0).getD i2 (0, [], [])).1, ((t.rows srt 0).getD i2 (0, [], [])).2.1, srt ws) :: (t.rows srt 0).drop (i2 + 1) = (put t q (.nd k ws ks)).rows srt 0 := by
              rw [no2.row, eq2 k ws]
              rfl
            have gt := put_wild q t _ _ own.wild hat (wild_nd.mpr ⟨gk1, nws, l3, gk4⟩)
            have ps := put_size (x := .nd k ws ks) hat
            have ss := same_sz k ws
            have k711 : Keep HB H11 := k7.trans ((Keep.same s710).trans k11)
            refine ⟨lo, _, _, _, rfl, rfl, SqL.of (o11 _ _ lop m10), atI_nat hmm, _, _, rfl, rfl, dd, mm, t.rows srt 0, (.ref xp), q, i2, ws, rfl, dcb.keep k711, pxb.keep k711, by omega, no2.lt, no2.place, hm, nws, l3, ?_, fun c H13 s13 dc13 => ?_⟩
            · rw [er]
              exact wild_few gt (by omega)
            rw [er] at dc13
            have q13 : ∀ c o, c ≠ p → c ≠ a1 → H4 c = some o → H13 c = some o := fun c o n1 n2 z => s13 _ _ (o11 _ _ n1 (s710 _ _ (q7 c o n1 n2 (se _ _ z))))
            have dp : D ≠ p := fun z => by rw [z] at dfree; exact p4b.at_ dfree
            have d4free : H4 D = none := se.free dfree
            have dA : D ∉ L ++ a1 :: m1' :: b1' :: B1 ++ R := fun hc => by
              obtain ⟨xs, z⟩ := tree4.lists t _ v D hc
              rw [d4free] at z
              cases z
            have ndD : (L ++ a1 :: D :: b1' :: B1 ++ R).Nodup := nodup_swap nd dA
            refine fin c _ (L ++ a1 :: D :: b1' :: B1 ++ R) a11 b11 H13 (fun c o n1 n2 z => q13 c o n1 (fun zb => n2 (by rw [zb]; simp)) (o4 c o n1 z)) ⟨s13 _ _ p11.1, p11.2⟩ ⟨?_, ndD, fun hc => ?_, gt⟩ (fun c hc => ?_) (by omega) dc13
            · refine back H13 _ _ (fun c hc w z => q13 c w (np (hc.elim (fun h => by simp [h]) fun h => by simp [h])) (fun zb => na (by rw [← zb]; exact hc.elim (fun h => by simp [h]) fun h => by simp [h])) (down (hc.elim (fun h => by simp [h]) fun h => by simp [h]) z)) ?_
              rw [TreeAt]
              refine ⟨a1, D, b1', vs1, B1, rfl, rfl, s13 _ _ (o11 _ _ na1 (s710 _ _ m7)), s13 _ _ (o11 _ _ dp (s710 _ _ mD7)), q13 _ _ nb1 (fun z => na (by rw [← z]; simp)) h3, ?_⟩
              exact TreesAt.move _ _ _ h4 fun c hc w z => q13 c w (np (by simp [hc])) (fun zb => na (by rw [← zb]; simp [hc])) z
            · rcases swap_mem hc with h | rfl
              · exact own.pool h
              · exact dp rfl
            · rcases swap_mem hc with h | rfl
              · exact .inl h
              · exact .inr (o4.free d4free p4.at_)
        · rw [decide_eq_false qe]
          refine iteT ?_
          generalize g5 : upd H4 e2 _ = H5 at se
          clear g5
          obtain ⟨qp, jj, eq, ed⟩ := snoc_of qe
          subst eq
          obtain ⟨up, hup⟩ := at_split qp t _ jj hat
          have tree5 : TreeAt H5 (L ++ a1 :: m1' :: b1' :: B1 ++ R) v t := (tree3.move _ _ _ fun c hc w z => o34 c w (np hc) z).move _ _ _ fun c hc w z => se c w z
          obtain ⟨y2, L2, Au2, R2, eA, loc2, hu2, back2⟩ := zip_at qp t up _ v tree5 hup
          cases up with
          | nd k2 ms2 ks2 =>
          have hj : ks2.toL[jj]? = some (.nd k ms ks) := at_one ((at_snoc qp t _ jj hup).symm.trans hat)
          obtain ⟨la, lb, hl2, la1⟩ := split_at hj
          rw [TreeAt] at hu2
          obtain ⟨a2, m2', b2', vs2, B2, rfl, rfl, f1, f2, f3, f4⟩ := hu2
          rw [← ofL_toL ks2, hl2] at f4
          obtain ⟨Ba, Bb', va, vb', rfl, rfl, va1, ta, tb'⟩ := (trees_app _ _ _ _).mp f4
          obtain ⟨vk, vb, Ak, Bb, rfl, rfl, tk, tb⟩ := trees_one.mp tb'
          have cl := cut_last (qp ++ [jj])
          rw [ed] at cl
          refine ⟨_, rfl, _, rfl, _, rfl, _, rfl, xp, _, rfl, se _ _ hxp, fun rr H6 s6 m6 => ?_⟩
          rw [show cutV (List.map nv (qp ++ [jj])) none (some (-1)) = qp.map nv from cl] at m6
          have t6 := s6
          have nd := own.nodup
          rw [eA] at nd
          have npA : ∀ {c}, c ∈ L2 ++ a2 :: m2' :: b2' :: (Ba ++ (Ak ++ Bb)) ++ R2 → c ≠ p := fun hc => np (eA ▸ hc)
          have nd2 : (L2 ++ [a2, m2'] ++ b2' :: (Ba ++ (Ak ++ Bb) ++ R2)).Nodup := by simpa using nd
          have nb := nodup_mid nd2
          refine ⟨v, .ref rr, .ref a2, qp, rfl, ⟨rr, rfl, m6⟩, loc2.same s6, a2, _, 2, _, rfl, rfl, SqL.of (s6 _ _ f1), atI_nat (j := 2) rfl, .inl ⟨rfl, _, SqL.of (s6 _ _ f3)⟩, ?_⟩
          refine ⟨_, rfl, _, rfl, xp, _, _, _, rfl, rfl, .inl (.inl (s6 _ _ (se _ _ hxp))), (by rw [List.map_append]; exact atI_last _ _), ?_⟩
          have jv : jj < (va ++ vk :: vb).length := by rw [List.length_append, List.length_cons, va1, la1]; omega
          have gv : (va ++ vk :: vb)[jj]? = some vk := by rw [List.getElem?_append_right (by omega), va1, la1, Nat.sub_self]; rfl
          have vsl : (va ++ vk :: vb).length ≤ 200 := by
            have := (nodes_to (TreesAt.node (N := fun _ => True) ks2 _ _ (by rw [← ofL_toL ks2, hl2]; exact f4) fun _ _ => trivial)).length
            have f := flat_len ks2.toL
            have z := sz_nd k2 ms2 ks2
            obtain ⟨pre, post, e1, _⟩ := place_of hup
            have l := congrArg List.length e1
            rw [List.length_append, List.length_append, rows_length (Tr.nd k2 ms2 ks2) qp.length] at l
            unfold sz at z small
            omega
          refine ⟨b2', _, (jj : Int), jj, vk, rfl, rfl, s6 _ _ f3, by omega, by omega, ?_, gv, ?_⟩
          · unfold PySem.seqIndex?
            rw [if_neg (show ¬ ((jj : Nat) : Int) < 0 by omega)]
            rw [if_pos (by simp; have := jv; simp at this; omega)]
            rfl
          have ev : (va ++ vk :: vb).eraseIdx jj = va ++ vb := by
            rw [List.eraseIdx_append_of_length_le (by omega), va1, la1, Nat.sub_self]
            rfl
          rw [ev]
          generalize g10 : upd H6 b2' _ = H10
          have m10 : H10 b2' = some (.lst (va ++ vb)) := g10 ▸ upd_same
          have q10 : ∀ c o, c ≠ b2' → H4 c = some o → H10 c = some o := fun c o n z => by rw [← g10, upd_ne n]; exact s6 _ _ (se _ _ z)
          have k10 : Keep H4 H10 := (Keep.same (se.trans s6)).trans (g10 ▸ Keep.put (s6 _ _ f3))
          clear g10
          have dc10 := dc4.keep k10
          obtain ⟨dx, _, _, _, _, _, hd10, _⟩ := id dc10
          obtain ⟨i2, hn2, i20, eq2⟩ := removed_rows hup hl2
          rw [la1] at hn2
          have no2 := node_of _ _ _ _ hn2
          refine ⟨_, rfl, dd, dx, _, rfl, hd10, rfl, _, rfl, dd, t.rows srt 0, .ref xp, qp ++ [jj], i2, rfl, dc10, ⟨xp, rfl, k10 _ _ hxp fun xs z => nomatch z⟩, by omega, no2.lt, i20, no2.place, fun c H13 s13 dc13 => ?_⟩
          rw [← eq2] at dc13
          have gw2 := at_wild qp t _ own.wild hup
          obtain ⟨gk1, gk2, gk3, gk4⟩ := wild_nd.mp gw2
          have gu : (Tr.nd k2 ms2 (ofL (la ++ lb))).wild := wild_nd.mpr ⟨gk1, gk2, gk3, fun z hz => by
            rw [toL_ofL] at hz
            refine gk4 z ?_
            rw [hl2]
            rcases List.mem_append.mp hz with hz | hz
            · exact List.mem_append_left _ hz
            · exact List.mem_append_right _ (List.mem_cons_of_mem _ hz)⟩
          have gt := put_wild qp t _ _ own.wild hup gu
          have su : sz (.nd k2 ms2 (ofL (la ++ lb))) + sz (.nd k ms ks) = sz (.nd k2 ms2 ks2) := by
            rw [sz_nd k2, sz_nd k2, toL_ofL, hl2, flat_app, flat_app, flat_cons, List.length_append, List.length_append, List.length_append]
            unfold sz
            omega
          have ps := put_size (x := .nd k2 ms2 (ofL (la ++ lb))) hup
          have q13 : ∀ c o, c ≠ b2' → H4 c = some o → H13 c = some o := fun c o n z => s13 _ _ (q10 c o n z)
          have sub : List.Sublist (L2 ++ (a2 :: m2' :: b2' :: (Ba ++ Bb)) ++ R2) (L2 ++ a2 :: m2' :: b2' :: (Ba ++ (Ak ++ Bb)) ++ R2) := by
            refine List.Sublist.append (List.Sublist.append (List.Sublist.refl _) ?_) (List.Sublist.refl _)
            exact ((List.Sublist.append (List.Sublist.refl _) (List.sublist_append_right _ _)).cons₂ _).cons₂ _ |>.cons₂ _
          have tree4 : TreeAt H4 (L2 ++ a2 :: m2' :: b2' :: (Ba ++ (Ak ++ Bb)) ++ R2) v t := by
            rw [← eA]
            exact tree3.move _ _ _ fun c hc w z => o34 c w (np hc) z
          have nb2p : b2' ≠ p := npA (by simp)
          have down : ∀ {c w}, c ∈ L2 ++ a2 :: m2' :: b2' :: (Ba ++ (Ak ++ Bb)) ++ R2 → H5 c = some w → H4 c = some w := fun {c w} hc z => by
            obtain ⟨xs, z4⟩ := tree4.lists t _ v c hc
            rw [se _ _ z4] at z
            rw [z4, z]
          refine fin c _ (L2 ++ (a2 :: m2' :: b2' :: (Ba ++ Bb)) ++ R2) a4 b4 H13 (fun c o n1 n2 z => q13 c o (fun zb => n2 (by rw [zb, eA]; simp)) (o4 c o n1 z)) ⟨q13 _ _ (fun z => nb2p z.symm) p4.1, p4.2⟩ ⟨?_, nd.sublist sub, fun hc => own.pool (eA ▸ sub.subset hc), gt⟩ (fun c hc => .inl (eA ▸ sub.subset hc)) (by omega) dc13
          refine back2 H13 _ _ (fun c hc w z => q13 c w (fun zb => nb (by rw [← zb]; exact hc.elim (fun h => by simp [h]) fun h => by simp [h])) (down (hc.elim (fun h => by simp [h]) fun h => by simp [h]) z)) ?_
          rw [TreeAt]
          refine ⟨a2, m2', b2', va ++ vb, Ba ++ Bb, rfl, rfl, q13 _ _ (fun z => nb (by rw [← z]; simp)) (down (by simp) f1), q13 _ _ (fun z => nb (by rw [← z]; simp)) (down (by simp) f2), s13 _ _ m10, ?_⟩
          refine (trees_app _ _ _ _).mpr ⟨Ba, Bb, va, vb, rfl, rfl, va1, ?_, ?_⟩
          · exact TreesAt.move _ _ _ ta fun c hc w z => q13 c w (fun zb => nb (by rw [← zb]; simp [hc])) (down (by simp [hc]) z)
          · exact TreesAt.move _ _ _ tb fun c hc w z => q13 c w (fun zb => nb (by rw [← zb]; simp [hc])) (down (by simp [hc]) z)
      · have sb : Same H4 H4 := Same.refl _
        refine ⟨_, rfl, rfl, _, rfl, ?_⟩
        have p4b : Pool H4 p a4 b4 := ⟨sb _ _ p4.1, p4.2⟩
        have dcb : DocAt C H4 dd (t.rows srt 0) := dc4.same sb
        have pxb : PthAt H4 x q := px4
        have nd := own.nodup
        have nda : (L ++ a1 :: (m1' :: b1' :: B1 ++ R)).Nodup := by simpa using nd
        have na := nodup_mid nda
        have tree4 : TreeAt H4 (L ++ a1 :: m1' :: b1' :: B1 ++ R) v t := tree3.move _ _ _ fun c hc w z => o34 c w (np hc) z
        have down : ∀ {c w}, c ∈ L ++ a1 :: m1' :: b1' :: B1 ++ R → H3 c = some w → H4 c = some w := fun {c w} hc z => o34 c w (np hc) z
        obtain ⟨i2, hn2, eq2⟩ := head_rows hat
        have no2 := node_of _ _ _ _ hn2
        obtain ⟨gk1, gk2, gk3, gk4⟩ := wild_nd.mp gw
        have same_sz : ∀ (k' : W) (ms' : List W), sz (.nd k' ms' ks) = sz (.nd k ms ks) := fun k' ms' => by rw [sz_nd, sz_nd]
        refine ite2 (fun c3 => ?_) (fun c3 => ?_)
        · refine ⟨by show 2 ≤ sizeLine; decide, fun kb hkb => ?_⟩
          generalize g5 : upd H4 kb _ = H5
          have s5 : Same H4 H5 := g5 ▸ same_new hkb
          have m5 : H5 kb = some (.lst [.str "b", .str "other"]) := g5 ▸ upd_same
          clear g5
          have kbp : kb ≠ p := fun z => by rw [z] at hkb; exact p4b.at_ hkb
          have kba : kb ≠ a1 := fun z => by rw [z, sb _ _ h1] at hkb; cases hkb
          have p5 : Pool H5 p a4 b4 := ⟨s5 _ _ p4b.1, p4b.2⟩
          refine ⟨_, rfl, p, 2, a4, b4, rfl, p5, by decide, by decide, fun gi a6 b6 g0 g1 t1 t2 t3 => ?_⟩
          obtain ⟨g, rfl⟩ : ∃ g : Nat, gi = (g : Int) := ⟨gi.toNat, by omega⟩
          generalize g6 : upd H5 p _ = H6
          have o6 : Off p H5 H6 := fun c o n z => by rw [← g6, upd_ne n]; exact z
          have k6 : Keep H5 H6 := g6 ▸ Keep.put p5.1
          have p6 : Pool H6 p a6 b6 := ⟨g6 ▸ upd_same, t1, t2, t3⟩
          clear g6
          obtain ⟨kw, hkw, nkw⟩ : ∃ kw : W, [V.str "b", V.str "other"][g]? = some (sv kw) ∧ isName kw = true := by
            have : g = 0 ∨ g = 1 := by omega
            rcases this with rfl | rfl
            · exact ⟨tl "b", by rw [show sv (tl "b") = V.str "b" from congrArg V.str (toS_tl _)]; rfl, by decide +kernel⟩
            · exact ⟨tl "other", by rw [show sv (tl "other") = V.str "other" from congrArg V.str (toS_tl _)]; rfl, by decide +kernel⟩
          have h16 : H6 a1 = some (.lst [sv k, .ref m1', .ref b1']) := o6 _ _ na1 (s5 _ _ (sb _ _ h1))
          refine ⟨kb, _, _, _, rfl, rfl, SqL.of (o6 _ _ kbp m5), atI_nat hkw, ?_⟩
          refine ⟨_, rfl, a1, _, 0, 0, rfl, rfl, h16, rfl, ?_⟩
          generalize g7 : upd H6 a1 _ = H7
          have m7 : H7 a1 = some (.lst [sv kw, .ref m1', .ref b1']) := g7 ▸ upd_same
          have q7 : ∀ c o, c ≠ p → c ≠ a1 → H4 c = some o → H7 c = some o := fun c o n1 n2 z => by rw [← g7, upd_ne n2]; exact o6 _ _ n1 (s5 _ _ z)
          have p7 : Pool H7 p a6 b6 := ⟨by rw [← g7, upd_ne (fun z => na1 z.symm)]; exact p6.1, p6.2⟩
          have k7 : Keep H4 H7 := (Keep.same s5).trans (k6.trans (g7 ▸ Keep.put h16))
          clear g7
          have dc7 := dcb.keep k7
          obtain ⟨dx, _, _, _, _, _, hd7, _⟩ := id dc7
          have er : (t.rows srt 0).take i2 ++ (((t.rows srt 0).getD i2 (0, [], [])).1, kw, ((t.rows srt 0).getD i2 (0, [], [])).2.2) :: (t.rows srt 0).drop (i2 + 1) = (put t q (.nd kw ms ks)).rows srt 0 := by
            rw [no2.row, eq2 kw ms]
            rfl
          have gt := put_wild q t _ _ own.wild hat (wild_nd.mpr ⟨nkw, gk2, gk3, gk4⟩)
          have ps := put_size (x := .nd kw ms ks) hat
          have ss := same_sz kw ms
          refine ⟨_, rfl, dd, dx, _, rfl, hd7, rfl, _, rfl, _, rfl, a1, _, 0, _, rfl, rfl, SqL.of m7, atI_nat (j := 0) rfl, _, _, rfl, rfl, dd, t.rows srt 0, x, q, i2, kw, rfl, dc7, pxb.keep k7, by omega, no2.lt, no2.place, nkw, ?_, fun c H13 s13 dc13 => ?_⟩
          · rw [er]
            exact wild_few gt (by omega)
          rw [er] at dc13
          have q13 : ∀ c o, c ≠ p → c ≠ a1 → H4 c = some o → H13 c = some o := fun c o n1 n2 z => s13 _ _ (q7 c o n1 n2 (sb _ _ z))
          refine fin c _ (L ++ a1 :: m1' :: b1' :: B1 ++ R) a6 b6 H13 (fun c o n1 n2 z => q13 c o n1 (fun zb => n2 (by rw [zb]; simp)) (o4 c o n1 z)) ⟨s13 _ _ p7.1, p7.2⟩ ⟨?_, nd, own.pool, gt⟩ (fun c hc => .inl hc) (by omega) dc13
          refine back H13 _ _ (fun c hc w z => q13 c w (np (hc.elim (fun h => by simp [h]) fun h => by simp [h])) (fun zb => na (by rw [← zb]; exact hc.elim (fun h => by simp [h]) fun h => by simp [h])) (down (hc.elim (fun h => by simp [h]) fun h => by simp [h]) z)) ?_
          rw [TreeAt]
          refine ⟨a1, m1', b1', vs1, B1, rfl, rfl, s13 _ _ m7, q13 _ _ nm1 (fun z => na (by rw [← z]; simp)) h2, q13 _ _ nb1 (fun z => na (by rw [← z]; simp)) h3, ?_⟩
          exact TreesAt.move _ _ _ h4 fun c hc w z => q13 c w (np (by simp [hc])) (fun zb => na (by rw [← zb]; simp [hc])) z
        · refine ⟨by show 3 ≤ sizeLine; decide, fun lb hlb => ?_⟩
          generalize g5 : upd H4 lb _ = H5
          have s5 : Same H4 H5 := g5 ▸ same_new hlb
          have m5 : H5 lb = some (.lst (MS3.map sv)) := g5 ▸ upd_same
          clear g5
          have lbp : lb ≠ p := fun z => by rw [z] at hlb; exact p4b.at_ hlb
          have p5 : Pool H5 p a4 b4 := ⟨s5 _ _ p4b.1, p4b.2⟩
          refine ⟨lb, rfl, ⟨_, SqL.of m5⟩, fun D hD => lc_it (walk_list (K := K) (a := lb) (xs := MS3.map sv)) (fun i H' => ∃ ws a' b', Off p H5 H' ∧ Pool H' p a' b' ∧ H' D = some (.lst (List.map sv ws)) ∧ ws.Sublist (MS3.take i))
            ⟨[], a4, b4, Off.refl.new hD, ⟨by rw [upd_ne (ne_of_none p5.1 hD)]; exact p5.1, p5.2⟩, upd_same, List.nil_sublist _⟩ (fun i H' _ ⟨_, _, _, o, _⟩ => SqL.of (o _ _ lbp m5)) ?_ ?_⟩
          · rintro i' x' Ha Hb' hi' ⟨ws, a2, b2, o3', p3', m3', sub⟩ ⟨rfl, hx'⟩
            rw [List.length_map] at hi'
            rw [List.getElem?_map] at hx'
            obtain ⟨u', hu', rfl⟩ := Option.map_eq_some_iff.mp hx'
            have dne : D ≠ p := fun z => by rw [z] at hD; exact p5.at_ hD
            refine ⟨rfl, ?_⟩
            refine ⟨_, rfl, p, 2, a2, b2, rfl, p3', by decide, by decide, fun d3 a3' b3' d0 d1 h1' h2' h3' => ⟨rfl, _, rfl, ?_⟩⟩
            generalize g4 : upd Hb' p _ = H4'
            have o4' : Off p Hb' H4' := g4 ▸ Off.put
            have p4' : Pool H4' p a3' b3' := ⟨g4 ▸ upd_same, h1', h2', h3'⟩
            have m4' := o4' _ _ dne m3'
            refine ite2 (fun c => ?_) (fun c => ?_)
            · refine ⟨_, rfl, _, m4', ?_, ws ++ [u'], a3', b3', ?_, ⟨by rw [upd_ne (fun z => dne z.symm)]; exact p4'.1, p4'.2⟩, ?_, ?_⟩
              · rw [List.length_map]
                have := sub.length_le
                rw [List.length_take] at this
                have : MS3.length = 3 := rfl
                omega
              · exact (o3'.trans o4').new hD
              · rw [upd_same, List.map_append]
                rfl
              · rw [List.take_succ, hu']
                exact sub.append (List.Sublist.refl _)
            · exact ⟨ws, a3', b3', o3'.trans o4', p4', m4', sub.trans (List.take_sublist_take_left (Nat.le_succ i'))⟩
          rintro H6 ⟨ws, a6, b6, o56, p6, m6, sub⟩
          rw [List.length_map, List.take_length] at sub
          have nws : areNames ws = true := names_sub3 sub
          have l3 : ws.length ≤ 3 := sub.length_le
          have ob6 : ∀ c o, c ≠ p → H4 c = some o → H6 c = some o := fun c o n z => o56 c o n (s5 _ _ z)
          have kb6 : Keep H4 H6 := fun c o z n => ob6 c o (fun zp => by rw [zp, p4b.1] at z; injection z with z; exact n _ z.symm) z
          have h16 : H6 a1 = some (.lst [sv k, .ref m1', .ref b1']) := ob6 _ _ na1 (sb _ _ h1)
          have dfree : H4 D = none := s5.free hD
          refine ⟨_, rfl, a1, _, 1, 1, rfl, rfl, h16, rfl, ?_⟩
          generalize g7 : upd H6 a1 _ = H7
          have m7 : H7 a1 = some (.lst [sv k, .ref D, .ref b1']) := g7 ▸ upd_same
          have dna : D ≠ a1 := fun z => by rw [z, sb _ _ h1] at dfree; cases dfree
          have mD7 : H7 D = some (.lst (ws.map sv)) := by rw [← g7, upd_ne dna]; exact m6
          have q7 : ∀ c o, c ≠ p → c ≠ a1 → H4 c = some o → H7 c = some o := fun c o n1 n2 z => by rw [← g7, upd_ne n2]; exact ob6 _ _ n1 z
          have p7 : Pool H7 p a6 b6 := ⟨by rw [← g7, upd_ne (fun z => na1 z.symm)]; exact p6.1, p6.2⟩
          have k7 : Keep H4 H7 := kb6.trans (g7 ▸ Keep.put h16)
          clear g7
          have dc7 := dcb.keep k7
          obtain ⟨dx, _, _, _, _, _, hd7, _⟩ := id dc7
          refine ⟨_, rfl, dd, dx, _, rfl, hd7, rfl, _, rfl, ?_⟩
          refine ⟨_, rfl, a1, _, 1, _, rfl, rfl, SqL.of m7, atI_nat (j := 1) rfl, D, _, rfl, .inl (SqL.of mD7), fun l1 n1 => ?_⟩
          generalize g8 : upd H7 l1 _ = H8
          have s8 : Same H7 H8 := g8 ▸ same_new n1
          have m8 : H8 l1 = some (.lst (ws.map sv)) := g8 ▸ upd_same
          clear g8
          refine ⟨_, rfl, a1, _, 1, _, rfl, rfl, SqL.of (s8 _ _ m7), atI_nat (j := 1) rfl, D, _, rfl, .inl ⟨SqL.of (s8 _ _ mD7), fun l2 n2 => ?_⟩⟩
          generalize g9 : upd H8 l2 _ = H9
          have s9 : Same H8 H9 := g9 ▸ same_new n2
          have m9 : H9 l2 = some (.tup (ws.map sv)) := g9 ▸ upd_same
          clear g9
          refine ⟨by show 2 ≤ sizeLine; decide, fun lo hlo => ?_⟩
          generalize g10 : upd H9 lo _ = H10
          have s10 : Same H9 H10 := g10 ▸ same_new hlo
          have m10 : H10 lo = some (.lst [.ref l1, .ref l2]) := g10 ▸ upd_same
          clear g10
          have s710 := s8.trans (s9.trans s10)
          have lop : lo ≠ p := fun z => by rw [z, s9 _ _ (s8 _ _ p7.1)] at hlo; cases hlo
          have l1p : l1 ≠ p := fun z => by rw [z] at n1; exact p7.at_ n1
          have p10 : Pool H10 p a6 b6 := ⟨s710 _ _ p7.1, p7.2⟩
          refine ⟨_, rfl, p, 2, a6, b6, rfl, p10, by decide, by decide, fun gi a11 b11 g0 g1 t1 t2 t3 => ?_⟩
          obtain ⟨g, rfl⟩ : ∃ g : Nat, gi = (g : Int) := ⟨gi.toNat, by omega⟩
          generalize g11 : upd H10 p _ = H11
          have o11 : Off p H10 H11 := fun c o n z => by rw [← g11, upd_ne n]; exact z
          have k11 : Keep H10 H11 := g11 ▸ Keep.put p10.1
          have p11 : Pool H11 p a11 b11 := ⟨g11 ▸ upd_same, t1, t2, t3⟩
          clear g11
          obtain ⟨mm, hmm, hm⟩ : ∃ mm : Addr, [V.ref l1, V.ref l2][g]? = some (.ref mm) ∧ (H11 mm = some (.tup (ws.map sv)) ∨ H11 mm = some (.lst (ws.map sv))) := by
            have : g = 0 ∨ g = 1 := by omega
            rcases this with rfl | rfl
            · exact ⟨l1, rfl, .inr (o11 _ _ l1p (s10 _ _ (s9 _ _ m8)))⟩
            · exact ⟨l2, rfl, .inl (k11 _ _ (s10 _ _ m9) fun xs z => nomatch z)⟩
          have er : (t.rows srt 0).take i2 ++ (((t.rows srt 0).getD i2 (0, [], [])).1, ((t.rows srt 0).getD i2 (0, [], [])).2.1, srt ws) :: (t.rows srt 0).drop (i2 + 1) = (put t q (.nd k ws ks)).rows srt 0 := by
            rw [no2.row, eq2 k ws]
            rfl
          have gt := put_wild q t _ _ own.wild hat (wild_nd.mpr ⟨gk1, nws, l3, gk4⟩)
          have ps := put_size (x := .nd k ws ks) hat
          have ss := same_sz k ws
          have k711 : Keep H4 H11 := k7.trans ((Keep.same s710).trans k11)
          refine ⟨lo, _, _, _, rfl, rfl, SqL.of (o11 _ _ lop m10), atI_nat hmm, _, _, rfl, rfl, dd, mm, t.rows srt 0, x, q, i2, ws, rfl, dcb.keep k711, pxb.keep k711, by omega, no2.lt, no2.place, hm, nws, l3, ?_, fun c H13 s13 dc13 => ?_⟩
          · rw [er]
            exact wild_few gt (by omega)
          rw [er] at dc13
          have q13 : ∀ c o, c ≠ p → c ≠ a1 → H4 c = some o → H13 c = some o := fun c o n1 n2 z => s13 _ _ (o11 _ _ n1 (s710 _ _ (q7 c o n1 n2 (sb _ _ z))))
          have dp : D ≠ p := fun z => by rw [z] at dfree; exact p4b.at_ dfree
          have d4free : H4 D = none := sb.free dfree
          have dA : D ∉ L ++ a1 :: m1' :: b1' :: B1 ++ R := fun hc => by
            obtain ⟨xs, z⟩ := tree4.lists t _ v D hc
            rw [d4free] at z
            cases z
          have ndD : (L ++ a1 :: D :: b1' :: B1 ++ R).Nodup := nodup_swap nd dA
          refine fin c _ (L ++ a1 :: D :: b1' :: B1 ++ R) a11 b11 H13 (fun c o n1 n2 z => q13 c o n1 (fun zb => n2 (by rw [zb]; simp)) (o4 c o n1 z)) ⟨s13 _ _ p11.1, p11.2⟩ ⟨?_, ndD, fun hc => ?_, gt⟩ (fun c hc => ?_) (by omega) dc13
          · refine back H13 _ _ (fun c hc w z => q13 c w (np (hc.elim (fun h => by simp [h]) fun h => by simp [h])) (fun zb => na (by rw [← zb]; exact hc.elim (fun h => by simp [h]) fun h => by simp [h])) (down (hc.elim (fun h => by simp [h]) fun h => by simp [h]) z)) ?_
            rw [TreeAt]
            refine ⟨a1, D, b1', vs1, B1, rfl, rfl, s13 _ _ (o11 _ _ na1 (s710 _ _ m7)), s13 _ _ (o11 _ _ dp (s710 _ _ mD7)), q13 _ _ nb1 (fun z => na (by rw [← z]; simp)) h3, ?_⟩
            exact TreesAt.move _ _ _ h4 fun c hc w z => q13 c w (np (by simp [hc])) (fun zb => na (by rw [← zb]; simp [hc])) z
          · rcases swap_mem hc with h | rfl
            · exact own.pool h
            · exact dp rfl
          · rcases swap_mem hc with h | rfl
            · exact .inl h
            · exact .inr (o4.free d4free p4.at_)
end
end K03

namespace K03
open PySem L2 DR DM TL
def spNodeT (Ks Ms : List W) (d : Nat) : Sp := fun vs H Q _ => ∃ (p ka ma : Addr) (a b : Int), vs = [.ref p, nv d, .ref ka, .ref ma] ∧ Pool H p a b ∧ H ka = some (.lst (Ks.map sv)) ∧ H ma = some (.lst (Ms.map sv)) ∧
  ∀ v t H' a' b' A, Off p H H' → Pool H' p a' b' → (∀ c ∈ A, H c = none) → A.Nodup → TreeAt H' A v t → t.fits Ks Ms d → Q v H'
section
variable {P : Program} {w : World} {K : PySem.W.Frag} {mg : Str → Option Value} {base : Heap}
theorem nodeT_step {f : Addr} {fd : FuncData} {Ks Ms : List W} {d : Nat} {spR : Sp} (F : Fun K "_law_node" "_law_node" sNode f fd) (T : Txt mg) (D1 : Has P w K mg base 1 "_law_take" ["_law_pool_here", "_law_many"] spTake)
    (mN : mg "_law_node" = some (.ref f)) (kN : PySem.W.keepIn K (.ref f) = true) (bN : Binds K fd ["_law_pool_here", "_law_depth", "_law_kinds", "_law_marks_here"] []) (hK1 : 1 ≤ Ks.length) (hK : Ks.length < 1000) (hM : Ms.length < 1000)
    (G : FnOk P w K mg base CX0 (d + 1) f fd ["_law_pool_here", "_law_depth", "_law_kinds", "_law_marks_here"] spR) (hR : d ≠ 0 → spR = spNodeT Ks Ms (d - 1)) :
    FnOk P w K mg base CX0 (d + 2) f fd ["_law_pool_here", "_law_depth", "_law_kinds", "_law_marks_here"] (spNodeT Ks Ms d) := by
  obtain ⟨fT, fdT, GT, mT, kT, bT⟩ := D1
  refine F.ok scNode (fun vs H Q E h => ?_) (fun cdv A outer s H vs Q E hr h => ?_)
  · obtain ⟨_, _, _, _, _, rfl, _⟩ := h
    rfl
  · obtain ⟨p, ka, ma, a, b, rfl, pool, hk, hm, fin⟩ := h
    have hr1 : Room 1 _ := hr.mono (by omega)
    refine ⟨_, pss_cons (ps_set (i := 4) scNode.nd rfl (Or.inl rfl) (pe_ix ix_list (pv 2) (pe_call GT hr1 (by rfl) mT kT bT .nil pass0 (pa_cons (pv 0) (pa_cons (pe_callB call_len_seq (by rfl) T.len PySem.boot_len (pa_cons (pv 2) pa_nil)) pa_nil))) (fun _ _ => rfl)))
      (pss_cons (ps_setLc (i := 5) (own := [("_law_mark", 7)]) (g := gName 7) (tt := tTest (tOp rEq (tCall spTake [] E0 (tCons (tVar 0) (tCons (tC (.int 3)) tNil))) (tC (.int 0)))) rfl scNode.nd rfl rfl (by rfl) (pi_list (pv 3))
          (blkOk_by (N := ["_law_pool_here", "_law_depth", "_law_kinds", "_law_marks_here", "_law_kind_here", "_law_own", "_law_many", "_law_mark", "_law_turn"]) (sc := defScope sNode) (by decide +kernel)) (fun _ _ _ _ _ => pg_name (i := 7) scNode.nd rfl (Or.inl rfl))
          (fun _ _ _ _ _ => pts_one (pt_cmpR op_eq (pe_call GT hr1 (by rfl) mT kT bT .nil pass0 (pa_cons (pv 0) (pa_cons pe_int pa_nil))) pe_int rfl)) (fun _ _ _ _ _ => pv 7))
      (pss_cons (ps_set (i := 6) scNode.nd rfl (Or.inl rfl) (pe_ifExp (pt_cmpR op_gt (pv 1) pe_int rfl) (pe_call GT hr1 (by rfl) mT kT bT .nil pass0 (pa_cons (pv 0) (pa_cons pe_int pa_nil))) pe_int))
      (pss_one (ps_ret (pe_lst (pa_cons (pv 4) (pa_cons (pv 5) (pa_cons (pe_lc (own := [("_law_turn", 8)]) (g := gName 8) (tt := tYes) rfl scNode.nd (pi_range1 (by rfl) T.range (pa_cons (pv 6) pa_nil))
          (blkOk_by (N := ["_law_pool_here", "_law_depth", "_law_kinds", "_law_marks_here", "_law_kind_here", "_law_own", "_law_many", "_law_mark", "_law_turn"]) (sc := defScope sNode) (by decide +kernel)) (fun _ _ _ _ _ => pg_name (i := 8) scNode.nd rfl (Or.inl rfl)) (fun _ _ _ _ _ => pts_nil)
          (fun _ _ _ _ _ => pe_call G hr (by rfl) mN kN bN .nil pass0 (pa_cons (pv 0) (pa_cons (pe_op op_sub (pv 1) pe_int) (pa_cons (pv 2) (pa_cons (pv 3) pa_nil)))))) pa_nil)))))))), ?_⟩
    have B := big
    have kne : ka ≠ p := pool_ne pool hk strs_ne
    have mne : ma ≠ p := pool_ne pool hm strs_ne
    obtain ⟨hp0, pa, pb, pb2⟩ := id pool
    refine ⟨_, rfl, _, rfl, _, rfl, ka, _, rfl, .inl (SqL.of hk), p, _, a, b, rfl, pool, by rw [List.length_map]; omega, by rw [List.length_map]; omega, fun j a1 b1 j0 j1 ha1 hb1 hb2 => ?_⟩
    generalize g1 : upd H p _ = H1
    have o1 : Off p H H1 := g1 ▸ Off.put
    have p1 : Pool H1 p a1 b1 := ⟨g1 ▸ upd_same, ha1, hb1, hb2⟩
    have k1 := o1 _ _ kne hk
    have m1 := o1 _ _ mne hm
    obtain ⟨jn, rfl⟩ : ∃ n : Nat, j = (n : Int) := ⟨j.toNat, by omega⟩
    have jlt : jn < Ks.length := by
      rw [List.length_map] at j1
      omega
    have kat : (Ks.map sv)[jn]? = some (sv (Ks.getD jn [])) := by
      rw [List.getElem?_map, List.getD_eq_getElem?_getD, List.getElem?_eq_getElem jlt]
      rfl
    have kin : Ks.getD jn [] ∈ Ks := by
      rw [List.getD_eq_getElem?_getD, List.getElem?_eq_getElem jlt]
      exact List.getElem_mem jlt
    generalize Ks.getD jn [] = kw at kat kin
    refine ⟨ka, _, _, _, rfl, rfl, SqL.of k1, atI_nat kat, ?_⟩
    -- the marks
    refine ⟨_, rfl, ma, rfl, ⟨_, SqL.of m1⟩, fun D hD => lc_it (walk_list (K := K) (a := ma) (xs := Ms.map sv)) (fun i H' => ∃ ws a' b', Off p H1 H' ∧ Pool H' p a' b' ∧ H' D = some (.lst (List.map sv ws)) ∧ ws.Sublist (Ms.take i))
      ⟨[], a1, b1, Off.refl.new hD, ⟨by rw [upd_ne (ne_of_none p1.1 hD)]; exact p1.1, p1.2⟩, upd_same, List.nil_sublist _⟩ (fun i H' _ ⟨_, _, _, o, _⟩ => SqL.of (o _ _ mne m1)) ?_ ?_⟩
    · rintro i x H2 H3 hi ⟨ws, a2, b2, o3, p3, m3, sub⟩ ⟨rfl, hx⟩
      rw [List.length_map] at hi
      rw [List.getElem?_map] at hx
      obtain ⟨u, hu, rfl⟩ := Option.map_eq_some_iff.mp hx
      have dne : D ≠ p := fun z => by rw [z] at hD; exact p1.at_ hD
      refine ⟨rfl, ?_⟩
      refine ⟨_, rfl, p, 3, a2, b2, rfl, p3, by decide, by decide, fun d3 a3 b3 d0 d1 h1 h2 h3 => ⟨rfl, _, rfl, ?_⟩⟩
      generalize g4 : upd H3 p _ = H4
      have o4 : Off p H3 H4 := g4 ▸ Off.put
      have p4 : Pool H4 p a3 b3 := ⟨g4 ▸ upd_same, h1, h2, h3⟩
      have m4 := o4 _ _ dne m3
      refine ite2 (fun c => ?_) (fun c => ?_)
      · refine ⟨_, rfl, _, m4, ?_, ws ++ [u], a3, b3, ?_, ⟨by rw [upd_ne (fun z => dne z.symm)]; exact p4.1, p4.2⟩, ?_, ?_⟩
        · rw [List.length_map]
          have := sub.length_le
          rw [List.length_take] at this
          omega
        · exact (o3.trans o4).new hD
        · rw [upd_same, List.map_append]
          rfl
        · rw [List.take_succ, hu]
          exact sub.append (List.Sublist.refl _)
      · exact ⟨ws, a3, b3, o3.trans o4, p4, m4, sub.trans (List.take_sublist_take_left (Nat.le_succ i))⟩
    · rintro H3 ⟨ws, a2, b2, o3, p3, m3, sub⟩
      rw [List.length_map, List.take_length] at sub
      have o13 := o1.trans o3
      have Dfree : H D = none := o1.free hD p1.at_
      have dne : D ≠ p := fun z => by rw [z] at hD; exact p1.at_ hD
      -- the number of the children
      have kids : ∀ (m : Nat) (H4 : Hp) (a3 b3 : Int), m ≤ 3 → (d = 0 → m = 0) → Off p H3 H4 → Pool H4 p a3 b3 →
          tLast spR { nx := fun x H' => Q V.non H', rt := Q } [some (.ref p), some (nv d), some (.ref ka), some (.ref ma), some (sv kw), some (.ref D), some (nv m), none, none] H4 := by
        intro m H4 a3 b3 hm hz o4 p4
        have o14 := o13.trans o4
        have k4 := o14 _ _ kne hk
        have m4 := o14 _ _ mne ‹H ma = _›
        refine ⟨_, rfl, _, rfl, _, rfl, _, rfl, by omega, by omega, fun G0 hE => ?_⟩
        rw [Int.toNat_natCast]
        have ene : G0 ≠ p := fun z => by rw [z] at hE; exact p4.at_ hE
        refine lc_it (walk_range (lo := 0) (n := m)) (fun i H' => ∃ (ts : List Tr) (vs : List V) (a' b' : Int) (FB : List Addr), Off p H4 H' ∧ Pool H' p a' b' ∧ H' G0 = some (.lst vs) ∧ (TreesAt H' FB vs (ofL ts) ∧ vs.length = ts.length ∧ FB.Nodup ∧ ∀ c ∈ FB, H4 c = none ∧ c ≠ G0) ∧ ts.length = i ∧ ∀ t ∈ ts, t.fits Ks Ms (d - 1))
          ⟨[], [], a3, b3, [], Off.refl.new hE, ⟨by rw [upd_ne (ne_of_none p4.1 hE)]; exact p4.1, p4.2⟩, upd_same, ⟨by rw [ofL, TreesAt]; exact ⟨rfl, rfl⟩, rfl, List.nodup_nil, fun c hc => by cases hc⟩, rfl, fun t z => by cases z⟩ (fun _ _ _ _ => trivial) ?_ ?_
        · rintro i x H5 H6 hi ⟨ts, vs, a4, b4, FB, o5, p5, m5, ⟨ta, vl, fn, ff⟩, len, ft⟩ ⟨rfl, rfl⟩
          have d0 : d ≠ 0 := fun z => by
            have := hz z
            omega
          refine ⟨rfl, ?_⟩
          unfold tYes
          rw [hR d0]
          have e1 : ((d : Nat) : Int) - 1 = ((d - 1 : Nat) : Int) := by omega
          have o15 := o14.trans o5
          refine iteT ⟨_, rfl, _, rfl, _, _, rfl, rfl, _, rfl, _, rfl, p, ka, ma, a4, b4, ?_, p5, o15 _ _ kne hk, o15 _ _ mne ‹H ma = _›, fun v t H7 a5 b5 A2 o7 p7 fr7 nd7 ta7 ft1 => ?_⟩
          · show [V.ref p, V.int (((d : Nat) : Int) - 1), V.ref ka, V.ref ma] = _
            rw [e1]
            rfl
          · have m7 := o7 _ _ ene m5
            have kp : ∀ c ∈ FB, ∀ u, H6 c = some u → upd H7 G0 (.lst (vs ++ [v])) c = some u := fun c hc u e => by
              rw [upd_ne (ff c hc).2]
              exact o7 c u (fun z => p4.at_ (z ▸ (ff c hc).1)) e
            have n2 : ∀ c ∈ A2, c ≠ G0 := fun c hc z => by
              have := fr7 c hc
              rw [z, m5] at this
              cases this
            have dj : ∀ c ∈ FB, c ∉ A2 := fun c hc hc2 => by
              obtain ⟨xs, e⟩ := TreesAt.lists _ _ _ ta c hc
              have := fr7 c hc2
              rw [e] at this
              cases this
            refine ⟨vs, m7, by omega, ts ++ [t], vs ++ [v], a5, b5, FB ++ A2, (o5.trans o7).new hE, ⟨by rw [upd_ne (fun z => ene z.symm)]; exact p7.1, p7.2⟩, upd_same, ⟨?_, by rw [List.length_append, List.length_append, vl]; rfl, ?_, ?_⟩, by rw [List.length_append, len]; rfl, ?_⟩
            · exact trees_snoc (TreesAt.move _ _ _ ta kp) vl (TreeAt.move _ _ _ ta7 fun c hc u e => by rw [upd_ne (n2 c hc)]; exact e)
            · exact List.nodup_append.mpr ⟨fn, nd7, fun a ha b hb e => dj a ha (e ▸ hb)⟩
            · intro c hc
              rcases List.mem_append.mp hc with hc | hc
              · exact ff c hc
              · exact ⟨o5.free (fr7 c hc) p5.at_, n2 c hc⟩
            · intro t1 h1
              rcases List.mem_append.mp h1 with h1 | h1
              · exact ft t1 h1
              · rw [List.mem_singleton.mp h1]
                exact ft1
        · rintro H5 ⟨ts, vs, a4, b4, FB, o5, p5, m5, ⟨ta, vl, fn, ff⟩, len, ft⟩
          have o15 := o14.trans o5
          refine ⟨by show 3 ≤ sizeLine; decide, fun q hq => ?_⟩
          have nq : ∀ {c u}, H5 c = some u → c ≠ q := fun e => ne_of_none e hq
          have m35 := o5 _ _ dne (o4 _ _ dne m3)
          have fl : ∀ c ∈ FB, ∃ xs, H5 c = some (.lst xs) := fun c hc => TreesAt.lists _ _ _ ta c hc
          refine fin (.ref q) (.nd kw ws (ofL ts)) _ a4 b4 (q :: D :: G0 :: FB) (o15.new (o15.free hq p5.at_)) ⟨by rw [upd_ne (nq p5.1)]; exact p5.1, p5.2⟩ (fun c hc => ?_) ?_ ?_ ?_
          · simp only [List.mem_cons] at hc
            rcases hc with rfl | rfl | rfl | hc
            · exact o15.free hq p5.at_
            · exact Dfree
            · exact o14.free hE p4.at_
            · exact o14.free (ff c hc).1 p4.at_
          · have nDG : D ≠ G0 := fun z => by
              have := o4 _ _ dne m3
              rw [z, hE] at this
              cases this
            have nDF : D ∉ FB := fun hc => by
              have := (ff D hc).1
              rw [o4 _ _ dne m3] at this
              cases this
            simp only [List.nodup_cons, List.mem_cons, not_or]
            refine ⟨⟨fun z => nq m35 z.symm, fun z => nq m5 z.symm, fun z => ?_⟩, ⟨nDG, nDF⟩, fun z => (ff G0 z).2 rfl, fn⟩
            obtain ⟨xs, e⟩ := fl q z
            rw [hq] at e
            cases e
          · rw [TreeAt]
            exact ⟨q, D, G0, vs, FB, rfl, rfl, upd_same, by rw [upd_ne (nq m35)]; exact m35, by rw [upd_ne (nq m5)]; exact m5, TreesAt.move _ _ _ ta fun c hc u e => by rw [upd_ne (nq e)]; exact e⟩
          · rw [Tr.fits]
            refine ⟨kin, sub, by rw [ofL_len]; omega, fun z => ?_, fits_of ft⟩
            have : ts = [] := List.length_eq_zero_iff.mp (by rw [len, hz z])
            rw [this]
            rfl
      refine ⟨_, rfl, _, _, rfl, rfl, _, rfl, ?_⟩
      by_cases c : (0 : Int) < ((d : Nat) : Int)
      · rw [decide_eq_true c]
        refine iteT ?_
        refine ⟨_, rfl, p, 4, a2, b2, rfl, p3, by decide, by decide, fun d3 a3 b3 d0 d1 h1 h2 h3 => ?_⟩
        obtain ⟨m, rfl⟩ : ∃ n : Nat, d3 = (n : Int) := ⟨d3.toNat, by omega⟩
        exact kids m _ a3 b3 (by omega) (fun z => by omega) Off.put ⟨upd_same, h1, h2, h3⟩
      · rw [decide_eq_false c]
        refine iteF ?_
        exact kids 0 H3 a2 b2 (by decide) (fun _ => rfl) Off.refl p3
theorem ok_nodeT {f : Addr} {fd : FuncData} {Ks Ms : List W} (F : Fun K "_law_node" "_law_node" sNode f fd) (T : Txt mg) (D1 : Has P w K mg base 1 "_law_take" ["_law_pool_here", "_law_many"] spTake)
    (mN : mg "_law_node" = some (.ref f)) (kN : PySem.W.keepIn K (.ref f) = true) (bN : Binds K fd ["_law_pool_here", "_law_depth", "_law_kinds", "_law_marks_here"] []) (hK1 : 1 ≤ Ks.length) (hK : Ks.length < 1000) (hM : Ms.length < 1000) :
    ∀ d, FnOk P w K mg base CX0 (d + 2) f fd ["_law_pool_here", "_law_depth", "_law_kinds", "_law_marks_here"] (spNodeT Ks Ms d)
  | 0 => nodeT_step F T D1 mN kN bN hK1 hK hM never_ok fun z => absurd rfl z
  | d + 1 => nodeT_step F T D1 mN kN bN hK1 hK hM (ok_nodeT F T D1 mN kN bN hK1 hK hM d) fun _ => rfl
end
end K03

namespace K03
open PySem L2 DR DM TL
abbrev sLaw : Stmt := top 36
def spLaw (K : PySem.W.Frag) : Sp := fun vs H Q _ => ∃ (a : Addr) (ns : List Int), vs = [.ref a] ∧ SqL K H a (ns.map V.int) ∧ ns.length ≤ 63 ∧ ∀ H', Q (.bl true) H'
/-- all that the law calls -/
structure LDefs (P : Program) (w : World) (K : PySem.W.Frag) (mg : Str → Option Value) (base : Heap) (C : Addr) : Prop where
  pool : Has P w K mg base 1 "_law_pool" ["_law_script", "_law_k"] (spPool K)
  node : Has P w K mg base 5 "_law_node" ["_law_pool_here", "_law_depth", "_law_kinds", "_law_marks_here"] (spNodeT KS2 MS2 3)
  edit : Has P w K mg base 103 "_law_edit" ["_law_pool_here", "_law_document", "_law_node_here"] (spEdit C)
  text : Has P w K mg base 102 "_law_text" ["_law_node_here"] (spTextW 100)
  paths : Has P w K mg base 102 "_law_paths" ["_law_node_here", "_law_path_here"] (spPathsW 100)
  every : Has P w K mg base 6 "_law_every" ["_law_one"] (spEvery C)
  parse : Has P w K mg base 5 "parse_document" ["text"] (spParse C)
  ptext : PropM P w K mg base C "text" (spTextP C)
  psize : PropM P w K mg base C "size" (spSizeP C)
  eq : ∃ f fd, FnOk P w K mg base CX0 1 f fd ["self", "other"] (spEqP K C) ∧ Binds K fd ["self", "other"] [] ∧ PySem.W.findIn K (.ref C) "__eq__" = some (some (.ref f)) ∧ PySem.W.isFn K (.ref f) = true
  nfC : PySem.W.notFirst K C (.ref C) = true
  ty : ∀ (H : Hp) (a dx : Addr) (fs : List (Str × V)), H a = some (.ins C dx fs) → TyX K H (.ref a) (.ref C)
section
variable {P : Program} {w : World} {K : PySem.W.Frag} {mg : Str → Option Value} {base : Heap}
theorem scLaw : FnScope ["_law_script", "_law_k", "_law_pool_here", "_law_node_here", "_law_document", "_law_turn", "_law_shown", "_law_other"] ["_law_script"] (defScope sLaw) := ⟨rfl, rfl, rfl, by decide +kernel, rfl, by decide +kernel, by decide +kernel⟩
theorem ok_law {f C : Addr} {fd : FuncData} (F : Fun K "law" "law" sLaw f fd) (T : Txt mg) (DC : DCls K mg C) (D : LDefs P w K mg base C) : FnOk P w K mg base CX0 104 f fd ["_law_script"] (spLaw K) := by
  obtain ⟨f1, fd1, G1, m1, k1, b1⟩ := D.pool
  obtain ⟨f3, fd3, G3, m3, k3, b3⟩ := D.node
  obtain ⟨f2, fd2, G2, m2, k2, b2⟩ := D.edit
  obtain ⟨f4, fd4, G4, m4, k4, b4⟩ := D.text
  obtain ⟨f5, fd5, G5, m5, k5, b5⟩ := D.paths
  obtain ⟨f8, fd8, G8, m8, k8, b8⟩ := D.every
  obtain ⟨f9, fd9, G9, m9, k9, b9⟩ := D.parse
  obtain ⟨pT, fT, fdT, prT, GT, bT⟩ := D.ptext
  obtain ⟨pS, fS, fdS, prS, GS, bS⟩ := D.psize
  obtain ⟨fE, fdE, GE, bE, sE, iE⟩ := D.eq
  refine F.ok scLaw (fun vs H Q E h => ?_) (fun cdv A0 outer s H vs Q E hr h => ?_)
  · obtain ⟨_, _, rfl, _⟩ := h
    rfl
  · obtain ⟨sc, ns, rfl, hS, len, fin⟩ := h
    have hu := hr.units
    have hr1 : Room 1 _ := hr.mono (by decide)
    have hr2 : Room 2 _ := hr.mono (by decide)
    have hr5 : Room 5 _ := hr.mono (by decide)
    have hr6 : Room 6 _ := hr.mono (by decide)
    have hrT : Room 102 _ := hr.mono (by decide)
    refine ⟨_, pss_cons (ps_for PassesOwn.never rfl (pi_range1 (by rfl) T.range (pa_cons (pe_callB (call_max2 rfl) (by rfl) T.max PyProof.Rows.boot_max (pa_cons pe_int (pa_cons (pe_callB (call_min2 rfl) (by rfl) T.min PyProof.Rows.boot_min (pa_cons pe_int (pa_cons (pe_callB call_len_seq (by rfl) T.len PySem.boot_len (pa_cons (pv 0) pa_nil)) pa_nil))) pa_nil))) pa_nil)) (pg_name (i := 1) scLaw.nd rfl (Or.inl rfl))
        (pss_cons (ps_set (i := 2) scLaw.nd rfl (Or.inl rfl) (pe_call G1 hr1 (by rfl) m1 k1 b1 .nil pass0 (pa_cons (pv 0) (pa_cons (pv 1) pa_nil))))
        (pss_cons (ps_set (i := 3) scLaw.nd rfl (Or.inl rfl) (pe_call G3 hr5 (by rfl) m3 k3 b3 .nil pass0 (pa_cons (pv 2) (pa_cons pe_int (pa_cons (pe_lst (pa_cons pe_str (pa_cons pe_str pa_nil))) (pa_cons (pe_lst (pa_cons pe_str (pa_cons pe_str pa_nil))) pa_nil))))))
        (pss_cons (ps_set (i := 4) scLaw.nd rfl (Or.inl rfl) (pe_call G9 hr5 (by rfl) m9 k9 b9 .nil pass0 (pa_cons (pe_call G4 hrT (by rfl) m4 k4 b4 .nil pass0 (pa_cons (pv 3) pa_nil)) pa_nil)))
        (pss_one (ps_for PassesOwn.never rfl (pi_range1 (by rfl) T.range (pa_cons pe_int pa_nil)) (pg_name (i := 5) scLaw.nd rfl (Or.inl rfl))
          (pss_cons (ps_set (i := 6) scLaw.nd rfl (Or.inl rfl) (pe_prop (pv 4) DC.cls prT GT hr2 bT .nil pass0 rfl))
          (pss_cons (ps_set (i := 7) scLaw.nd rfl (Or.inl rfl) (pe_call G2 hr (by rfl) m2 k2 b2 .nil pass0 (pa_cons (pv 2) (pa_cons (pv 4) (pa_cons (pv 3) pa_nil)))))
          (pss_cons (ps_if (PW.pt (pw_or (pt_cmpR op_ne (pe_prop (pv 4) DC.cls prT GT hr2 bT .nil pass0 rfl) (pv 6) rfl)
              (pw_or (pt_cmpR op_ne (pe_prop (pv 7) DC.cls prT GT hr2 bT .nil pass0 rfl) (pe_call G4 hrT (by rfl) m4 k4 b4 .nil pass0 (pa_cons (pv 3) pa_nil)) rfl)
              (pw_or1 (pt_cmpR (op_neD hu) (pe_call G8 hr6 (by rfl) m8 k8 b8 .nil pass0 (pa_cons (pv 7) pa_nil)) (pe_call G5 hrT (by rfl) m5 k5 b5 .nil pass0 (pa_cons (pv 3) (pa_cons (pe_tup pa_nil) pa_nil))) rfl))))) (pss_one (ps_ret pe_bl)) pss_nil)
          (pss_cons (ps_if (PW.pt (pw_or (pt_not (pt_cmpR (op_eqM GE hr1 bE sE iE pass0) (pv 7) (pe_call G9 hr5 (by rfl) m9 k9 b9 .nil pass0 (pa_cons (pe_call G4 hrT (by rfl) m4 k4 b4 .nil pass0 (pa_cons (pv 3) pa_nil)) pa_nil)) rfl))
              (pw_or1 (pt_cmpR op_ne (pe_cmpR (op_eqM GE hr1 bE sE iE pass0) (pv 7) (pv 4) rfl) (pe_cmpR op_eq (pe_prop (pv 7) DC.cls prT GT hr2 bT .nil pass0 rfl) (pv 6) rfl) rfl)))) (pss_one (ps_ret pe_bl)) pss_nil)
          (pss_cons (ps_set (i := 4) scLaw.nd rfl (Or.inl rfl) (pv 7))
          (pss_one (ps_if (pt_cmpR op_gt (pe_prop (pv 4) DC.cls prS GS hr2 bS .nil pass0 rfl) pe_int rfl) (pss_one ps_never) pss_nil)))))))))))))
      (pss_one (ps_ret pe_bl)), ?_⟩
    have B := big
    refine ⟨_, rfl, sc, _, rfl, .inl hS, _, _, rfl, _, _, rfl, ?_⟩
    generalize hn : (if (if ((List.map V.int ns).length : Int) < 12 then ((List.map V.int ns).length : Int) else 12) > 1 then (if ((List.map V.int ns).length : Int) < 12 then ((List.map V.int ns).length : Int) else 12) else 1) = n
    have n12 : 1 ≤ n ∧ n ≤ 12 := by
      rw [← hn]
      split <;> split <;> omega
    refine ⟨n, rfl, by omega, by omega, for_it (walk_range (lo := 0) (n := n.toNat)) (fun i σ H2 => ∃ o1 o2 o3 o4 o5 o6 o7 : Option V, σ = [some (.ref sc), o1, o2, o3, o4, o5, o6, o7] ∧ Same H H2) ⟨_, _, _, _, _, _, _, rfl, Same.refl _⟩ (fun _ _ _ _ _ => trivial) ?_ ?_⟩
    · rintro i x σ H1 H2 hi2 ⟨o1, o2, o3, o4, o5, o6, o7, rfl, s2⟩ ⟨rfl, rfl⟩
      have z0 : (0 : Int) + ((i : Nat) : Int) = ((i : Nat) : Int) := Int.zero_add _
      show gName 1 (V.int ((0 : Int) + ((i : Nat) : Int))) _ _ _
      rw [z0]
      refine ⟨_, rfl, _, rfl, sc, ns, _, rfl, s2.seq hS, len, by omega, by omega, fun p pa pb H3 np s3 hp => ?_⟩
      refine ⟨_, rfl, by show 2 ≤ sizeLine; decide, fun ka hka => ?_⟩
      generalize g4 : upd H3 ka _ = H4
      have s4 : Same H3 H4 := g4 ▸ same_new hka
      have k4' : H4 ka = some (.lst (KS2.map sv)) := g4 ▸ upd_same
      clear g4
      refine ⟨by show 2 ≤ sizeLine; decide, fun ma hma => ?_⟩
      generalize g6 : upd H4 ma _ = H6
      have s6 : Same H4 H6 := g6 ▸ same_new hma
      have m6 : H6 ma = some (.lst (MS2.map sv)) := g6 ▸ upd_same
      clear g6
      have p6 : Pool H6 p pa pb := ⟨s6 _ _ (s4 _ _ hp.1), hp.2⟩
      have s26 : Same H2 H6 := s3.trans (s4.trans s6)
      refine ⟨p, ka, ma, pa, pb, rfl, p6, s6 _ _ k4', m6, fun v t H7 a7 b7 A o7' p7 fr nd ta ft => ?_⟩
      have s27 : Same H2 H7 := fun x o e => o7' x o (fun z => by rw [z, np] at e; cases e) (s26 _ _ e)
      have g0 : t.wild := fits_wild (by decide +kernel) (by decide +kernel) (by decide) _ t 3 (Nat.le_refl _) ft
      have z40 : sz t ≤ 40 := Nat.le_trans (fits_size ft) (by decide)
      have pA : p ∉ A := fun hc => p6.at_ (fr p hc)
      refine ⟨_, rfl, v, t, (· ∈ A), rfl, TreeAt.node t A v ta (fun c hc => hc), g0, by omega, fun H8 s8 => ?_⟩
      obtain ⟨lT, sT, rT⟩ := wild_text g0 (by omega)
      refine ⟨toS (txt t), t.rows srt 0, rfl, lT, sT, rT, wild_few g0 (by omega), fun dd H9 s9 dc => ?_⟩
      have s79 := s8.trans s9
      refine ⟨6, rfl, by decide, by decide, for_it (walk_range (lo := 0) (n := 6)) (fun j σ Ha => ∃ (t : Tr) (A : List Addr) (a b : Int) (dd : Addr) (o5 o6 o7 : Option V), σ = [some (.ref sc), some (.int ((i : Nat) : Int)), some (.ref p), some v, some (.ref dd), o5, o6, o7] ∧
          Same H2 Ha ∧ Pool Ha p a b ∧ Own Ha p A v t ∧ (∀ c ∈ A, H2 c = none) ∧ sz t ≤ 40 + 4 * j ∧ DocAt C Ha dd (t.rows srt 0))
        ⟨t, A, a7, b7, dd, _, _, _, rfl, s27.trans s79, ⟨s79 _ _ p7.1, p7.2⟩, ⟨TreeAt.move t A v ta fun c _ u e => s79 _ _ e, nd, pA, g0⟩, fun c hc => s26.free (fr c hc), by omega, dc⟩ (fun _ _ _ _ _ => trivial) ?_ ?_⟩
      · rintro j x σ Ha Hb hj ⟨t, A, a, b, dd, o5, o6, o7, rfl, s, pool, own, fresh, szle, dc⟩ ⟨rfl, rfl⟩
        have z0 : (0 : Int) + ((j : Nat) : Int) = ((j : Nat) : Int) := Int.zero_add _
        show gName 5 (V.int ((0 : Int) + ((j : Nat) : Int))) _ _ _
        rw [z0]
        obtain ⟨dx, _, _, _, _, _, hdd, _⟩ := id dc
        refine ⟨_, rfl, dd, dx, _, rfl, hdd, dd, _, rfl, dc, ?_⟩
        refine ⟨_, rfl, _, rfl, _, rfl, p, dd, v, a, b, t, A, rfl, pool, own, by omega, dc, fun y t' A' a' b' H' off pool' own' fr' szle' dc' => ?_⟩
        have isl := TreeAt.lists t A v own.tree
        have kp : Keep Hb H' := fun c o e nl => by
          refine off c o (fun z => ?_) (fun z => ?_) e
          · rw [z, pool.1] at e
            injection e with e
            exact nl _ e.symm
          · obtain ⟨xs, hx⟩ := isl c z
            rw [hx] at e
            injection e with e
            exact nl _ e.symm
        have sO : Same H2 H' := fun c o e => by
          refine off c o (fun z => ?_) (fun z => ?_) (s c o e)
          · rw [z, np] at e
            cases e
          · rw [fresh c z] at e
            cases e
        have dcK := dc.keep kp
        have hddK : H' dd = some (.ins C dx _) := kp _ _ hdd (fun xs z => nomatch z)
        obtain ⟨dy, _, _, _, _, _, hyy, _⟩ := id dc'
        have z64 : sz t' ≤ 64 := by omega
        have ot : outM (t'.rows srt 0) = txt t' := out_text t'
        have nd' : NodeAt (· ∈ A') H' v t' := TreeAt.node t' A' v own'.tree (fun c hc => hc)
        obtain ⟨lT', sT', rT'⟩ := wild_text own'.wild (by omega)
        have nl : (t'.nodes []).length = sz t' := nodes_len t' [] 0
        have short : ∀ x ∈ t'.nodes [], x.1.length ≤ 200 := fun x hx => by
          obtain ⟨i, hi⟩ := List.mem_iff_getElem?.mp hx
          have n := node_of t' i x.1 x.2 hi
          have m : (t'.rows srt 0).getD i (0, [], []) ∈ t'.rows srt 0 := by
            rw [List.getD_eq_getElem?_getD, List.getElem?_eq_getElem n.lt]
            exact List.getElem_mem ..
          obtain ⟨q1, _⟩ := wild_rows _ t' 0 (Nat.le_refl _) own'.wild _ m
          rw [n.row] at q1
          have q1 : x.1.length + 1 ≤ 0 + sz t' := q1
          omega
        -- the old text has stayed
        refine ⟨_, rfl, dd, dx, _, rfl, hddK, dd, _, rfl, dcK, _, rfl, rfl, false, congrArg V.bl (by rw [decide_eq_true rfl]; rfl), ?_⟩
        refine iteF ?_
        have e1 : (!decide (sv (outM (t'.rows srt 0)) = sv (txt t'))) = false := by
          rw [ot, decide_eq_true rfl]
          rfl
        refine ⟨_, rfl, y, dy, _, rfl, hyy, y, _, rfl, dc', _, rfl, v, t', (· ∈ A'), rfl, nd', own'.wild, by omega, fun H12 s12 => ?_⟩
        refine ⟨rfl, false, congrArg V.bl e1, ?_⟩
        refine iteF ?_
        refine ⟨_, rfl, y, t', rfl, dc'.same s12, by omega, short, fun ED ew H13 n13 s13 m13 pe13 => ?_⟩
        have s1D := s12.trans s13
        refine ⟨_, rfl, by show 0 ≤ sizeLine; decide, fun e he => ?_⟩
        generalize g8 : upd H13 e _ = H14
        have s14 : Same H13 H14 := g8 ▸ same_new he
        have m14 : H14 e = some (.tup []) := g8 ▸ upd_same
        have s1E := s1D.trans s14
        refine ⟨v, .ref e, t', (· ∈ A'), [], rfl, NodeAt.move (fun _ h => h) (fun c u _ e => s1E _ _ e) t' v nd', by omega, ⟨e, rfl, m14⟩, by show 0 + 100 ≤ 150; decide, fun PD pw H15 n15 s15 m15 pw15 => ?_⟩
        have s1F := s1E.trans s15
        refine ⟨.list (((t'.nodes []).map (·.1)).map dint), .list (((t'.nodes []).map (·.1)).map dint), .lst (SqL.of ((s14.trans s15) _ _ m13)) (dps_pths (pe13.same (s14.trans s15))), .lst (SqL.of m15) (dps_pths pw15), shaped_pths _, shaped_pths _, false, congrArg V.bl (by rw [SeqAt.eqv_refl _ (SeqAt.canLay_of_shaped (shaped_pths _))]; rfl), ?_⟩
        refine iteF ?_
        -- it equals what its text reads as
        refine ⟨_, rfl, _, rfl, v, t', (· ∈ A'), rfl, NodeAt.move (fun _ h => h) (fun c u _ e => s1F _ _ e) t' v nd', own'.wild, by omega, fun H16 s16 => ?_⟩
        refine ⟨toS (txt t'), t'.rows srt 0, rfl, lT', sT', rT', wild_few own'.wild (by omega), fun d2 H17 s17 dc2 => ?_⟩
        have s1H := s1F.trans (s16.trans s17)
        obtain ⟨dx2, _, _, _, _, _, hd2, _⟩ := id dc2
        refine ⟨y, dy, _, .ref C, rfl, s1H _ _ hyy, .ins hd2, D.nfC, y, _, .ref d2, rfl, dc'.same s1H, .inr ⟨d2, _, rfl, dc2, D.ty _ _ _ _ hd2, ?_⟩⟩
        refine ⟨_, rfl, true, congrArg V.bl (decide_eq_true rfl), ?_⟩
        refine iteF ?_
        refine ⟨_, rfl, _, rfl, y, dy, _, .ref C, rfl, s1H _ _ hyy, .ins (s1H _ _ hddK), D.nfC, y, _, .ref dd, rfl, dc'.same s1H, .inr ⟨dd, _, rfl, dcK.same s1H, D.ty _ _ _ _ (s1H _ _ hddK), ?_⟩⟩
        refine ⟨_, rfl, ?_⟩
        have e3 : (!decide (V.bl (decide (outM (t'.rows srt 0) = outM (t.rows srt 0))) = V.bl (decide (sv (outM (t'.rows srt 0)) = sv (outM (t.rows srt 0)))))) = false := by
          rw [sv_is, decide_eq_true rfl]
          rfl
        refine ⟨_, rfl, y, dy, _, rfl, s1H _ _ hyy, y, _, rfl, dc'.same s1H, _, rfl, rfl, rfl, false, congrArg V.bl e3, ?_⟩
        refine iteF ?_
        refine ⟨_, rfl, ?_⟩
        refine ⟨_, rfl, y, dy, _, rfl, s1H _ _ hyy, y, _, rfl, dc'.same s1H, ?_⟩
        have rl : (t'.rows srt 0).length = sz t' := rfl
        have e4 : decide ((150 : Int) < (((t'.rows srt 0).length : Nat) : Int)) = false := decide_eq_false (by omega)
        refine ⟨_, _, rfl, rfl, _, rfl, ?_⟩
        rw [e4]
        refine iteF ?_
        exact ⟨t', A', a', b', y, _, _, _, rfl, sO.trans s1H, ⟨s1H _ _ pool'.1, pool'.2⟩, ⟨TreeAt.move t' A' v own'.tree fun c _ u e => s1H _ _ e, own'.nodup, own'.pool, own'.wild⟩, fun c hc => (fr' c hc).elim (fun z => fresh c z) (fun z => s.free z), by omega, dc'.same s1H⟩
      · rintro σ Ha ⟨t', A', a9, b9, d9, o5', o6', o7'', rfl, s9', _⟩
        exact ⟨_, _, _, _, _, _, _, rfl, s2.trans s9'⟩
    · rintro σ H2 ⟨o1, o2, o3, o4, o5, o6, o7, rfl, s2⟩
      exact fin _
end
end K03

namespace K03
open PySem L2 DR DM TL
theorem all_mk {l : PySem.W.OpenLaw} {w : World} {K : PySem.W.Frag} {h : Heap} {mg : Str → Option Value} {fa C f_init f_textP f_sizeP f_hasP f_eqP f_widthP f_insP f_remP f_renP f_marP f_replP f_placeP f_endP f_kidsP f_int f_between f_name f_names f_cut f_parse f_rows f_head f_text f_paths f_moved f_isPath f_pool f_take f_node f_ltext f_lpaths f_lat f_copy f_edit f_every f_law p_textP p_sizeP : Addr} (X : K.In h) (G : h.Ns mainGlobals mg) (hfa : mg "law" = some (.ref fa))
    {od_init an_init od_textP an_textP od_sizeP an_sizeP od_hasP an_hasP od_eqP an_eqP od_widthP an_widthP od_insP an_insP od_remP an_remP od_renP an_renP od_marP an_marP od_replP an_replP od_placeP an_placeP od_endP an_endP od_kidsP an_kidsP od_int an_int od_between an_between od_name an_name od_names an_names od_cut an_cut od_parse an_parse od_rows an_rows od_head an_head od_text an_text od_paths an_paths od_moved an_moved od_isPath an_isPath od_pool an_pool od_take an_take od_node an_node od_ltext an_ltext od_lpaths an_lpaths od_lat an_lat od_copy an_copy od_edit an_edit od_every an_every od_law an_law : Option Addr} {sl_init sl_textP sl_sizeP sl_hasP sl_eqP sl_widthP sl_insP sl_remP sl_renP sl_marP sl_replP sl_placeP sl_endP sl_kidsP sl_int sl_between sl_name sl_names sl_cut sl_parse sl_rows sl_head sl_text sl_paths sl_moved sl_isPath sl_pool sl_take sl_node sl_ltext sl_lpaths sl_lat sl_copy sl_edit sl_every sl_law : Array (Option Value)} {oc_init kV_init dc_init pm_init cd_init ct_init oc_textP kV_textP dc_textP pm_textP cd_textP ct_textP oc_sizeP kV_sizeP dc_sizeP pm_sizeP cd_sizeP ct_sizeP oc_hasP kV_hasP dc_hasP pm_hasP cd_hasP ct_hasP oc_eqP kV_eqP dc_eqP pm_eqP cd_eqP ct_eqP oc_widthP kV_widthP dc_widthP pm_widthP cd_widthP ct_widthP oc_insP kV_insP dc_insP pm_insP cd_insP ct_insP oc_remP kV_remP dc_remP pm_remP cd_remP ct_remP oc_renP kV_renP dc_renP pm_renP cd_renP ct_renP oc_marP kV_marP dc_marP pm_marP cd_marP ct_marP oc_replP kV_replP dc_replP pm_replP cd_replP ct_replP oc_placeP kV_placeP dc_placeP pm_placeP cd_placeP ct_placeP oc_endP kV_endP dc_endP pm_endP cd_endP ct_endP oc_kidsP kV_kidsP dc_kidsP pm_kidsP cd_kidsP ct_kidsP oc_int kV_int dc_int pm_int cd_int ct_int oc_between kV_between dc_between pm_between cd_between ct_between oc_name kV_name dc_name pm_name cd_name ct_name oc_names kV_names dc_names pm_names cd_names ct_names oc_cut kV_cut dc_cut pm_cut cd_cut ct_cut oc_parse kV_parse dc_parse pm_parse cd_parse ct_parse oc_rows kV_rows dc_rows pm_rows cd_rows ct_rows oc_head kV_head dc_head pm_head cd_head ct_head oc_text kV_text dc_text pm_text cd_text ct_text oc_paths kV_paths dc_paths pm_paths cd_paths ct_paths oc_moved kV_moved dc_moved pm_moved cd_moved ct_moved oc_isPath kV_isPath dc_isPath pm_isPath cd_isPath ct_isPath oc_pool kV_pool dc_pool pm_pool cd_pool ct_pool oc_take kV_take dc_take pm_take cd_take ct_take oc_node kV_node dc_node pm_node cd_node ct_node oc_ltext kV_ltext dc_ltext pm_ltext cd_ltext ct_ltext oc_lpaths kV_lpaths dc_lpaths pm_lpaths cd_lpaths ct_lpaths oc_lat kV_lat dc_lat pm_lat cd_lat ct_lat oc_copy kV_copy dc_copy pm_copy cd_copy ct_copy oc_edit kV_edit dc_edit pm_edit cd_edit ct_edit oc_every kV_every dc_every pm_every cd_every ct_every oc_law kV_law dc_law pm_law cd_law ct_law u_LETTERS u_LONGEST_NAME u_MOST_NODES : Value} {rest_textP rest_sizeP : List Value}
    (aC : PySem.W.nsIn K mainGlobals "Document" = some (some (.ref C)))
    (pgC : PySem.W.plainGet K C Str.empty = true)
    (hdC : PySem.W.hasDictIn K C = true)
    (poC : PySem.W.plainOver K C = true)
    (saC : PySem.W.findIn K (.ref C) "__setattr__" = some (some (.builtin "object.__setattr__")))
    (n_rows : PySem.W.findIn K (.ref C) "_rows" = some none)
    (n_paths : PySem.W.findIn K (.ref C) "_paths" = some none)
    (n_places : PySem.W.findIn K (.ref C) "_places" = some none)
    (n_text : PySem.W.findIn K (.ref C) "_text" = some none)
    (mkC : PySem.W.makesIn K C = true)
    (kC : PySem.W.keepIn K (.ref C) = true)
    (moC : PySem.W.mroIn K C (.type "object") = some true)
    (caC : PySem.W.findIn K (.ref C) "__class__" = some (some (.builtin "object.__class__")))
    (sgC : PySem.W.specialIn K (.builtin "object.__class__") "__get__" = some (some (.builtin "getset_descriptor.__get__")))
    (tkC : PySem.W.takesIn K (.builtin "object.__class__") = some true)
    (fi_init : PySem.W.findIn K (.ref C) "__init__" = some (some (.ref f_init)))
    (l_init : K.lookup f_init = some ⟨oc_init, od_init, .func (PySem.W.fnOf "__init__" "Document.__init__" (defArgs (cDoc 0)) (defBody (cDoc 0)) (defScope (cDoc 0)) .none kV_init dc_init pm_init an_init cd_init ct_init), sl_init⟩)
    (c_init : PySem.W.codeIn K cd_init "Document.__init__" = true)
    (k_init : PySem.W.keepIn K (.ref f_init) = true)
    (i_init : PySem.W.isFn K (.ref f_init) = true)
    (fi_textP : PySem.W.findIn K (.ref C) "text" = some (some (.ref p_textP)))
    (sp_textP : PySem.W.specialIn K (.ref p_textP) "__get__" = some (some (.builtin "property.__get__")))
    (tk_textP : PySem.W.takesIn K (.ref p_textP) = some true)
    (re_textP : PySem.W.recIn K p_textP "property" = some (.ref f_textP :: rest_textP))
    (l_textP : K.lookup f_textP = some ⟨oc_textP, od_textP, .func (PySem.W.fnOf "text" "Document.text" (defArgs (cDoc 1)) (defBody (cDoc 1)) (defScope (cDoc 1)) .none kV_textP dc_textP pm_textP an_textP cd_textP ct_textP), sl_textP⟩)
    (c_textP : PySem.W.codeIn K cd_textP "Document.text" = true)
    (k_textP : PySem.W.keepIn K (.ref f_textP) = true)
    (i_textP : PySem.W.isFn K (.ref f_textP) = true)
    (fi_sizeP : PySem.W.findIn K (.ref C) "size" = some (some (.ref p_sizeP)))
    (sp_sizeP : PySem.W.specialIn K (.ref p_sizeP) "__get__" = some (some (.builtin "property.__get__")))
    (tk_sizeP : PySem.W.takesIn K (.ref p_sizeP) = some true)
    (re_sizeP : PySem.W.recIn K p_sizeP "property" = some (.ref f_sizeP :: rest_sizeP))
    (l_sizeP : K.lookup f_sizeP = some ⟨oc_sizeP, od_sizeP, .func (PySem.W.fnOf "size" "Document.size" (defArgs (cDoc 2)) (defBody (cDoc 2)) (defScope (cDoc 2)) .none kV_sizeP dc_sizeP pm_sizeP an_sizeP cd_sizeP ct_sizeP), sl_sizeP⟩)
    (c_sizeP : PySem.W.codeIn K cd_sizeP "Document.size" = true)
    (k_sizeP : PySem.W.keepIn K (.ref f_sizeP) = true)
    (i_sizeP : PySem.W.isFn K (.ref f_sizeP) = true)
    (fi_hasP : PySem.W.findIn K (.ref C) "__contains__" = some (some (.ref f_hasP)))
    (l_hasP : K.lookup f_hasP = some ⟨oc_hasP, od_hasP, .func (PySem.W.fnOf "__contains__" "Document.__contains__" (defArgs (cDoc 4)) (defBody (cDoc 4)) (defScope (cDoc 4)) .none kV_hasP dc_hasP pm_hasP an_hasP cd_hasP ct_hasP), sl_hasP⟩)
    (c_hasP : PySem.W.codeIn K cd_hasP "Document.__contains__" = true)
    (k_hasP : PySem.W.keepIn K (.ref f_hasP) = true)
    (i_hasP : PySem.W.isFn K (.ref f_hasP) = true)
    (fi_eqP : PySem.W.findIn K (.ref C) "__eq__" = some (some (.ref f_eqP)))
    (l_eqP : K.lookup f_eqP = some ⟨oc_eqP, od_eqP, .func (PySem.W.fnOf "__eq__" "Document.__eq__" (defArgs (cDoc 5)) (defBody (cDoc 5)) (defScope (cDoc 5)) .none kV_eqP dc_eqP pm_eqP an_eqP cd_eqP ct_eqP), sl_eqP⟩)
    (c_eqP : PySem.W.codeIn K cd_eqP "Document.__eq__" = true)
    (k_eqP : PySem.W.keepIn K (.ref f_eqP) = true)
    (i_eqP : PySem.W.isFn K (.ref f_eqP) = true)
    (fi_widthP : PySem.W.findIn K (.ref C) "width" = some (some (.ref f_widthP)))
    (l_widthP : K.lookup f_widthP = some ⟨oc_widthP, od_widthP, .func (PySem.W.fnOf "width" "Document.width" (defArgs (cDoc 10)) (defBody (cDoc 10)) (defScope (cDoc 10)) .none kV_widthP dc_widthP pm_widthP an_widthP cd_widthP ct_widthP), sl_widthP⟩)
    (c_widthP : PySem.W.codeIn K cd_widthP "Document.width" = true)
    (k_widthP : PySem.W.keepIn K (.ref f_widthP) = true)
    (i_widthP : PySem.W.isFn K (.ref f_widthP) = true)
    (fi_insP : PySem.W.findIn K (.ref C) "inserted" = some (some (.ref f_insP)))
    (l_insP : K.lookup f_insP = some ⟨oc_insP, od_insP, .func (PySem.W.fnOf "inserted" "Document.inserted" (defArgs (cDoc 12)) (defBody (cDoc 12)) (defScope (cDoc 12)) .none kV_insP dc_insP pm_insP an_insP cd_insP ct_insP), sl_insP⟩)
    (c_insP : PySem.W.codeIn K cd_insP "Document.inserted" = true)
    (k_insP : PySem.W.keepIn K (.ref f_insP) = true)
    (i_insP : PySem.W.isFn K (.ref f_insP) = true)
    (fi_remP : PySem.W.findIn K (.ref C) "removed" = some (some (.ref f_remP)))
    (l_remP : K.lookup f_remP = some ⟨oc_remP, od_remP, .func (PySem.W.fnOf "removed" "Document.removed" (defArgs (cDoc 13)) (defBody (cDoc 13)) (defScope (cDoc 13)) .none kV_remP dc_remP pm_remP an_remP cd_remP ct_remP), sl_remP⟩)
    (c_remP : PySem.W.codeIn K cd_remP "Document.removed" = true)
    (k_remP : PySem.W.keepIn K (.ref f_remP) = true)
    (i_remP : PySem.W.isFn K (.ref f_remP) = true)
    (fi_renP : PySem.W.findIn K (.ref C) "renamed" = some (some (.ref f_renP)))
    (l_renP : K.lookup f_renP = some ⟨oc_renP, od_renP, .func (PySem.W.fnOf "renamed" "Document.renamed" (defArgs (cDoc 14)) (defBody (cDoc 14)) (defScope (cDoc 14)) .none kV_renP dc_renP pm_renP an_renP cd_renP ct_renP), sl_renP⟩)
    (c_renP : PySem.W.codeIn K cd_renP "Document.renamed" = true)
    (k_renP : PySem.W.keepIn K (.ref f_renP) = true)
    (i_renP : PySem.W.isFn K (.ref f_renP) = true)
    (fi_marP : PySem.W.findIn K (.ref C) "marked" = some (some (.ref f_marP)))
    (l_marP : K.lookup f_marP = some ⟨oc_marP, od_marP, .func (PySem.W.fnOf "marked" "Document.marked" (defArgs (cDoc 15)) (defBody (cDoc 15)) (defScope (cDoc 15)) .none kV_marP dc_marP pm_marP an_marP cd_marP ct_marP), sl_marP⟩)
    (c_marP : PySem.W.codeIn K cd_marP "Document.marked" = true)
    (k_marP : PySem.W.keepIn K (.ref f_marP) = true)
    (i_marP : PySem.W.isFn K (.ref f_marP) = true)
    (fi_replP : PySem.W.findIn K (.ref C) "_replaced" = some (some (.ref f_replP)))
    (l_replP : K.lookup f_replP = some ⟨oc_replP, od_replP, .func (PySem.W.fnOf "_replaced" "Document._replaced" (defArgs (cDoc 16)) (defBody (cDoc 16)) (defScope (cDoc 16)) .none kV_replP dc_replP pm_replP an_replP cd_replP ct_replP), sl_replP⟩)
    (c_replP : PySem.W.codeIn K cd_replP "Document._replaced" = true)
    (k_replP : PySem.W.keepIn K (.ref f_replP) = true)
    (i_replP : PySem.W.isFn K (.ref f_replP) = true)
    (fi_placeP : PySem.W.findIn K (.ref C) "number_of" = some (some (.ref f_placeP)))
    (l_placeP : K.lookup f_placeP = some ⟨oc_placeP, od_placeP, .func (PySem.W.fnOf "number_of" "Document.number_of" (defArgs (cDoc 17)) (defBody (cDoc 17)) (defScope (cDoc 17)) .none kV_placeP dc_placeP pm_placeP an_placeP cd_placeP ct_placeP), sl_placeP⟩)
    (c_placeP : PySem.W.codeIn K cd_placeP "Document.number_of" = true)
    (k_placeP : PySem.W.keepIn K (.ref f_placeP) = true)
    (i_placeP : PySem.W.isFn K (.ref f_placeP) = true)
    (fi_endP : PySem.W.findIn K (.ref C) "_end" = some (some (.ref f_endP)))
    (l_endP : K.lookup f_endP = some ⟨oc_endP, od_endP, .func (PySem.W.fnOf "_end" "Document._end" (defArgs (cDoc 18)) (defBody (cDoc 18)) (defScope (cDoc 18)) .none kV_endP dc_endP pm_endP an_endP cd_endP ct_endP), sl_endP⟩)
    (c_endP : PySem.W.codeIn K cd_endP "Document._end" = true)
    (k_endP : PySem.W.keepIn K (.ref f_endP) = true)
    (i_endP : PySem.W.isFn K (.ref f_endP) = true)
    (fi_kidsP : PySem.W.findIn K (.ref C) "_children" = some (some (.ref f_kidsP)))
    (l_kidsP : K.lookup f_kidsP = some ⟨oc_kidsP, od_kidsP, .func (PySem.W.fnOf "_children" "Document._children" (defArgs (cDoc 19)) (defBody (cDoc 19)) (defScope (cDoc 19)) .none kV_kidsP dc_kidsP pm_kidsP an_kidsP cd_kidsP ct_kidsP), sl_kidsP⟩)
    (c_kidsP : PySem.W.codeIn K cd_kidsP "Document._children" = true)
    (k_kidsP : PySem.W.keepIn K (.ref f_kidsP) = true)
    (i_kidsP : PySem.W.isFn K (.ref f_kidsP) = true)
    (a_int : PySem.W.nsIn K mainGlobals "is_integer" = some (some (.ref f_int)))
    (l_int : K.lookup f_int = some ⟨oc_int, od_int, .func (PySem.W.fnOf "is_integer" "is_integer" (defArgs sInt) (defBody sInt) (defScope sInt) .none kV_int dc_int pm_int an_int cd_int ct_int), sl_int⟩)
    (c_int : PySem.W.codeIn K cd_int "is_integer" = true)
    (k_int : PySem.W.keepIn K (.ref f_int) = true)
    (a_between : PySem.W.nsIn K mainGlobals "is_between" = some (some (.ref f_between)))
    (l_between : K.lookup f_between = some ⟨oc_between, od_between, .func (PySem.W.fnOf "is_between" "is_between" (defArgs sBetween) (defBody sBetween) (defScope sBetween) .none kV_between dc_between pm_between an_between cd_between ct_between), sl_between⟩)
    (c_between : PySem.W.codeIn K cd_between "is_between" = true)
    (k_between : PySem.W.keepIn K (.ref f_between) = true)
    (a_name : PySem.W.nsIn K mainGlobals "is_name" = some (some (.ref f_name)))
    (l_name : K.lookup f_name = some ⟨oc_name, od_name, .func (PySem.W.fnOf "is_name" "is_name" (defArgs sName) (defBody sName) (defScope sName) .none kV_name dc_name pm_name an_name cd_name ct_name), sl_name⟩)
    (c_name : PySem.W.codeIn K cd_name "is_name" = true)
    (k_name : PySem.W.keepIn K (.ref f_name) = true)
    (a_names : PySem.W.nsIn K mainGlobals "are_names" = some (some (.ref f_names)))
    (l_names : K.lookup f_names = some ⟨oc_names, od_names, .func (PySem.W.fnOf "are_names" "are_names" (defArgs sNames) (defBody sNames) (defScope sNames) .none kV_names dc_names pm_names an_names cd_names ct_names), sl_names⟩)
    (c_names : PySem.W.codeIn K cd_names "are_names" = true)
    (k_names : PySem.W.keepIn K (.ref f_names) = true)
    (a_cut : PySem.W.nsIn K mainGlobals "cut" = some (some (.ref f_cut)))
    (l_cut : K.lookup f_cut = some ⟨oc_cut, od_cut, .func (PySem.W.fnOf "cut" "cut" (defArgs sCut) (defBody sCut) (defScope sCut) .none kV_cut dc_cut pm_cut an_cut cd_cut ct_cut), sl_cut⟩)
    (c_cut : PySem.W.codeIn K cd_cut "cut" = true)
    (k_cut : PySem.W.keepIn K (.ref f_cut) = true)
    (a_parse : PySem.W.nsIn K mainGlobals "parse_document" = some (some (.ref f_parse)))
    (l_parse : K.lookup f_parse = some ⟨oc_parse, od_parse, .func (PySem.W.fnOf "parse_document" "parse_document" (defArgs sParse) (defBody sParse) (defScope sParse) .none kV_parse dc_parse pm_parse an_parse cd_parse ct_parse), sl_parse⟩)
    (c_parse : PySem.W.codeIn K cd_parse "parse_document" = true)
    (k_parse : PySem.W.keepIn K (.ref f_parse) = true)
    (a_rows : PySem.W.nsIn K mainGlobals "read_rows" = some (some (.ref f_rows)))
    (l_rows : K.lookup f_rows = some ⟨oc_rows, od_rows, .func (PySem.W.fnOf "read_rows" "read_rows" (defArgs sRows) (defBody sRows) (defScope sRows) .none kV_rows dc_rows pm_rows an_rows cd_rows ct_rows), sl_rows⟩)
    (c_rows : PySem.W.codeIn K cd_rows "read_rows" = true)
    (k_rows : PySem.W.keepIn K (.ref f_rows) = true)
    (a_head : PySem.W.nsIn K mainGlobals "read_head" = some (some (.ref f_head)))
    (l_head : K.lookup f_head = some ⟨oc_head, od_head, .func (PySem.W.fnOf "read_head" "read_head" (defArgs sHead) (defBody sHead) (defScope sHead) .none kV_head dc_head pm_head an_head cd_head ct_head), sl_head⟩)
    (c_head : PySem.W.codeIn K cd_head "read_head" = true)
    (k_head : PySem.W.keepIn K (.ref f_head) = true)
    (a_text : PySem.W.nsIn K mainGlobals "text_of" = some (some (.ref f_text)))
    (l_text : K.lookup f_text = some ⟨oc_text, od_text, .func (PySem.W.fnOf "text_of" "text_of" (defArgs sText) (defBody sText) (defScope sText) .none kV_text dc_text pm_text an_text cd_text ct_text), sl_text⟩)
    (c_text : PySem.W.codeIn K cd_text "text_of" = true)
    (k_text : PySem.W.keepIn K (.ref f_text) = true)
    (a_paths : PySem.W.nsIn K mainGlobals "paths_of" = some (some (.ref f_paths)))
    (l_paths : K.lookup f_paths = some ⟨oc_paths, od_paths, .func (PySem.W.fnOf "paths_of" "paths_of" (defArgs sPaths) (defBody sPaths) (defScope sPaths) .none kV_paths dc_paths pm_paths an_paths cd_paths ct_paths), sl_paths⟩)
    (c_paths : PySem.W.codeIn K cd_paths "paths_of" = true)
    (k_paths : PySem.W.keepIn K (.ref f_paths) = true)
    (a_moved : PySem.W.nsIn K mainGlobals "moved" = some (some (.ref f_moved)))
    (l_moved : K.lookup f_moved = some ⟨oc_moved, od_moved, .func (PySem.W.fnOf "moved" "moved" (defArgs sMoved) (defBody sMoved) (defScope sMoved) .none kV_moved dc_moved pm_moved an_moved cd_moved ct_moved), sl_moved⟩)
    (c_moved : PySem.W.codeIn K cd_moved "moved" = true)
    (k_moved : PySem.W.keepIn K (.ref f_moved) = true)
    (a_isPath : PySem.W.nsIn K mainGlobals "is_path" = some (some (.ref f_isPath)))
    (l_isPath : K.lookup f_isPath = some ⟨oc_isPath, od_isPath, .func (PySem.W.fnOf "is_path" "is_path" (defArgs sIsPath) (defBody sIsPath) (defScope sIsPath) .none kV_isPath dc_isPath pm_isPath an_isPath cd_isPath ct_isPath), sl_isPath⟩)
    (c_isPath : PySem.W.codeIn K cd_isPath "is_path" = true)
    (k_isPath : PySem.W.keepIn K (.ref f_isPath) = true)
    (a_pool : PySem.W.nsIn K mainGlobals "_law_pool" = some (some (.ref f_pool)))
    (l_pool : K.lookup f_pool = some ⟨oc_pool, od_pool, .func (PySem.W.fnOf "_law_pool" "_law_pool" (defArgs sPool) (defBody sPool) (defScope sPool) .none kV_pool dc_pool pm_pool an_pool cd_pool ct_pool), sl_pool⟩)
    (c_pool : PySem.W.codeIn K cd_pool "_law_pool" = true)
    (k_pool : PySem.W.keepIn K (.ref f_pool) = true)
    (a_take : PySem.W.nsIn K mainGlobals "_law_take" = some (some (.ref f_take)))
    (l_take : K.lookup f_take = some ⟨oc_take, od_take, .func (PySem.W.fnOf "_law_take" "_law_take" (defArgs sTake) (defBody sTake) (defScope sTake) .none kV_take dc_take pm_take an_take cd_take ct_take), sl_take⟩)
    (c_take : PySem.W.codeIn K cd_take "_law_take" = true)
    (k_take : PySem.W.keepIn K (.ref f_take) = true)
    (a_node : PySem.W.nsIn K mainGlobals "_law_node" = some (some (.ref f_node)))
    (l_node : K.lookup f_node = some ⟨oc_node, od_node, .func (PySem.W.fnOf "_law_node" "_law_node" (defArgs sNode) (defBody sNode) (defScope sNode) .none kV_node dc_node pm_node an_node cd_node ct_node), sl_node⟩)
    (c_node : PySem.W.codeIn K cd_node "_law_node" = true)
    (k_node : PySem.W.keepIn K (.ref f_node) = true)
    (a_ltext : PySem.W.nsIn K mainGlobals "_law_text" = some (some (.ref f_ltext)))
    (l_ltext : K.lookup f_ltext = some ⟨oc_ltext, od_ltext, .func (PySem.W.fnOf "_law_text" "_law_text" (defArgs sLText) (defBody sLText) (defScope sLText) .none kV_ltext dc_ltext pm_ltext an_ltext cd_ltext ct_ltext), sl_ltext⟩)
    (c_ltext : PySem.W.codeIn K cd_ltext "_law_text" = true)
    (k_ltext : PySem.W.keepIn K (.ref f_ltext) = true)
    (a_lpaths : PySem.W.nsIn K mainGlobals "_law_paths" = some (some (.ref f_lpaths)))
    (l_lpaths : K.lookup f_lpaths = some ⟨oc_lpaths, od_lpaths, .func (PySem.W.fnOf "_law_paths" "_law_paths" (defArgs sLPaths) (defBody sLPaths) (defScope sLPaths) .none kV_lpaths dc_lpaths pm_lpaths an_lpaths cd_lpaths ct_lpaths), sl_lpaths⟩)
    (c_lpaths : PySem.W.codeIn K cd_lpaths "_law_paths" = true)
    (k_lpaths : PySem.W.keepIn K (.ref f_lpaths) = true)
    (a_lat : PySem.W.nsIn K mainGlobals "_law_at" = some (some (.ref f_lat)))
    (l_lat : K.lookup f_lat = some ⟨oc_lat, od_lat, .func (PySem.W.fnOf "_law_at" "_law_at" (defArgs sLAt) (defBody sLAt) (defScope sLAt) .none kV_lat dc_lat pm_lat an_lat cd_lat ct_lat), sl_lat⟩)
    (c_lat : PySem.W.codeIn K cd_lat "_law_at" = true)
    (k_lat : PySem.W.keepIn K (.ref f_lat) = true)
    (a_copy : PySem.W.nsIn K mainGlobals "_law_copy" = some (some (.ref f_copy)))
    (l_copy : K.lookup f_copy = some ⟨oc_copy, od_copy, .func (PySem.W.fnOf "_law_copy" "_law_copy" (defArgs sCopy) (defBody sCopy) (defScope sCopy) .none kV_copy dc_copy pm_copy an_copy cd_copy ct_copy), sl_copy⟩)
    (c_copy : PySem.W.codeIn K cd_copy "_law_copy" = true)
    (k_copy : PySem.W.keepIn K (.ref f_copy) = true)
    (a_edit : PySem.W.nsIn K mainGlobals "_law_edit" = some (some (.ref f_edit)))
    (l_edit : K.lookup f_edit = some ⟨oc_edit, od_edit, .func (PySem.W.fnOf "_law_edit" "_law_edit" (defArgs sEdit) (defBody sEdit) (defScope sEdit) .none kV_edit dc_edit pm_edit an_edit cd_edit ct_edit), sl_edit⟩)
    (c_edit : PySem.W.codeIn K cd_edit "_law_edit" = true)
    (k_edit : PySem.W.keepIn K (.ref f_edit) = true)
    (a_every : PySem.W.nsIn K mainGlobals "_law_every" = some (some (.ref f_every)))
    (l_every : K.lookup f_every = some ⟨oc_every, od_every, .func (PySem.W.fnOf "_law_every" "_law_every" (defArgs sEvery) (defBody sEvery) (defScope sEvery) .none kV_every dc_every pm_every an_every cd_every ct_every), sl_every⟩)
    (c_every : PySem.W.codeIn K cd_every "_law_every" = true)
    (k_every : PySem.W.keepIn K (.ref f_every) = true)
    (a_law : PySem.W.nsIn K mainGlobals "law" = some (some (.ref f_law)))
    (l_law : K.lookup f_law = some ⟨oc_law, od_law, .func (PySem.W.fnOf "law" "law" (defArgs sLaw) (defBody sLaw) (defScope sLaw) .none kV_law dc_law pm_law an_law cd_law ct_law), sl_law⟩)
    (c_law : PySem.W.codeIn K cd_law "law" = true)
    (k_law : PySem.W.keepIn K (.ref f_law) = true)
    (z_int : PySem.W.nsIn K mainGlobals "int" = some none)
    (z_bool : PySem.W.nsIn K mainGlobals "bool" = some none)
    (z_str : PySem.W.nsIn K mainGlobals "str" = some none)
    (z_list : PySem.W.nsIn K mainGlobals "list" = some none)
    (z_tuple : PySem.W.nsIn K mainGlobals "tuple" = some none)
    (z_set : PySem.W.nsIn K mainGlobals "set" = some none)
    (z_len : PySem.W.nsIn K mainGlobals "len" = some none)
    (z_all : PySem.W.nsIn K mainGlobals "all" = some none)
    (z_sorted : PySem.W.nsIn K mainGlobals "sorted" = some none)
    (z_isinstance : PySem.W.nsIn K mainGlobals "isinstance" = some none)
    (z_enumerate : PySem.W.nsIn K mainGlobals "enumerate" = some none)
    (z_range : PySem.W.nsIn K mainGlobals "range" = some none)
    (z_max : PySem.W.nsIn K mainGlobals "max" = some none)
    (z_min : PySem.W.nsIn K mainGlobals "min" = some none)
    (g_LETTERS : PySem.W.nsIn K mainGlobals "LETTERS" = some (some u_LETTERS))
    (r_LETTERS : RelV (.str (toS lets)) u_LETTERS)
    (g_LONGEST_NAME : PySem.W.nsIn K mainGlobals "LONGEST_NAME" = some (some u_LONGEST_NAME))
    (r_LONGEST_NAME : RelV (.int 8) u_LONGEST_NAME)
    (g_MOST_NODES : PySem.W.nsIn K mainGlobals "MOST_NODES" = some (some u_MOST_NODES))
    (r_MOST_NODES : RelV (.int 200) u_MOST_NODES)
    (kitC : PySem.W.kitOne K (.ref C) (.ref C) = some true)
    (nfC : PySem.W.notFirst K C (.ref C) = true) :
    ∃ fd : FuncData, (∀ (s : Shared) (v : Value), BindsTo s fd ⟨[v], []⟩ [("_law_script", v)]) ∧ ∀ base : Heap, K.In base → base.Ns mainGlobals mg → FnI l.prog w K mg base CX0 104 fa fd ["_law_script"] (spLaw K) := by
  have e := hfa.symm.trans (PySem.W.mg_of X G a_law)
  cases e
  have F_init := fun_mk (st := (cDoc 0)) l_init c_init k_init
  have F_textP := fun_mk (st := (cDoc 1)) l_textP c_textP k_textP
  have F_sizeP := fun_mk (st := (cDoc 2)) l_sizeP c_sizeP k_sizeP
  have F_hasP := fun_mk (st := (cDoc 4)) l_hasP c_hasP k_hasP
  have F_eqP := fun_mk (st := (cDoc 5)) l_eqP c_eqP k_eqP
  have F_widthP := fun_mk (st := (cDoc 10)) l_widthP c_widthP k_widthP
  have F_insP := fun_mk (st := (cDoc 12)) l_insP c_insP k_insP
  have F_remP := fun_mk (st := (cDoc 13)) l_remP c_remP k_remP
  have F_renP := fun_mk (st := (cDoc 14)) l_renP c_renP k_renP
  have F_marP := fun_mk (st := (cDoc 15)) l_marP c_marP k_marP
  have F_replP := fun_mk (st := (cDoc 16)) l_replP c_replP k_replP
  have F_placeP := fun_mk (st := (cDoc 17)) l_placeP c_placeP k_placeP
  have F_endP := fun_mk (st := (cDoc 18)) l_endP c_endP k_endP
  have F_kidsP := fun_mk (st := (cDoc 19)) l_kidsP c_kidsP k_kidsP
  have F_int := fun_mk (st := sInt) l_int c_int k_int
  have F_between := fun_mk (st := sBetween) l_between c_between k_between
  have F_name := fun_mk (st := sName) l_name c_name k_name
  have F_names := fun_mk (st := sNames) l_names c_names k_names
  have F_cut := fun_mk (st := sCut) l_cut c_cut k_cut
  have F_parse := fun_mk (st := sParse) l_parse c_parse k_parse
  have F_rows := fun_mk (st := sRows) l_rows c_rows k_rows
  have F_head := fun_mk (st := sHead) l_head c_head k_head
  have F_text := fun_mk (st := sText) l_text c_text k_text
  have F_paths := fun_mk (st := sPaths) l_paths c_paths k_paths
  have F_moved := fun_mk (st := sMoved) l_moved c_moved k_moved
  have F_isPath := fun_mk (st := sIsPath) l_isPath c_isPath k_isPath
  have F_pool := fun_mk (st := sPool) l_pool c_pool k_pool
  have F_take := fun_mk (st := sTake) l_take c_take k_take
  have F_node := fun_mk (st := sNode) l_node c_node k_node
  have F_ltext := fun_mk (st := sLText) l_ltext c_ltext k_ltext
  have F_lpaths := fun_mk (st := sLPaths) l_lpaths c_lpaths k_lpaths
  have F_lat := fun_mk (st := sLAt) l_lat c_lat k_lat
  have F_copy := fun_mk (st := sCopy) l_copy c_copy k_copy
  have F_edit := fun_mk (st := sEdit) l_edit c_edit k_edit
  have F_every := fun_mk (st := sEvery) l_every c_every k_every
  have F_law := fun_mk (st := sLaw) l_law c_law k_law
  have T : Txt mg := ⟨PySem.W.mg_none_of X G z_int, PySem.W.mg_none_of X G z_bool, PySem.W.mg_none_of X G z_str, PySem.W.mg_none_of X G z_list, PySem.W.mg_none_of X G z_tuple, PySem.W.mg_none_of X G z_set, PySem.W.mg_none_of X G z_len, PySem.W.mg_none_of X G z_all, PySem.W.mg_none_of X G z_sorted, PySem.W.mg_none_of X G z_isinstance, PySem.W.mg_none_of X G z_enumerate, PySem.W.mg_none_of X G z_range, PySem.W.mg_none_of X G z_max, PySem.W.mg_none_of X G z_min, ⟨_, PySem.W.mg_of X G g_LETTERS, r_LETTERS⟩, ⟨_, PySem.W.mg_of X G g_LONGEST_NAME, r_LONGEST_NAME⟩, ⟨_, PySem.W.mg_of X G g_MOST_NODES, r_MOST_NODES⟩⟩
  have DC : DCls K mg C := ⟨⟨pgC, hdC, poC, saC⟩, n_rows, n_paths, n_places, n_text⟩
  have tyD : ∀ (H : Hp) (a dx : Addr) (fs : List (Str × V)), H a = some (.ins C dx fs) → TyX K H (.ref a) (.ref C) := fun H a dx fs e => .base (.ins e DC.cls caC sgC tkC moC)
  have b_init := F_init.binds (ps := ["self", "rows"]) fun _ _ _ _ _ _ us hl => match us, hl with | [_, _], _ => rfl
  have b_textP := F_textP.binds (ps := ["self"]) fun _ _ _ _ _ _ us hl => match us, hl with | [_], _ => rfl
  have b_sizeP := F_sizeP.binds (ps := ["self"]) fun _ _ _ _ _ _ us hl => match us, hl with | [_], _ => rfl
  have b_hasP := F_hasP.binds (ps := ["self", "path"]) fun _ _ _ _ _ _ us hl => match us, hl with | [_, _], _ => rfl
  have b_eqP := F_eqP.binds (ps := ["self", "other"]) fun _ _ _ _ _ _ us hl => match us, hl with | [_, _], _ => rfl
  have b_widthP := F_widthP.binds (ps := ["self", "path"]) fun _ _ _ _ _ _ us hl => match us, hl with | [_, _], _ => rfl
  have b_insP := F_insP.binds (ps := ["self", "path", "index", "part"]) fun _ _ _ _ _ _ us hl => match us, hl with | [_, _, _, _], _ => rfl
  have b_remP := F_remP.binds (ps := ["self", "path"]) fun _ _ _ _ _ _ us hl => match us, hl with | [_, _], _ => rfl
  have b_renP := F_renP.binds (ps := ["self", "path", "kind"]) fun _ _ _ _ _ _ us hl => match us, hl with | [_, _, _], _ => rfl
  have b_marP := F_marP.binds (ps := ["self", "path", "marks"]) fun _ _ _ _ _ _ us hl => match us, hl with | [_, _, _], _ => rfl
  have b_replP := F_replP.binds (ps := ["self", "at", "row"]) fun _ _ _ _ _ _ us hl => match us, hl with | [_, _, _], _ => rfl
  have b_placeP := F_placeP.binds (ps := ["self", "path"]) fun _ _ _ _ _ _ us hl => match us, hl with | [_, _], _ => rfl
  have b_endP := F_endP.binds (ps := ["self", "at"]) fun _ _ _ _ _ _ us hl => match us, hl with | [_, _], _ => rfl
  have b_kidsP := F_kidsP.binds (ps := ["self", "at"]) fun _ _ _ _ _ _ us hl => match us, hl with | [_, _], _ => rfl
  have b_int := F_int.binds (ps := ["value"]) fun _ _ _ _ _ _ us hl => match us, hl with | [_], _ => rfl
  have b_between := F_between.binds (ps := ["value", "least", "most"]) fun _ _ _ _ _ _ us hl => match us, hl with | [_, _, _], _ => rfl
  have b_name := F_name.binds (ps := ["value"]) fun _ _ _ _ _ _ us hl => match us, hl with | [_], _ => rfl
  have b_names := F_names.binds (ps := ["values"]) fun _ _ _ _ _ _ us hl => match us, hl with | [_], _ => rfl
  have b_cut := F_cut.binds (ps := ["text", "letters", "signs"]) fun _ _ _ _ _ _ us hl => match us, hl with | [_, _, _], _ => rfl
  have b_parse := F_parse.binds (ps := ["text"]) fun _ _ _ _ _ _ us hl => match us, hl with | [_], _ => rfl
  have b_rows := F_rows.binds (ps := ["text"]) fun _ _ _ _ _ _ us hl => match us, hl with | [_], _ => rfl
  have b_head := F_head.binds (ps := ["text"]) fun _ _ _ _ _ _ us hl => match us, hl with | [_], _ => rfl
  have b_text := F_text.binds (ps := ["rows"]) fun _ _ _ _ _ _ us hl => match us, hl with | [_], _ => rfl
  have b_paths := F_paths.binds (ps := ["rows"]) fun _ _ _ _ _ _ us hl => match us, hl with | [_], _ => rfl
  have b_moved := F_moved.binds (ps := ["rows", "by"]) fun _ _ _ _ _ _ us hl => match us, hl with | [_, _], _ => rfl
  have b_isPath := F_isPath.binds (ps := ["value"]) fun _ _ _ _ _ _ us hl => match us, hl with | [_], _ => rfl
  have b_pool := F_pool.binds (ps := ["_law_script", "_law_k"]) fun _ _ _ _ _ _ us hl => match us, hl with | [_, _], _ => rfl
  have b_take := F_take.binds (ps := ["_law_pool_here", "_law_many"]) fun _ _ _ _ _ _ us hl => match us, hl with | [_, _], _ => rfl
  have b_node := F_node.binds (ps := ["_law_pool_here", "_law_depth", "_law_kinds", "_law_marks_here"]) fun _ _ _ _ _ _ us hl => match us, hl with | [_, _, _, _], _ => rfl
  have b_ltext := F_ltext.binds (ps := ["_law_node_here"]) fun _ _ _ _ _ _ us hl => match us, hl with | [_], _ => rfl
  have b_lpaths := F_lpaths.binds (ps := ["_law_node_here", "_law_path_here"]) fun _ _ _ _ _ _ us hl => match us, hl with | [_, _], _ => rfl
  have b_lat := F_lat.binds (ps := ["_law_node_here", "_law_path_here"]) fun _ _ _ _ _ _ us hl => match us, hl with | [_, _], _ => rfl
  have b_copy := F_copy.binds (ps := ["_law_node_here"]) fun _ _ _ _ _ _ us hl => match us, hl with | [_], _ => rfl
  have b_edit := F_edit.binds (ps := ["_law_pool_here", "_law_document", "_law_node_here"]) fun _ _ _ _ _ _ us hl => match us, hl with | [_, _, _], _ => rfl
  have b_every := F_every.binds (ps := ["_law_one"]) fun _ _ _ _ _ _ us hl => match us, hl with | [_], _ => rfl
  refine ⟨PySem.W.fnOf "law" "law" (defArgs sLaw) (defBody sLaw) (defScope sLaw) .none kV_law dc_law pm_law an_law cd_law ct_law, fun s v => .of_eq rfl, fun base _ _ => FnI.any ?_⟩
  have h_int : Has l.prog w K mg base 1 "is_integer" ["value"] (spInt K) := ⟨f_int, _, ok_int F_int T, PySem.W.mg_of X G a_int, k_int, b_int⟩
  have h_between : Has l.prog w K mg base 2 "is_between" ["value", "least", "most"] spBetween := ⟨f_between, _, ok_between F_between h_int, PySem.W.mg_of X G a_between, k_between, b_between⟩
  have h_name : Has l.prog w K mg base 1 "is_name" ["value"] spName := ⟨f_name, _, ok_name F_name T, PySem.W.mg_of X G a_name, k_name, b_name⟩
  have h_names : Has l.prog w K mg base 2 "are_names" ["values"] (spNames K) := ⟨f_names, _, ok_names F_names T h_name, PySem.W.mg_of X G a_names, k_names, b_names⟩
  have h_namesU : Has l.prog w K mg base 2 "are_names" ["values"] (spNamesU K) := ⟨f_names, _, fn_or (ok_names F_names T h_name) (ok_namesT F_names T h_name), PySem.W.mg_of X G a_names, k_names, b_names⟩
  have h_cut : Has l.prog w K mg base 1 "cut" ["text", "letters", "signs"] spCut := ⟨f_cut, _, ok_cut F_cut, PySem.W.mg_of X G a_cut, k_cut, b_cut⟩
  have h_head : Has l.prog w K mg base 3 "read_head" ["text"] spHead := ⟨f_head, _, ok_head F_head T h_name h_names, PySem.W.mg_of X G a_head, k_head, b_head⟩
  have h_rows : Has l.prog w K mg base 4 "read_rows" ["text"] spRows := ⟨f_rows, _, ok_rows F_rows T h_cut h_head, PySem.W.mg_of X G a_rows, k_rows, b_rows⟩
  have h_text : Has l.prog w K mg base 1 "text_of" ["rows"] spText := ⟨f_text, _, ok_text F_text, PySem.W.mg_of X G a_text, k_text, b_text⟩
  have h_paths : Has l.prog w K mg base 1 "paths_of" ["rows"] spPaths := ⟨f_paths, _, ok_paths F_paths T, PySem.W.mg_of X G a_paths, k_paths, b_paths⟩
  have h_moved : Has l.prog w K mg base 1 "moved" ["rows", "by"] spMoved := ⟨f_moved, _, ok_moved F_moved T, PySem.W.mg_of X G a_moved, k_moved, b_moved⟩
  have h_isPath : Has l.prog w K mg base 2 "is_path" ["value"] (spIsPath K) := ⟨f_isPath, _, ok_isPath F_isPath T h_int, PySem.W.mg_of X G a_isPath, k_isPath, b_isPath⟩
  have h_make : C8.Mak l.prog w K mg base 2 "Document" C (spInit C) [] := ⟨f_init, _, ["self", "rows"], [], ⟨mkC, fi_init, i_init, kC⟩, ok_init F_init T DC h_paths h_text, PySem.W.mg_of X G aC, b_init, .nil⟩
  have h_textP : PropM l.prog w K mg base C "text" (spTextP C) := ⟨p_textP, f_textP, _, ⟨fi_textP, sp_textP, tk_textP, ⟨_, re_textP⟩⟩, ok_textP F_textP DC, b_textP⟩
  have h_sizeP : PropM l.prog w K mg base C "size" (spSizeP C) := ⟨p_sizeP, f_sizeP, _, ⟨fi_sizeP, sp_sizeP, tk_sizeP, ⟨_, re_sizeP⟩⟩, ok_sizeP F_sizeP T DC, b_sizeP⟩
  have h_in : HasIn l.prog w K mg base C := ⟨f_hasP, _, ok_hasP F_hasP DC h_isPath, b_hasP, fi_hasP, i_hasP⟩
  have h_placeP : C8.Met l.prog w K mg base 4 C "number_of" (spPlaceP C) [] := ⟨f_placeP, _, ["self", "path"], [], DC.cls, ⟨fi_placeP, i_placeP, k_placeP⟩, ok_placeP F_placeP DC h_in, b_placeP, .nil⟩
  have h_endP : C8.Met l.prog w K mg base 1 C "_end" (spEndP C) [] := ⟨f_endP, _, ["self", "at"], [], DC.cls, ⟨fi_endP, i_endP, k_endP⟩, ok_endP F_endP T DC, b_endP, .nil⟩
  have h_kidsP : C8.Met l.prog w K mg base 2 C "_children" (spKidsP C) [] := ⟨f_kidsP, _, ["self", "at"], [], DC.cls, ⟨fi_kidsP, i_kidsP, k_kidsP⟩, ok_kidsP F_kidsP T DC h_endP, b_kidsP, .nil⟩
  have h_widthP : C8.Met l.prog w K mg base 5 C "width" (spWidthP C) [] := ⟨f_widthP, _, ["self", "path"], [], DC.cls, ⟨fi_widthP, i_widthP, k_widthP⟩, ok_widthP F_widthP T DC h_placeP h_kidsP, b_widthP, .nil⟩
  have h_replP : C8.Met l.prog w K mg base 4 C "_replaced" (spReplaced C) [] := ⟨f_replP, _, ["self", "at", "row"], [], DC.cls, ⟨fi_replP, i_replP, k_replP⟩, ok_replaced F_replP DC h_make, b_replP, .nil⟩
  have h_pool : Has l.prog w K mg base 1 "_law_pool" ["_law_script", "_law_k"] (spPool K) := ⟨f_pool, _, ok_pool F_pool T, PySem.W.mg_of X G a_pool, k_pool, b_pool⟩
  have h_take : Has l.prog w K mg base 1 "_law_take" ["_law_pool_here", "_law_many"] spTake := ⟨f_take, _, ok_take F_take T, PySem.W.mg_of X G a_take, k_take, b_take⟩
  have h_node : Has l.prog w K mg base 3 "_law_node" ["_law_pool_here", "_law_depth", "_law_kinds", "_law_marks_here"] (spNode KS2 MS2 1) := ⟨f_node, _, ok_node F_node T h_take (PySem.W.mg_of X G a_node) k_node b_node (by decide) (by decide) (by decide) 1, PySem.W.mg_of X G a_node, k_node, b_node⟩
  have h_nodeT : Has l.prog w K mg base 5 "_law_node" ["_law_pool_here", "_law_depth", "_law_kinds", "_law_marks_here"] (spNodeT KS2 MS2 3) := ⟨f_node, _, ok_nodeT F_node T h_take (PySem.W.mg_of X G a_node) k_node b_node (by decide) (by decide) (by decide) 3, PySem.W.mg_of X G a_node, k_node, b_node⟩
  have h_ltext : Has l.prog w K mg base 102 "_law_text" ["_law_node_here"] (spTextW 100) := ⟨f_ltext, _, ok_wtext F_ltext T (PySem.W.mg_of X G a_ltext) k_ltext b_ltext 100 (Nat.le_refl _), PySem.W.mg_of X G a_ltext, k_ltext, b_ltext⟩
  have h_lpaths : Has l.prog w K mg base 102 "_law_paths" ["_law_node_here", "_law_path_here"] (spPathsW 100) := ⟨f_lpaths, _, ok_wpaths F_lpaths T (PySem.W.mg_of X G a_lpaths) k_lpaths b_lpaths 100 (Nat.le_refl _), PySem.W.mg_of X G a_lpaths, k_lpaths, b_lpaths⟩
  have h_lat : Has l.prog w K mg base 1 "_law_at" ["_law_node_here", "_law_path_here"] spAtW := ⟨f_lat, _, ok_wat F_lat, PySem.W.mg_of X G a_lat, k_lat, b_lat⟩
  have h_copy : Has l.prog w K mg base 102 "_law_copy" ["_law_node_here"] (spCopy 100) := ⟨f_copy, _, ok_copy F_copy T (PySem.W.mg_of X G a_copy) k_copy b_copy 100 (Nat.le_refl _), PySem.W.mg_of X G a_copy, k_copy, b_copy⟩
  have h_parse : Has l.prog w K mg base 5 "parse_document" ["text"] (spParse C) := ⟨f_parse, _, ok_parse F_parse T h_rows h_make, PySem.W.mg_of X G a_parse, k_parse, b_parse⟩
  have h_edit : Has l.prog w K mg base 103 "_law_edit" ["_law_pool_here", "_law_document", "_law_node_here"] (spEdit C) := ⟨f_edit, _, ok_edit F_edit T
    { take := h_take, node := h_node, text := h_ltext, paths := h_lpaths, at_ := h_lat, copy := h_copy, parse := h_parse, cls := DC.cls,
      ins := ⟨f_insP, _, ⟨fi_insP, i_insP, k_insP⟩, ok_inserted F_insP T DC (PySem.W.mg_of X G aC) kitC tyD h_placeP h_kidsP h_endP h_make h_between h_moved h_sizeP, fun s a u v v2 => .of_eq rfl⟩,
      rem := ⟨f_remP, _, ⟨fi_remP, i_remP, k_remP⟩, ok_removed F_remP DC h_placeP h_endP h_make, fun s a v => .of_eq rfl⟩,
      ren := ⟨f_renP, _, ⟨fi_renP, i_renP, k_renP⟩, ok_renamed F_renP DC h_placeP h_name h_replP, fun s a u v => .of_eq rfl⟩,
      mar := ⟨f_marP, _, ⟨fi_marP, i_marP, k_marP⟩, ok_marked F_marP T DC h_placeP h_namesU h_replP, fun s a u v => .of_eq rfl⟩ }, PySem.W.mg_of X G a_edit, k_edit, b_edit⟩
  have h_every : Has l.prog w K mg base 6 "_law_every" ["_law_one"] (spEvery C) := ⟨f_every, _, ok_every F_every T h_widthP, PySem.W.mg_of X G a_every, k_every, b_every⟩
  exact ok_law F_law T DC
    { pool := h_pool, node := h_nodeT, edit := h_edit, text := h_ltext, paths := h_lpaths, every := h_every, parse := h_parse,
      ptext := h_textP, psize := h_sizeP, eq := ⟨f_eqP, _, ok_eqP F_eqP T DC (PySem.W.mg_of X G aC) kitC, b_eqP, fi_eqP, i_eqP⟩,
      nfC := nfC, ty := tyD }
end K03
open PySem PySem.W PyProof.Rows
set_option maxRecDepth 100000 in
set_option maxHeartbeats 0 in
theorem PySem.Challenge.cw_deadrules_k03_whole_documents_edited_holds : PySem.Challenge.rw_deadrules_k03_whole_documents_edited.Holds := by
  w_on; o_law; k_head; (case hw => w_witness2)
  k_fill
  refine DR.walk_ofI (l := PySem.Challenge.rw_deadrules_k03_whole_documents_edited) (n := 63) (k := 104) (x := "_law_script") (C0 := L2.CX0) (sp := K03.spLaw) rfl (by decide) rfl ⟨rfl, by decide, by decide⟩ (fun w h Y => PySem.W.kIn_of Y) ?F
    (fun _ _ a ns hl _ hS => ⟨a, ns, rfl, hS, hl, fun _ => rfl⟩) (fun _ _ _ _ z => z)
  case F =>
    intro w mg fa h KX G hmg
    refine' K03.all_mk KX G hmg ?aC ?pgC ?hdC ?poC ?saC ?n_rows ?n_paths ?n_places ?n_text ?mkC ?kC ?moC ?caC ?sgC ?tkC ?fi_init ?l_init ?c_init ?k_init ?i_init ?fi_textP ?sp_textP ?tk_textP ?re_textP ?l_textP ?c_textP ?k_textP ?i_textP ?fi_sizeP ?sp_sizeP ?tk_sizeP ?re_sizeP ?l_sizeP ?c_sizeP ?k_sizeP ?i_sizeP ?fi_hasP ?l_hasP ?c_hasP ?k_hasP ?i_hasP ?fi_eqP ?l_eqP ?c_eqP ?k_eqP ?i_eqP ?fi_widthP ?l_widthP ?c_widthP ?k_widthP ?i_widthP ?fi_insP ?l_insP ?c_insP ?k_insP ?i_insP ?fi_remP ?l_remP ?c_remP ?k_remP ?i_remP ?fi_renP ?l_renP ?c_renP ?k_renP ?i_renP ?fi_marP ?l_marP ?c_marP ?k_marP ?i_marP ?fi_replP ?l_replP ?c_replP ?k_replP ?i_replP ?fi_placeP ?l_placeP ?c_placeP ?k_placeP ?i_placeP ?fi_endP ?l_endP ?c_endP ?k_endP ?i_endP ?fi_kidsP ?l_kidsP ?c_kidsP ?k_kidsP ?i_kidsP ?a_int ?l_int ?c_int ?k_int ?a_between ?l_between ?c_between ?k_between ?a_name ?l_name ?c_name ?k_name ?a_names ?l_names ?c_names ?k_names ?a_cut ?l_cut ?c_cut ?k_cut ?a_parse ?l_parse ?c_parse ?k_parse ?a_rows ?l_rows ?c_rows ?k_rows ?a_head ?l_head ?c_head ?k_head ?a_text ?l_text ?c_text ?k_text ?a_paths ?l_paths ?c_paths ?k_paths ?a_moved ?l_moved ?c_moved ?k_moved ?a_isPath ?l_isPath ?c_isPath ?k_isPath ?a_pool ?l_pool ?c_pool ?k_pool ?a_take ?l_take ?c_take ?k_take ?a_node ?l_node ?c_node ?k_node ?a_ltext ?l_ltext ?c_ltext ?k_ltext ?a_lpaths ?l_lpaths ?c_lpaths ?k_lpaths ?a_lat ?l_lat ?c_lat ?k_lat ?a_copy ?l_copy ?c_copy ?k_copy ?a_edit ?l_edit ?c_edit ?k_edit ?a_every ?l_every ?c_every ?k_every ?a_law ?l_law ?c_law ?k_law ?z_int ?z_bool ?z_str ?z_list ?z_tuple ?z_set ?z_len ?z_all ?z_sorted ?z_isinstance ?z_enumerate ?z_range ?z_max ?z_min ?g_LETTERS ?r_LETTERS ?g_LONGEST_NAME ?r_LONGEST_NAME ?g_MOST_NODES ?r_MOST_NODES ?kitC ?nfC
    (case aC => k_is)
    (case pgC => k_is)
    (case hdC => k_is)
    (case poC => k_is)
    (case saC => k_is)
    (case n_rows => k_is)
    (case n_paths => k_is)
    (case n_places => k_is)
    (case n_text => k_is)
    (case mkC => k_is)
    (case kC => k_is)
    (case moC => k_is)
    (case caC => k_is)
    (case sgC => k_is)
    (case tkC => k_is)
    (case fi_init => k_is)
    (case l_init => k_is)
    (case c_init => k_is)
    (case k_init => k_is)
    (case i_init => k_is)
    (case fi_textP => k_is)
    (case sp_textP => k_is)
    (case tk_textP => k_is)
    (case re_textP => k_is)
    (case l_textP => k_is)
    (case c_textP => k_is)
    (case k_textP => k_is)
    (case i_textP => k_is)
    (case fi_sizeP => k_is)
    (case sp_sizeP => k_is)
    (case tk_sizeP => k_is)
    (case re_sizeP => k_is)
    (case l_sizeP => k_is)
    (case c_sizeP => k_is)
    (case k_sizeP => k_is)
    (case i_sizeP => k_is)
    (case fi_hasP => k_is)
    (case l_hasP => k_is)
    (case c_hasP => k_is)
    (case k_hasP => k_is)
    (case i_hasP => k_is)
    (case fi_eqP => k_is)
    (case l_eqP => k_is)
    (case c_eqP => k_is)
    (case k_eqP => k_is)
    (case i_eqP => k_is)
    (case fi_widthP => k_is)
    (case l_widthP => k_is)
    (case c_widthP => k_is)
    (case k_widthP => k_is)
    (case i_widthP => k_is)
    (case fi_insP => k_is)
    (case l_insP => k_is)
    (case c_insP => k_is)
    (case k_insP => k_is)
    (case i_insP => k_is)
    (case fi_remP => k_is)
    (case l_remP => k_is)
    (case c_remP => k_is)
    (case k_remP => k_is)
    (case i_remP => k_is)
    (case fi_renP => k_is)
    (case l_renP => k_is)
    (case c_renP => k_is)
    (case k_renP => k_is)
    (case i_renP => k_is)
    (case fi_marP => k_is)
    (case l_marP => k_is)
    (case c_marP => k_is)
    (case k_marP => k_is)
    (case i_marP => k_is)
    (case fi_replP => k_is)
    (case l_replP => k_is)
    (case c_replP => k_is)
    (case k_replP => k_is)
    (case i_replP => k_is)
    (case fi_placeP => k_is)
    (case l_placeP => k_is)
    (case c_placeP => k_is)
    (case k_placeP => k_is)
    (case i_placeP => k_is)
    (case fi_endP => k_is)
    (case l_endP => k_is)
    (case c_endP => k_is)
    (case k_endP => k_is)
    (case i_endP => k_is)
    (case fi_kidsP => k_is)
    (case l_kidsP => k_is)
    (case c_kidsP => k_is)
    (case k_kidsP => k_is)
    (case i_kidsP => k_is)
    (case a_int => k_is)
    (case l_int => k_is)
    (case c_int => k_is)
    (case k_int => k_is)
    (case a_between => k_is)
    (case l_between => k_is)
    (case c_between => k_is)
    (case k_between => k_is)
    (case a_name => k_is)
    (case l_name => k_is)
    (case c_name => k_is)
    (case k_name => k_is)
    (case a_names => k_is)
    (case l_names => k_is)
    (case c_names => k_is)
    (case k_names => k_is)
    (case a_cut => k_is)
    (case l_cut => k_is)
    (case c_cut => k_is)
    (case k_cut => k_is)
    (case a_parse => k_is)
    (case l_parse => k_is)
    (case c_parse => k_is)
    (case k_parse => k_is)
    (case a_rows => k_is)
    (case l_rows => k_is)
    (case c_rows => k_is)
    (case k_rows => k_is)
    (case a_head => k_is)
    (case l_head => k_is)
    (case c_head => k_is)
    (case k_head => k_is)
    (case a_text => k_is)
    (case l_text => k_is)
    (case c_text => k_is)
    (case k_text => k_is)
    (case a_paths => k_is)
    (case l_paths => k_is)
    (case c_paths => k_is)
    (case k_paths => k_is)
    (case a_moved => k_is)
    (case l_moved => k_is)
    (case c_moved => k_is)
    (case k_moved => k_is)
    (case a_isPath => k_is)
    (case l_isPath => k_is)
    (case c_isPath => k_is)
    (case k_isPath => k_is)
    (case a_pool => k_is)
    (case l_pool => k_is)
    (case c_pool => k_is)
    (case k_pool => k_is)
    (case a_take => k_is)
    (case l_take => k_is)
    (case c_take => k_is)
    (case k_take => k_is)
    (case a_node => k_is)
    (case l_node => k_is)
    (case c_node => k_is)
    (case k_node => k_is)
    (case a_ltext => k_is)
    (case l_ltext => k_is)
    (case c_ltext => k_is)
    (case k_ltext => k_is)
    (case a_lpaths => k_is)
    (case l_lpaths => k_is)
    (case c_lpaths => k_is)
    (case k_lpaths => k_is)
    (case a_lat => k_is)
    (case l_lat => k_is)
    (case c_lat => k_is)
    (case k_lat => k_is)
    (case a_copy => k_is)
    (case l_copy => k_is)
    (case c_copy => k_is)
    (case k_copy => k_is)
    (case a_edit => k_is)
    (case l_edit => k_is)
    (case c_edit => k_is)
    (case k_edit => k_is)
    (case a_every => k_is)
    (case l_every => k_is)
    (case c_every => k_is)
    (case k_every => k_is)
    (case a_law => k_is)
    (case l_law => k_is)
    (case c_law => k_is)
    (case k_law => k_is)
    (case z_int => k_is)
    (case z_bool => k_is)
    (case z_str => k_is)
    (case z_list => k_is)
    (case z_tuple => k_is)
    (case z_set => k_is)
    (case z_len => k_is)
    (case z_all => k_is)
    (case z_sorted => k_is)
    (case z_isinstance => k_is)
    (case z_enumerate => k_is)
    (case z_range => k_is)
    (case z_max => k_is)
    (case z_min => k_is)
    (case g_LETTERS => k_is)
    (case r_LETTERS => first | exact ⟨_, rfl⟩ | exact ⟨_, by kernel_rfl⟩)
    (case g_LONGEST_NAME => k_is)
    (case r_LONGEST_NAME => first | exact ⟨_, rfl⟩ | exact ⟨_, by kernel_rfl⟩)
    (case g_MOST_NODES => k_is)
    (case r_MOST_NODES => first | exact ⟨_, rfl⟩ | exact ⟨_, by kernel_rfl⟩)
    (case kitC => first | k_is | kernel_rfl)
    (case nfC => k_is)

