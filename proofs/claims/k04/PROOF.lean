import PyProof.Rows.All
import Wide.All
import OpenK.AllK
import Wide.FinOn
import PyProof.EqAt
import PyProof.EqKinds
import PyProof.TupleCall
import HandS.ForExc
import HandS.ForMost
import PyProof.ReprRoads
import KE.KExcPX
import KE.KExcInit
import KE.KExcIs
import HandS.ExcInit
import HandS.IsInst
import HandS.More
import HandS.List
import PyProof.NeKinds
import HandS.Base
import HandS.Call
import HandS.Exc
import HandS.Strs
import HandS.SetFor
import HandS.ExcValue
import PyProof.TupleOfSeq
import HandS.Iter
import HandS.Walk
import KE.GoesMore
import HandS.DictComp
import HandS.SlotsOwn
import HandS.Star
import HandS.Property
import HandS.SetKeys
import HandS.Zip
import HandS.TupAny
import HandS.DictTup
import HandS.Codes
import HandS.ExcField
import HandS.ExcIs
import HandS.TupMul
import PyProof.StrLaws
import PySem.Challenge.RW_deadrules_k04_edits_of_documents_refused
set_option Elab.async false
set_option linter.all false
set_option maxRecDepth 100000
set_option maxHeartbeats 8000000
/-! A def's promise where no repr is under way (the guards are known to be empty). -/
namespace DR
open PySem PySem.Spec PyProof.Rows L2
/-- no repr is under way around -/
def Idle (A : Around) : Prop := A.guards = some []
theorem Idle.deep {A : Around} (h : Idle A) (env : Env) : Idle (A.deeper env) := h
theorem Idle.one {A : Around} (h : Idle A) : Idle A.in1 := h
/-- FnOk, but only where no repr is under way -/
structure FnI (P : Program) (w : World) (K : PySem.W.Frag) (mg : Str → Option Value) (base : Heap) (C0 : CXT) (k : Nat) (f : Addr) (fd : FuncData) (ps : List Str) (sp : Sp) : Prop where
  size : ∀ vs H Q E, sp vs H Q E → vs.length = ps.length
  goes : ∀ (A : Around) (out : List Env) (s : Shared) (H : Hp) (args : Args) (us : List Value) (vs : List V) (Q : VK) (E : XK), Idle A →
    Room k A → Env0 P w K mg base A out s H → BindsTo s fd args (ps.zip us) → Vals vs us → sp vs H Q E →
      codeAny (model P w) A (.call (.ref f) args) (CR C0 out P w H s Q E) s
section
variable {P : Program} {w : World} {K : PySem.W.Frag} {mg : Str → Option Value} {base : Heap} {C0 : CXT} {k : Nat} {f : Addr} {fd : FuncData} {ps : List Str} {sp : Sp}
theorem FnI.any (F : FnOk P w K mg base C0 k f fd ps sp) : FnI P w K mg base C0 k f fd ps sp :=
  { size := F.len, goes := fun A out s H args us vs Q E _ hr e hb hv hs => F.run A out s H args us vs Q E hr e hb hv hs }
theorem FnI.up {j : Nat} (F : FnI P w K mg base C0 j f fd ps sp) (h : j ≤ k) : FnI P w K mg base C0 k f fd ps sp :=
  { size := F.size, goes := fun A out s H args us vs Q E hi hr => F.goes A out s H args us vs Q E hi (hr.mono h) }
end
/-- a def of the text by its body, the guards known -/
theorem fnI_of {C0 : CXT} {P : Program} {w : World} {K : PySem.W.Frag} {mg : Str → Option Value} {base : Heap} {k : Nat} {f : Addr} {fd : FuncData} {x qual : Str} {st : Stmt}
    {N ps : List Str} {sp : Sp} (F : Fun K x qual st f fd) (S : FnScope N ps (defScope st)) (size : ∀ vs H Q E, sp vs H Q E → vs.length = ps.length)
    (body : ∀ (cdv : Value) (A : Around) (out : List Env) (s : Shared) (H : Hp) (vs : List V) (Q : VK) (E : XK), Idle (A.deeper (envOfC qual (defScope st) s.heap.objs.size f cdv)) →
      Room k (A.deeper (envOfC qual (defScope st) s.heap.objs.size f cdv)) → sp vs H Q E →
        ∃ t, PSs (cxOf C0 P w K mg base N qual (defScope st) f cdv A out s H E) (defBody st) t ∧ t { nx := fun _ H' => Q .non H', rt := Q } (start N vs) H) :
    FnI P w K mg base C0 (k + 1) f fd ps sp := by
  obtain ⟨oc, od, kV, doc, pm, an, cdv, ct, osl, rfl, lk, hcd⟩ := F.ex
  refine { size := size, goes := fun A out s H args us vs Q E hi hr e0 hb rv hsp => ?_ }
  have keepB : ∀ b o, base.get? b = some o → s.heap.get? b = some o := fun b o e => (e0.bs b o e).1
  have KX : K.In s.heap := e0.mod.kin.keeps keepB
  have lim : s.heap.NoLimit := e0.mod.nolimit.keeps keepB
  have kinds : ∀ y ∈ ps.zip us, (defScope st).names.lookup y.1 = some .local ∨
      ((defScope st).names.lookup y.1 = some .cell ∧ ((cellsFrom (s.heap.objs.size + 1) (defScope st).names []).lookup y.1).isSome = true) := by
    rintro ⟨n, v⟩ hy
    cases S.par n (List.of_mem_zip hy).1 with
    | inl q => exact .inl q
    | inr q => exact .inr ⟨q, PySem.W.cellsFrom_some _ _ _ (.inl q)⟩
  refine codeAny_call_function hr.depth (KX _ _ lk) rfl S.co S.gen rfl
    (PySem.W.codeRec_of KX hcd) (hb _ _ _ _ ?_)
  refine wpAny_newFunctionEnv_cells S.kind kinds fun env he s1 x => ?_
  subst he
  refine ⟨lim.keeps x.toInCall.keep, codeAny_func ?_⟩
  obtain ⟨t, ht, q⟩ := body cdv A out s H vs Q E (hi.deep _) (hr.deeper _) hsp
  have I := inv_start (CX := C0) (P := P) (w := w) (mg := mg) (E := E) (cd := cdv) (f := f) (qual := qual) S hr.hd e0 (size _ _ _ _ hsp) rv x
  refine wpAny_mono (ht.run [] s1 (start N vs) H _ I q) (fun fl s' hs => ?_) fun _ _ hs => hs
  cases fl with
  | ret u => exact let ⟨v, _, H', J, r, q'⟩ := hs; ⟨v, H', J.os, J.bare, J.base, J.hok, r, q'⟩
  | next => exact let ⟨_, H', J, q'⟩ := hs; ⟨V.non, H', J.os, J.bare, J.base, J.hok, rfl, q'⟩
  | brk => exact let ⟨_, _, _, q'⟩ := hs; q'.elim
  | cont => exact let ⟨_, _, _, q'⟩ := hs; q'.elim
section
variable {X : Cx} {C0 : CXT} {k : Nat} {f : Addr} {fd : FuncData} {ps : List Str} {sp : Sp} {dvs : List V} {ds : List Value} {E : XK} {x : Str} {p pos : Pos} {e : Expr} {es : List Expr} {t : TA}
theorem runI {pins : List (Addr × Obj)} {σ : L2.St} {H : Hp} {s : Shared} {Q : VK} {us : List Value} {vs : List V} (F : FnI X.prog X.w X.K X.mg X.base C0 k f fd ps sp) (hi : Idle X.A) (hr : Room k X.A)
    (hb : Binds X.K fd ps ds) (hd : Vals dvs ds) (hx : Passes C0 X E) (I : Inv X pins σ H s) (r : Vals vs us)
    (h : sp (vs ++ dvs) H Q E) : wpAny (model X.prog X.w) X.A (call (.ref f) us) (EP X pins σ Q) X.xe s := by
  have rr := r.append hd
  have nl : (us ++ ds).length = ps.length := rr.length.symm.trans (F.size _ _ _ _ h)
  have go := F.goes X.A X.stack s H ⟨us, []⟩ _ _ Q E hi hr I.env0 (hb s us I.kIn nl) rr h
  refine wpAny_call (codeAny_mono go fun res s' hq => ?_)
  match res, hq with
  | .error er, hq => exact hx pins σ H s er s' I hq
  | .ok (.ret u), hq => exact I.after hq
  | .ok .next, hq => exact hq.elim
  | .ok .brk, hq => exact hq.elim
  | .ok .cont, hq => exact hq.elim
/-- f(e, ..) -/
theorem pe_callI (F : FnI X.prog X.w X.K X.mg X.base C0 k f fd ps sp) (hi : Idle X.A) (hr : Room k X.A) (hg : Gl X x)
    (hm : X.mg x = some (.ref f)) (hk : PySem.W.keepIn X.K (.ref f) = true) (hb : Binds X.K fd ps ds) (hd : Vals dvs ds) (hx : Passes C0 X E)
    (ha : PA X (e :: es) t) (hdb : (x == ("__debug__" : Str)) = false := by decide)
    (he : starEach (e :: es) X.env = (false, eval e X.env) :: starEach es X.env := by rfl)
    (hpl : (backTo pos (starEach es X.env)).any (·.1) = false := by rfl) :
    PE X (.Call (.Name x p) (e :: es) [] pos) (tCall sp dvs E t) := by
  constructor
  intro pins s σ H Q I h
  apply wpAny_Call_Name_kw
  refine ld_glob I hg hm ?_ hdb
  refine PySem.W.callWith_K (h₀ := X.base) I.mod.kin hk (thn (ha.run pos pins s σ H _ I h) ?_) he hpl
  rintro us s1 ⟨vs, H1, I1, r, q⟩
  exact ⟨I1.kIn, runI F hi hr hb hd hx I1 r q⟩
end

/-! ### the law's own call -/
/-- what law_call asks of the abstract heap at the law's entry -/
structure Fit (P : Program) (w : World) (K : PySem.W.Frag) (H : Hp) (h : Heap) (a : Addr) (ob : Obj) (xs : List V) : Prop where
  only : Only H
  list : SqL K H a xs
  held : HOk P w H h
  one : ∀ b, b ≠ a → H b = none
  mine : ∀ o xs', H a = some (.frz o (.lst xs')) → o = ob
  own : H a ≠ none → K.lookup a = none
theorem fit_of {P : Program} {w : World} {K : PySem.W.Frag} {h : Heap} {a : Addr} {vs : List Value} {ns : List Int} (KX : K.In h)
    (ha : h.get? a = some { cls := .type "list", data := .seq vs.toArray }) (hi : IntsAre vs ns) (hl : ns.length ≤ sizeLine) :
    ∃ H : Hp, Fit P w K H h a { cls := .type "list", data := .seq vs.toArray } (ns.map V.int) := by
  have rv := vals_ints hi
  have ln : vs.length = ns.length := hi.length
  by_cases hk : K.lookup a = none
  · refine ⟨fun b => if b = a then some (.frz { cls := .type "list", data := .seq vs.toArray } (.lst (ns.map V.int))) else none, { only := ?_, list := ?_, held := ?_, one := ?_, mine := ?_, own := ?_ }⟩
    · intro b
      by_cases e : b = a
      · exact .inr ⟨_, _, if_pos e⟩
      · exact .inl (if_neg e)
    · exact .inl (.inr ⟨_, if_pos rfl⟩)
    · intro b u z
      by_cases e : b = a
      · subst e
        obtain rfl := Option.some.inj ((if_pos rfl).symm.trans z)
        refine ⟨ha, ?_, vs, _, rv, ha⟩
        rw [List.length_map]
        exact hl
      · exact nomatch (if_neg e).symm.trans z
    · exact fun b e => if_neg e
    · intro o xs' z
      injection (if_pos rfl).symm.trans z with z1
      injection z1 with z2
      exact z2.symm
    · exact fun _ => hk
  · obtain ⟨o, hk⟩ := Option.ne_none_iff_exists'.mp hk
    obtain rfl : o = _ := Option.some.inj ((KX a o hk).symm.trans ha)
    refine ⟨fun _ => none, { only := fun _ => .inl rfl, list := .inr ⟨_, vs.toArray, _, hk, rfl, rfl, rfl, ?_, by simpa using rv⟩, held := (fun _ _ z => (nomatch z)), one := (fun _ _ => rfl), mine := (fun _ _ z => (nomatch z)), own := (fun z => absurd rfl z) }⟩
    rw [List.size_toArray, ln]
    exact hl
theorem law_callI {P : Program} {w : World} {K : PySem.W.Frag} {mg mb : Str → Option Value} {C0 : CXT} {k : Nat} {fa a : Addr} {fd : FuncData} {x : Str} {sp : Sp} {s₁ : Shared} {vs : List Value} {ns : List Int}
    (KX : K.In s₁.heap) (hns : s₁.heap.Ns mainGlobals mg) (hb : s₁.heap.Ns builtinsNs mb) (hbb : ∀ x : Str, x ≠ "__name__" → mb x = bootBuiltins x)
    (hlim : s₁.heap.NoLimit) (hg : s₁.gens = #[]) (ha : s₁.heap.get? a = some { cls := .type "list", data := .seq vs.toArray })
    (hi : IntsAre vs ns) (hl : ns.length ≤ sizeLine) (hr : Room k callerA)
    (F : ∀ base : Heap, K.In base → base.Ns mainGlobals mg → FnI P w K mg base C0 k fa fd [x] sp) (hbind : ∀ (s : Shared) (u : Value), BindsTo s fd ⟨[u], []⟩ [(x, u)])
    (hsp : ∀ H : Hp, Only H → SqL K H a (ns.map V.int) → sp [.ref a] H (fun v _ => v = .bl true) fun _ _ _ => False)
    (hC0 : ∀ H e s', C0 [] H s₁ (fun _ _ _ => False) e s' → False) :
    codeAny (model P w) callerA (.call (.ref fa) ⟨[.ref a], []⟩) (fun r s' => r = .ok (.ret (.bool true)) ∧ OldK s₁.heap s'.heap ∧ s'.os = s₁.os ∧ AllBare s'.gens) s₁ := by
  obtain ⟨H, T⟩ := fit_of (P := P) (w := w) KX ha hi hl
  have at_a : ∀ {b : Addr}, H b ≠ none → b = a := fun {b} z => Classical.byContradiction fun e => z (T.one b e)
  have toB : ∀ {b : Addr} {o : Obj}, s₁.heap.get? b = some o → (H b ≠ none → False) → (hidT s₁.heap H).get? b = some o := fun {b o} e n => by
    refine hidT_get e ?_
    cases q : H b with
    | none => rfl
    | some u => exact (n (by rw [q]; exact fun z => nomatch z)).elim
  have ns' : ∀ {b : Addr} {m : Str → Option Value}, s₁.heap.Ns b m → (hidT s₁.heap H).Ns b m := by
    rintro b m ⟨o, es, ep, e, d, r⟩
    refine ⟨o, es, ep, toB e fun z => ?_, d, r⟩
    rw [at_a z, ha] at e
    obtain rfl := Option.some.inj e
    exact nomatch d
  have inB : K.In (hidT s₁.heap H) := fun b o e => toB (KX b o e) fun z => by
    have z1 := at_a z
    subst z1
    exact nomatch (T.own z).symm.trans e
  have mod : Mod K mg (hidT s₁.heap H) := { kin := inB, glob := ns' hns, blt := ⟨mb, ns' hb, hbb⟩, nolimit := let ⟨mc, h1, h2⟩ := hlim; ⟨mc, ns' h1, h2⟩ }
  have e0 : Env0 P w K mg (hidT s₁.heap H) callerA [] s₁ H :=
    { frames := rfl, mod := mod, bs := fun _ _ e => of_hidT e, bsz := Nat.le_of_eq (hidT_size _ _), funs := trivial, frf := fun _ z => (nomatch z), hok := T.held, bare := .of_eq hg }
  have go := (F _ inB (ns' hns)).goes callerA [] s₁ H ⟨[.ref a], []⟩ [.ref a] [.ref a] _ _ rfl hr e0 (hbind s₁ (.ref a)) (.cons rfl .nil) (hsp H T.only T.list)
  refine codeAny_mono go fun r s' h => ?_
  match r, h with
  | .error e, h => exact (hC0 H e s' h).elim
  | .ok .next, h => exact h.elim
  | .ok .brk, h => exact h.elim
  | .ok .cont, h => exact h.elim
  | .ok (.ret u), ⟨v, H', os, bare, un, hok', rv, q⟩ =>
    have q' : v = .bl true := q
    subst q'
    obtain rfl : u = Value.bool true := rv
    refine ⟨rfl, OldK.of_keep fun b o e => ?_, os, bare⟩
    rcases T.only b with z | ⟨ob, xs, z⟩
    · exact un.keep b o e z (fun z => nomatch z) (fun z => nomatch z)
    · obtain ⟨e1, _⟩ := T.held b _ z
      obtain ⟨e2, _⟩ := hok' b _ (un.frzs b ob _ z)
      exact e2.trans (e1.symm.trans e)
theorem walk_ofI {l : PySem.W.OpenLaw} {n k : Nat} {q : Program} {loose : List Str} {XP : (Str → Option Value) → Heap → Prop} {YP : World → Heap → Prop} {d : DefRec} {K : Params → PySem.W.Frag}
    {C0 : CXT} {sp : PySem.W.Frag → Sp} {x : Str} (hn : l.most = some n) (hn2 : n ≤ sizeLine) (hdf : d.params.defaults = []) (hr : Room k callerA)
    (hY : ∀ (w : World) (h : Heap), YP w h → (K w.params).In h)
    (F : ∀ (w : World) (mg : Str → Option Value) (fa : Addr) (h : Heap), (K w.params).In h → h.Ns mainGlobals mg → mg d.name = some (.ref fa) →
      ∃ fd : FuncData, (∀ (s : Shared) (u : Value), BindsTo s fd ⟨[u], []⟩ [(x, u)]) ∧
        ∀ base : Heap, (K w.params).In base → base.Ns mainGlobals mg → FnI l.prog w (K w.params) mg base C0 k fa fd [x] (sp (K w.params)))
    (hsp : ∀ (K : PySem.W.Frag) (H : Hp) (a : Addr) (ns : List Int), ns.length ≤ n → Only H → SqL K H a (ns.map V.int) → sp K [.ref a] H (fun v _ => v = .bl true) fun _ _ _ => False)
    (hC0 : ∀ (H : Hp) (s : Shared) (e : Value) (s' : Shared), C0 [] H s (fun _ _ _ => False) e s' → False) :
    PySem.W.WalkO q loose XP YP l.row.toRowW d [] (fun f vs => PySem.call f vs) :=
  Att.attach_call hn hdf fun w _ s₁ mg _ fa _ _ _ _ a _ ns G Y _ _ _ hmg hobj hints hlen hg =>
    let ⟨_, hb, hF⟩ := F w mg fa _ (hY w _ Y) G.T.g hmg
    law_callI (hY w _ Y) G.T.g G.T.b G.T.builtins G.T.nolimit hg hobj hints (Nat.le_trans hlen hn2) hr hF hb
      (fun H hO hS => hsp (K w.params) H a ns hlen hO hS) fun H e s' => hC0 H s₁ e s'
end DR

/-! repr of data, where no repr is under way. -/
namespace DR
open PySem PySem.Spec PyProof.Rows L2
/-- a datum, or an empty dict -/
def DpE (K : PySem.W.Frag) (H : Hp) (v : V) (d : PyData) : Prop := Dp K H v d ∨ ∃ a, v = .ref a ∧ H a = some (.dK []) ∧ d = .dict []
section
variable {X : Cx} {pins : List (Addr × Obj)} {σ : L2.St} {H : Hp} {s : Shared}
/-! no dict within plain data -/
mutual
theorem dp_plain {K : PySem.W.Frag} : ∀ (d : PyData) (v : V), Dp K H v d → d.hasDict = false
  | .none, _, _ => rfl
  | .bool _, _, _ => rfl
  | .int _, _, _ => rfl
  | .str _, _, _ => rfl
  | .list ds, _, h => by
    cases h with
    | lst _ ha => simpa only [PyData.hasDict] using dps_plain ds _ ha
  | .tuple ds, _, h => by
    cases h with
    | tup _ ha => simpa only [PyData.hasDict] using dps_plain ds _ ha
  | .dict _, _, h => by cases h
theorem dps_plain {K : PySem.W.Frag} : ∀ (ds : List PyData) (vs : List V), DpAll K H vs ds → PyData.hasDictAll ds = false
  | [], _, _ => rfl
  | d :: ds, _, h => by
    cases h with
    | cons h1 h2 =>
      have e1 := dp_plain d _ h1
      have e2 := dps_plain ds _ h2
      simp only [PyData.hasDictAll, e1, e2, Bool.or_self]
end
theorem DpE.read {v : V} {u : Value} {d : PyData} (I : Inv X pins σ H s) (h : DpE X.K H v d) (r : RelV v u) : ∃ as, Reads s.heap u d as ∧ (d.hasDict = true → sysModules ∉ as) := by
  rcases h with h | ⟨a, rfl, ha, rfl⟩
  · obtain ⟨as, q⟩ := Dp.reads I d v u h r
    exact ⟨as, q, fun e => nomatch (dp_plain d v h).symm.trans e⟩
  · obtain rfl : u = Value.ref a := r
    obtain ⟨_, ns, vs, kv, o, es, ep, ho, ex, hd, _, pr, _⟩ := I.hok a _ ha
    cases kv
    obtain ⟨es⟩ := es
    have e : es = [] := by
      cases pr
      rfl
    subst e
    refine ⟨_, Reads.dict (as := []) (bs := []) ho ex.1 hd .nil .nil, fun _ z => ?_⟩
    have z1 : sysModules = a := by simpa using z
    rw [z1] at ns
    simp at ns
theorem DpE.reads_rep {v : V} {d : PyData} (I : Inv X pins σ H s) (h : DpE X.K H v d) : ∀ (n : Nat) {us : List Value}, Vals (List.replicate n v) us →
    ∃ as, ReadsAll s.heap us (List.replicate n d) as ∧ (d.hasDict = true → sysModules ∉ as)
  | 0, _, .nil => ⟨[], .nil, fun _ z => nomatch z⟩
  | n + 1, _, .cons r q => by
    obtain ⟨as, x, hx⟩ := DpE.read I h r
    obtain ⟨bs, y, hy⟩ := DpE.reads_rep I h n q
    exact ⟨as ++ bs, .cons x y, fun e z => (List.mem_append.mp z).elim (hx e) (hy e)⟩
end
theorem rep_dict (d : PyData) : ∀ n : Nat, PyData.hasDictAll (List.replicate n d) = true → d.hasDict = true
  | 0, e => nomatch e
  | n + 1, e => by
    rw [List.replicate_succ] at e
    simp only [PyData.hasDictAll, Bool.or_eq_true] at e
    exact e.elim id (rep_dict d n)
theorem rep_show (d : PyData) (h : d.showable = true) : ∀ n : Nat, PyData.showableAll (List.replicate n d) = true
  | 0 => rfl
  | n + 1 => by
    rw [List.replicate_succ]
    simp only [PyData.showableAll, h, rep_show d h n, Bool.and_self]
/-- repr(xs), xs a list at an address; the list itself is never asked whether it is sys.modules -/
theorem repr_listR {prog : Program} {w : World} {A : Around} {E : Value → Shared → Prop} {s : Shared} {Q : Value → Shared → Prop} {a : Addr} {o : Obj} {vs : Array Value} {n : Nat} {ds : List PyData} {as : List Addr}
    (h1 : s.heap.get? a = some o) (h2 : o.cls = .type "list") (h3 : o.data = .seq vs n) (h4 : ReadsAll s.heap vs.toList ds as) (hs : PyData.showableAll ds = true)
    (hsm : PyData.hasDictAll ds = true → sysModules ∉ as) (hi : Idle A) (hu : A.units + (PyData.depthAll ds + 3) < cLine) (hz : (PyData.shown (.list ds)).length ≤ sizeLine)
    (hQ : ∀ h' u tk, (∀ b o, s.heap.get? b = some o → h'.get? b = some o) → Q (.str (PyData.shown (.list ds)) u) { s with heap := h', toks := tk }) :
    wpAny (model prog w) A (call (.builtin "repr") [.ref a]) Q E s := by
  have hz' : (listText (PyData.shownAll ds)).length ≤ sizeLine := by simpa only [PyData.shown] using hz
  simp only [PyData.shown] at hQ
  obtain ⟨bs, hb, hk⟩ := ReprAllK.of_readsAll (prog := prog) (w := w) h4 hs hsm fun t ht => Nat.le_trans (listText_mem_le ht) hz'
  have far : a ∉ bs := not_mem_of_deeper (Reads.list h1 h2 h3 h4) (by simp only [PyData.depth]; exact Nat.lt_succ_self _) hb
  have ty : ∀ s' : Shared, (∀ b o, s.heap.get? b = some o → s'.heap.get? b = some o) → s'.TypeIs (.ref a) "list" := fun s' k => ⟨o, k _ _ h1, h2⟩
  refine call_repr_slot (by omega) (ty s fun _ _ e => e) F.slot_list_repr.toG ?_
  obtain ⟨l⟩ := vs
  match l, h3, h4, hk with
  | [], h3, h4, _ =>
    have h4' : ReadsAll s.heap [] ds _ := h4
    cases h4'
    simp only [PyData.shownAll, listText_nil] at hQ
    exact call_list_repr_empty (ty s fun _ _ e => e) h1 h3 ⟨_, _, rfl, hQ s.heap _ _ fun _ _ e => e⟩
  | x :: l, h3, h4, hk =>
    refine call_list_reprK h1 h2 h3 far (by simpa using hk.length_eq) (fun i y e => hk.item i y (by simpa using e)) (g := []) hi (fun b _ => Clear.nil b) ?_ (fun _ _ e => e) (fun h' u tk k => ⟨_, _, rfl, hQ h' u tk k⟩) hz'
    show A.units + 1 + (PyData.depthAll ds + 1) < cLine
    omega
/-- repr(x): x data or an empty dict; or a list of so many times the same -/
def rRepr (K : PySem.W.Frag) : List V → Hp → VK → Prop := fun xs H Q => ∃ (x : V) (d : PyData), xs = [x] ∧ DpE K H x d ∧ d.showable = true ∧ d.shown.length ≤ sizeLine ∧ d.depth ≤ 40 ∧ Q (.str d.shown) H
def rReprN (K : PySem.W.Frag) : List V → Hp → VK → Prop := fun xs H Q => ∃ (l : Addr) (n : Nat) (x : V) (d : PyData), xs = [.ref l] ∧ H l = some (.lst (List.replicate n x)) ∧ DpE K H x d ∧ d.showable = true ∧
  (PyData.shown (.list (List.replicate n d))).length ≤ sizeLine ∧ PyData.depthAll (List.replicate n d) ≤ 40 ∧ Q (.str (PyData.shown (.list (List.replicate n d)))) H
section
variable {X : Cx}
theorem call_repr (hi : Idle X.A) (hu : X.A.units + 64 < cLine) : CallR X (.builtin "repr") (rRepr X.K) := by
  intro pins s σ H xs us Q I r h
  obtain ⟨x, d, rfl, hd, hs, hz, hp, q⟩ := h
  obtain ⟨u, rfl, ru⟩ := vals1 r
  obtain ⟨as, rd, ns⟩ := DpE.read I hd ru
  have fin : ∀ (h' : Heap) (tt tk : Tok), (∀ b o, s.heap.get? b = some o → h'.get? b = some o) → EP X pins σ Q (.str d.shown tt) { s with heap := h', toks := tk } :=
    fun h' tt tk k => ⟨.str d.shown, H, I.kept k, ⟨tt, rfl⟩, q⟩
  cases rd with
  | none =>
    simp only [PyData.shown] at fin
    exact PySem.P.repr_of_none (fin s.heap _ _ fun _ _ e => e)
  | bool b =>
    simp only [PyData.shown] at fin
    exact PySem.P.repr_of_bool (fin s.heap _ _ fun _ _ e => e)
  | int i t =>
    simp only [PyData.shown] at fin
    exact PySem.P.repr_of_int (by simpa [PyData.showable] using hs) (fin s.heap _ _ fun _ _ e => e)
  | str z t =>
    simp only [PyData.shown] at fin hz
    exact PySem.P.repr_of_str (fin s.heap _ _ fun _ _ e => e) hz
  | list h1 h2 h3 h4 => exact repr_of_reads' (.list h1 h2 h3 h4) hs ns hi (by omega) (fun _ _ e => e) fin hz
  | tuple h1 h2 h3 h4 => exact repr_of_reads' (.tuple h1 h2 h3 h4) hs ns hi (by omega) (fun _ _ e => e) fin hz
  | dict h1 h2 h3 h4 h5 => exact repr_of_reads' (.dict h1 h2 h3 h4 h5) hs ns hi (by omega) (fun _ _ e => e) fin hz
theorem call_reprN (hi : Idle X.A) (hu : X.A.units + 64 < cLine) : CallR X (.builtin "repr") (rReprN X.K) := by
  intro pins s σ H xs us Q I r h
  obtain ⟨l, n, x, d, rfl, hl, hd, hs, hz, hp, q⟩ := h
  obtain ⟨u, rfl, ru⟩ := vals1 r
  obtain rfl : u = Value.ref l := ru
  obtain ⟨_, its, m, rv, ho⟩ := (show ObjOk X.prog X.w H s.heap l (.lst (List.replicate n x)) from I.hok l _ hl)
  obtain ⟨as, rd, ns⟩ := DpE.reads_rep I hd n rv
  refine repr_listR ho rfl rfl (by simpa using rd) (rep_show d hs n) (fun e => ns (rep_dict d n e)) hi (by omega) hz fun h' tt tk k => ?_
  exact ⟨.str _, H, I.kept k, ⟨tt, rfl⟩, q⟩
end
end DR

/-! Own exception classes over any built-in base, made by a call (also by keywords), held as values. -/
namespace DR
open PySem PySem.Calls PyProof.Rows PySem.HandSPX
section
variable {M : Model} {A : Around} {E : Value → Shared → Prop} {h : Heap} {g : Array GenState} {d : Drawn} {t : Nat} {os : OsState}
variable {nm qn : Str} {C N : Addr} {bs bm bB : List Value} {hd : Bool} {sn : List Str} {sub : List Value} {ab : Bool} {col : Option Bool} {dd : Option Addr} {k0 k1 k2 k3 k5 : Option Value} {B nid iid : String}
theorem xn_check (F : ExcBaseFacts B nid iid bB) (hT : ∀ X : String, bm.contains (.type X) = bB.contains (.type X)) {rest : List Value} {kw : List (Str × Value)} {Q : Unit → Shared → Prop}
    (cl : h.get? C = some (excClassObj nm qn C N bs bm hd sn sub ab col dd k0 k1 k2 k3 k5 nid)) (fin : Q () ⟨h, g, d, t, os⟩) :
    wpAny M A (checkBuiltinCall nid ⟨.ref C :: rest, kw⟩) Q E ⟨h, g, d, t, os⟩ := by
  have inB : (Value.ref C :: bm).contains (.type B) = true := by rw [List.contains_cons, hT, F.hasB, Bool.or_true]
  have star := F.noStar
  simp only [checkBuiltinCall, F.newKind, F.newSplit, F.newRow]
  repeat (first
    | refine wpAny_loadPart_at cl ?_
    | (refine wpAny_isSubtype_exc cl ?_; rw [inB])
    | refine wpAny_staticBase_exc cl ?_
    | refine wpAny_madeBy_exc cl ?_
    | simp only [bne_self_eq_false, Bool.false_eq_true, if_false]
    | wp_step)
  exact fin
end
section
variable {prog : Program} {w : World} {A : Around} {E : Value → Shared → Prop} {R : Result → Shared → Prop} {h : Heap} {g : Array GenState} {d : Drawn} {t : Nat} {os : OsState}
variable {nm qn : Str} {C N : Addr} {bs bm bB : List Value} {hd : Bool} {sn : List Str} {sub : List Value} {ab : Bool} {col : Option Bool} {dd : Option Addr} {k0 k1 k2 k3 k5 : Option Value} {B nid iid : String}
theorem xn_new (F : ExcBaseFacts B nid iid bB) (hT : ∀ X : String, bm.contains (.type X) = bB.contains (.type X)) {rest : List Value} {kw : List (Str × Value)}
    (cl : h.get? C = some (excClassObj nm qn C N bs bm hd sn sub ab col dd k0 k1 k2 k3 k5 nid))
    (fin : R (.ok (.ret (.ref (h.objs.size + 1)))) ⟨(h.push { cls := .type "tuple", data := .seq rest.toArray }).push (excO C h.objs.size), g, d, t, os⟩)
    (hz : rest.length ≤ sizeLine) : codeAny (model prog w) A (.builtin nid ⟨.ref C :: rest, kw⟩) R ⟨h, g, d, t, os⟩ := by
  have ends := F.ends
  have inB : (Value.ref C :: bm).contains (.type B) = true := by rw [List.contains_cons, hT, F.hasB, Bool.or_true]
  have noA : (Value.ref C :: bm).contains (.type "AttributeError") = false := by
    rw [List.contains_cons, hT, F.noAttr]; rfl
  have noN : (Value.ref C :: bm).contains (.type "NameError") = false := by
    rw [List.contains_cons, hT, F.noName]; rfl
  refine codeAny_builtinAt F.entry ?_
  unfold Builtin.«BaseException.__new__»
  refine PySem.wpAt_bind ?_
  show PySem.wpAt _ _ _ (stack >>= _) _ _ _
  refine PySem.wpAt_bind (PySem.wpAt_stack fun p below => ?_)
  refine PySem.wpAt_of_wpAny ?_
  wp_walk
  refine PySem.wpAt_of_wpAny ?_
  rw [F.owner]
  repeat (first
    | with_reducible refine wpAny_madeHere_exc F.canon cl ?_
    | with_reducible refine wpAny_loadPart_at cl ?_
    | (with_reducible refine wpAny_isSubtype_exc cl ?_; first | rw [inB] | rw [noA] | rw [noN])
    | wp_step)
  show R _ _
  rw [Heap.size_push]
  exact fin
theorem xn_tcall (F : ExcBaseFacts B nid iid bB) (hT : ∀ X : String, bm.contains (.type X) = bB.contains (.type X)) {rest : List Value} {kw : List (Str × Value)} {fI : Addr} {Q : Fin → Shared → Prop}
    (cl : h.get? C = some (excClassObj nm qn C N bs bm hd sn sub ab col dd k0 k1 k2 k3 k5 nid))
    (hi : W.Looks (model prog w) h (typeLookup (.ref C) "__init__") (some (.ref fI)))
    (hb : ∀ self, W.Looks (model prog w) h (bindSpecial (.ref fI) self) (.ref fI, [self])) (hz : rest.length ≤ sizeLine)
    (fin : codeAny (model prog w) A (.call (.ref fI) ⟨.ref (h.objs.size + 1) :: rest, kw⟩)
      (fun r s' => match r with | .ok (.ret v) => v = .none ∧ Q (.done (.ret (.ref (h.objs.size + 1)))) s' | .ok _ => False | .error e => E e s')
      ⟨(h.push (W.kdv_tup rest)).push (excO C h.objs.size), g, d, t, os⟩) :
    wpAny (model prog w) A (Builtin.«type.__call__» ⟨.ref C :: rest, kw⟩) Q E ⟨h, g, d, t, os⟩ := by
  repeat (first
    | with_reducible refine wpAny_loadPart_at cl ?_
    | with_reducible refine wpAny_madeBy_exc cl ?_
    | wp_step)
  refine codeAny_call_builtin_code (Code.quiet_builtin _ F.quiet) (xn_check F hT cl ?_)
  refine xn_new F hT cl ?_ hz
  show wpAny _ _ _ _ _ _
  have kp : ∀ b o, h.get? b = some o → ((h.push (W.kdv_tup rest)).push (excO C h.objs.size)).get? b = some o :=
    fun b o e => Heap.get?_push_of_some _ (Heap.get?_push_of_some _ e)
  have cl1 := kp _ _ cl
  have self1 : ((h.push (W.kdv_tup rest)).push (excO C h.objs.size)).get? (h.objs.size + 1) = some (excO C h.objs.size) := by heap_get
  have inC : (Value.ref C :: bm).contains (.ref C) = true := by simp
  have i1 := hi.keeps kp
  have b1 := (hb (.ref (h.objs.size + 1))).keeps kp
  unfold isInstance
  repeat (first
    | with_reducible refine wpAny_loadPart_at self1 ?_
    | (with_reducible refine wpAny_isSubtype_exc cl1 ?_; rw [inC])
    | wp_step)
  show wpAny _ _ (typeLookup (.ref C) _) _ _ _
  refine i1.at ?_
  refine wpAny_holding (wpAny_bind (b1.at ?_))
  refine wpAny_bind (wpAny_call (codeAny_mono fin fun r s' z => ?_))
  rcases r with e | (v | _ | _ | _) <;> first | exact z | exact z.elim | skip
  obtain ⟨rfl, z⟩ := z
  first
    | exact wpAny_pure (wpAny_pure z)
    | (wp_walk; exact z)
theorem xn_look {M : Model} {rest : List Value} {kw : List (Str × Value)} {Q : Unit → Shared → Prop} (cl : h.get? C = some (excClassObj nm qn C N bs bm hd sn sub ab col dd k0 k1 k2 k3 k5 nid))
    (fin : Q () ⟨h, g, d, t, os⟩) : wpAny M A (checkBuiltinCall "type.__call__" ⟨.ref C :: rest, kw⟩) Q E ⟨h, g, d, t, os⟩ := by
  have f3 := tc_sub
  have ty : (⟨h, g, d, t, os⟩ : Shared).TypeIs (.ref C) "type" := ⟨_, cl, rfl⟩
  simp only [checkBuiltinCall, tc_kind, tc_split]
  repeat (any_goals (first
    | assumption
    | with_reducible refine wpAny_loadPart_at cl ?_
    | with_reducible refine wpAny_onRaise ?_
    | with_reducible refine wpAny_map ?_
    | wp_step))
theorem xn_call (F : ExcBaseFacts B nid iid bB) (hT : ∀ X : String, bm.contains (.type X) = bB.contains (.type X)) {rest : List Value} {kw : List (Str × Value)} {fI : Addr}
    (cl : h.get? C = some (excClassObj nm qn C N bs bm hd sn sub ab col dd k0 k1 k2 k3 k5 nid))
    (hi : W.Looks (model prog w) h (typeLookup (.ref C) "__init__") (some (.ref fI)))
    (hb : ∀ self, W.Looks (model prog w) h (bindSpecial (.ref fI) self) (.ref fI, [self])) (hz : rest.length ≤ sizeLine)
    (fin : codeAny (model prog w) (A.under (.builtin "type.__call__" ⟨.ref C :: rest, kw⟩)) (.call (.ref fI) ⟨.ref (h.objs.size + 1) :: rest, kw⟩) (W.InitBack (h.objs.size + 1) R)
      ⟨(h.push (W.kdv_tup rest)).push (excO C h.objs.size), g, d, t, os⟩) :
    codeAny (model prog w) A (.call (.ref C) ⟨rest, kw⟩) R ⟨h, g, d, t, os⟩ := by
  have f1 := tc_lookup
  have f2 := tc_bind (.ref C)
  have ty : (⟨h, g, d, t, os⟩ : Shared).TypeIs (.ref C) "type" := ⟨_, cl, rfl⟩
  refine codeAny_of_tree ?_
  show wpAny _ _ (callAny (.ref C) _) _ _ _
  repeat (any_goals (first
    | assumption
    | with_reducible refine wpAny_loadPart_at cl ?_
    | wp_step))
  refine ⟨rfl, ?_⟩
  refine codeAny_call_builtin_at (Code.quiet_builtin _ (by decide +kernel)) entry_typeCall (xn_look cl (xn_tcall F hT cl hi hb hz ?_))
  refine codeAny_mono fin fun r s' z => ?_
  rcases r with e | (v | _ | _ | _) <;> exact z
end
end DR

namespace DR
open PySem PySem.Calls PyProof.Rows PySem.Builtin PySem.Builtin.ObjectAttr
section
variable {prog : Program} {w : World} {A : Around} {R : Result → Shared → Prop} {hp : Heap} {g : Array GenState} {d : Drawn} {t : Nat} {os : OsState} {K : PySem.W.Frag} {C : Addr} {f : Str}
theorem taker_none (no : PySem.W.findIn K (.ref C) f = some none) : PySem.W.takerIn K C f = some none := by
  unfold PySem.W.takerIn
  rw [no, Option.bind_some]
/-- self.f = v, the first attribute of an exception of one's own, over any built-in base -/
theorem osaB {B : String} {bB : List Value} {tk : Tok} {v : Value} {x t0 : Addr} (SF : StoreFacts B bB "object.__setattr__" "object") (X : K.In hp) (hx : hp.get? x = some (PySem.W.excObj C t0 none .none)) (ov : PySem.W.excOver K C bB = true) (hh : PySem.W.hasDictIn K C = true)
    (no : PySem.W.findIn K (.ref C) f = some none)
    (fin : ∀ h' tk', (∀ b o, b ≠ x → hp.get? b = some o → h'.get? b = some o) → h'.get? x = some (PySem.W.excObj C t0 (some hp.objs.size) .none) →
      h'.Ns1 hp.objs.size (fun y => if y = f then some v else none) → R (.ok (.ret .none)) ⟨h', g, d, tk', os⟩) :
    codeAny (model prog w) A (.call (.builtin "object.__setattr__") ⟨[.ref x, .str f tk, v], []⟩) R ⟨hp, g, d, t, os⟩ := by
  refine PySem.W.osa_openX (od := none) SF X ⟨hx, rfl, rfl, trivial⟩ ov (taker_none no) fun b => ?_
  obtain ⟨cd, hc, hd'⟩ := PySem.W.any_some hh
  have lt : x < hp.objs.size := Heap.lt_size hx
  have ne : hp.objs.size ≠ x := Nat.ne_of_gt lt
  refine wpAny_bind (wpAny_pure (wpAny_bind (PySem.W.instanceDict_exc hx (PySem.W.looks_clsIn X hc) hd' ?_)))
  show wpAny _ _ (storeInDict hp.objs.size (.str f tk) f v) _ _ _
  have hx1 := Heap.get?_push_of_some (PySem.W.dictOf [] 0) hx
  have hnd : ((hp.push (PySem.W.dictOf [] 0)).update x fun o => { o with dict := some hp.objs.size }).Ns hp.objs.size (fun _ => none) := by
    refine ⟨_, #[], _, (Heap.get?_update_ne _ _ _ _ ne).trans (Heap.get?_push_at rfl rfl), rfl, ?_, fun _ => rfl⟩
    intro e he
    exact absurd he (by simp)
  refine PySem.HandSPX.store_in_new hnd fun h' tk' hn' sb => ?_
  refine fin h' tk' (fun b o hb ho => ?_) ?_ hn'
  · rw [sb.2 b (Nat.ne_of_lt (Heap.lt_size ho)), Heap.get?_update_ne _ _ _ _ hb]
    exact Heap.get?_push_of_some _ ho
  · rw [sb.2 x ne.symm]
    exact Heap.get?_update_self _ hx1 rfl
end
open L2 PySem.Spec
/-- what stores into an exception of the class at C ask of it -/
def XSt (K : PySem.W.Frag) (C : Addr) : Prop := ∃ (B : String) (bB : List Value), StoreFacts B bB "object.__setattr__" "object" ∧ PySem.W.excOver K C bB = true ∧ PySem.W.hasDictIn K C = true ∧ PySem.W.findIn K (.ref C) "__setattr__" = some (some (.builtin "object.__setattr__"))
section
variable {X : Cx} {pins : List (Addr × Obj)} {σ : L2.St} {H : Hp} {s : Shared} {a C dx : Addr} {f : Str} {y : V} {u : Value} {Q : Unit → Shared → Prop} {E : Value → Shared → Prop} {A : Around}
theorem ostB (T : XSt X.K C) (I : Inv X pins σ H s) (e : H a = some (exo a C none)) (no : PySem.W.findIn X.K (.ref C) f = some none) (ry : RelV y u)
    (fin : ∀ dx s', H dx = none → dx ≠ a → Inv X pins σ (upd (upd H dx (exd dx [(f, y)])) a (exo a C (some dx))) s' → Q () s') :
    wpAny (model X.prog X.w) A (setAttr (.ref a) f u) Q E s := by
  obtain ⟨B, bB, SF, ov, hh, sa⟩ := T
  obtain ⟨t1, ho⟩ := exo_at I.hok e
  obtain ⟨hp, g, d, t, os⟩ := s
  refine PySem.W.set_plain I.kIn (ox := PySem.W.excObj C t1 none .none) (od := none) ⟨ho, rfl, rfl, trivial⟩ sa ?_
  refine osaB SF I.kIn ho ov hh no fun h' tk' k hx hn => ?_
  have fr : H hp.objs.size = none := I.hok.fresh (Nat.le_refl _)
  have ad : a ≠ hp.objs.size := Nat.ne_of_lt (Heap.lt_size ho)
  have old : ∀ {b : Addr} {o : Obj}, hp.get? b = some o → b ≠ hp.objs.size := fun q => Nat.ne_of_lt (Heap.lt_size q)
  have bare : ∀ {b : Addr}, H b = none → b ≠ a := fun {b} n z => nomatch (z ▸ n).symm.trans e
  have seen : ∀ {b : Addr} {o : HO}, b ≠ a → H b = some o → upd (upd H hp.objs.size (exd hp.objs.size [(f, y)])) a (exo a C (some hp.objs.size)) b = some o := fun {b o} n q => by
    rw [upd_ne n, upd_ne (ne_of_none q fr), q]
  have U : Un X.fs [] H (upd (upd H hp.objs.size (exd hp.objs.size [(f, y)])) a (exo a C (some hp.objs.size))) hp h' := by
    constructor
    · exact fun b o q n _ _ => k b o (bare n) q
    · exact fun b o q n _ _ => ⟨o.slots, k b o (bare n) q⟩
    · intro b o q n _
      rw [upd_ne (bare n), upd_ne (old q), n]
    · intro b o q _
      by_cases z : b = a
      · exact ⟨_, z ▸ hx⟩
      · exact ⟨o, k b o z q⟩
    · exact fun b xs q => seen (at_ne e q exo_tup) q
    · exact fun b o v q => seen (at_ne e q exo_frz) q
    · exact fun b ps q => ⟨#[], (seen (at_ne e q exo_tbl) q).trans (by simp)⟩
  refine fin _ _ fr ad.symm (I.un (t' := tk') U fun b o q => ?_)
  by_cases z : b = a
  · subst z
    obtain rfl := Option.some.inj (upd_same.symm.trans q)
    exact exo_ok hx
  rw [upd_ne z] at q
  by_cases z2 : b = hp.objs.size
  · subst z2
    obtain rfl := Option.some.inj (upd_same.symm.trans q)
    exact exd_ok hn (relO_put (fs := []) ry fun _ => True.intro)
  rw [upd_ne z2] at q
  refine (I.hok b o q).stay ?_ (fun c hc => seen (at_ne e hc exo_own) hc) fun c xs hc => seen (at_ne e hc exo_tup) hc
  intro c v hc r
  refine k c v ?_ r
  rcases hc with rfl | hc
  · exact z
  · exact at_ne e hc exo_own
end
/-! ### the rules -/
def tOstB (K : PySem.W.Frag) (f : Str) (to te : TE) : TS := fun D σ H => te σ H fun y H1 => to σ H1 fun x H2 => ∃ a C : Addr, x = .ref a ∧ XSt K C ∧ PySem.W.findIn K (.ref C) f = some none ∧
  H2 a = some (exo a C none) ∧ ∀ dx, H2 dx = none → dx ≠ a → D.nx σ (upd (upd H2 dx (exd dx [(f, y)])) a (exo a C (some dx)))
theorem ps_ostB {X : Cx} {o e : Expr} {to te : TE} {f : Str} {p' pos : Pos} (ho : PE X o to) (he : PE X e te) (hs : swapsWith e (some (.Attribute o f p')) pos.line X.env = pure false := by rfl) :
    PS X (.Assign [.Attribute o f p'] e pos) (tOstB X.K f to te) := by
  constructor
  intro pins s σ H D I h
  refine plainObj_wpAny_Assign_Attribute ?_ hs
  refine thn (he.run pins s σ H _ I h) ?_
  rintro v s1 ⟨y, H1, I1, r1, q1⟩
  refine thn (ho.run pins s1 σ H1 _ I1 q1) ?_
  rintro u s2 ⟨x, H2, I2, r2, a, C, rfl, T, no, ea, q⟩
  obtain rfl : u = Value.ref a := r2
  exact ostB T I2 ea no r1 fun dx s' n ne J => ⟨σ, _, J, q dx n ne⟩
end DR

namespace DR
open PySem PySem.Spec PySem.Calls PyProof.Rows L2
/-- what the making of an exception of the class at C asks -/
structure XMk (K : PySem.W.Frag) (C fI : Addr) (B nid iid : String) (bB : List Value) : Prop where
  base : ExcBaseFacts B nid iid bB
  made : PySem.W.excInitIn K C bB nid = true
  init : PySem.W.findIn K (.ref C) "__init__" = some (some (.ref fI))
  fn : PySem.W.typeIn K (.ref fI) = some (.type "function")
  keep : PySem.W.keepIn K (.ref C) = true
/-- __init__(self, f): the exception's one attribute -/
def spIni (C : Addr) (f : Str) : Sp := fun vs H Q _ => ∃ (a : Addr) (v : V), vs = [.ref a, v] ∧ H a = some (exo a C none) ∧
  ∀ dx, H dx = none → dx ≠ a → Q .non (upd (upd H dx (exd dx [(f, v)])) a (exo a C (some dx)))
/-- an exception with one attribute -/
def XAt (H : Hp) (a C : Addr) (f : Str) (v : V) : Prop := ∃ d, H a = some (exo a C (some d)) ∧ H d = some (exd d [(f, v)])
/-- how C(v), C(f = v) come: a new exception -/
def rMk (C : Addr) (f : Str) (v : V) (H : Hp) (Q : VK) : Prop := ∀ (a : Addr) (H' : Hp), H a = none → Same H H' → XAt H' a C f v → (∀ b, H' b = none → H b = none) → Q (.ref a) H'
section
variable {X : Cx} {pins : List (Addr × Obj)} {σ : L2.St} {H : Hp} {s : Shared} {Q : VK} {C fI : Addr} {B nid iid : String} {bB : List Value} {fd : FuncData} {ps : List Str} {f : Str} {k : Nat}
theorem run_mk {us all : List Value} {kw : List (Str × Value)} {v : V} {u : Value} (M : XMk X.K C fI B nid iid bB) (F : FnOk X.prog X.w X.K X.mg X.base CX0 k fI fd ps (spIni C f)) (hr : Room (k + 1) X.A)
    (bind : ∀ (s : Shared) (self : Value), X.K.In s.heap → BindsTo s fd ⟨self :: us, kw⟩ (ps.zip [self, u])) (hz : us.length ≤ sizeLine) (I : Inv X pins σ H s) (r : RelV v u) (h : rMk C f v H Q) :
    wpAny (model X.prog X.w) X.A (call (.ref C) us kw) (EP X pins σ Q) X.xe s := by
  obtain ⟨nm, N, qn, bs, bm, hd, sn, sub, ab, col, dd, k0, k1, k2, k3, k5, cl, hT⟩ := PySem.W.excInit_of I.kIn M.made
  obtain ⟨hp, g, dr, tk, os⟩ := s
  have up : hp.objs.size ≤ hp.objs.size + 1 := Nat.le_succ _
  have n0 : H (hp.objs.size + 1) = none := I.hok.fresh up
  have kp : ∀ b o, hp.get? b = some o → ((hp.push (PySem.W.kdv_tup us)).push (PySem.HandSPX.excO C hp.objs.size)).get? b = some o :=
    fun b o e => Heap.get?_push_of_some _ (Heap.get?_push_of_some _ e)
  have me : ((hp.push (PySem.W.kdv_tup us)).push (PySem.HandSPX.excO C hp.objs.size)).get? (hp.objs.size + 1) = some (PySem.HandSPX.excO C hp.objs.size) := by heap_get
  have I2 : Inv X pins σ (upd H (hp.objs.size + 1) (exo (hp.objs.size + 1) C none)) ⟨(hp.push (PySem.W.kdv_tup us)).push (PySem.HandSPX.excO C hp.objs.size), g, dr, tk, os⟩ :=
    I.laid (t' := tk) kp up (exo_ok me)
  have sp : spIni C f [.ref (hp.objs.size + 1), v] (upd H (hp.objs.size + 1) (exo (hp.objs.size + 1) C none)) (fun x H2 => x = .non ∧ Q (.ref (hp.objs.size + 1)) H2) E0 := by
    refine ⟨_, v, rfl, upd_same, fun dx nd ne => ⟨rfl, h _ _ n0 ?_ ⟨dx, upd_same, ?_⟩ ?_⟩⟩
    · intro b o q
      have b1 : b ≠ hp.objs.size + 1 := ne_of_none q n0
      have b2 : b ≠ dx := fun z => by
        rw [← z, upd_ne b1, q] at nd
        cases nd
      rw [upd_ne b1, upd_ne b2, upd_ne b1, q]
    · rw [upd_ne ne, upd_same]
    · intro b q
      by_cases b1 : b = hp.objs.size + 1
      · rw [b1]
        exact n0
      · rw [upd_ne b1] at q
        by_cases b2 : b = dx
        · rw [b2, upd_same] at q
          cases q
        · rw [upd_ne b2, upd_ne b1] at q
          exact q
  have go := F.run _ X.stack _ _ ⟨Value.ref (hp.objs.size + 1) :: us, kw⟩ [Value.ref (hp.objs.size + 1), u] _ _ E0 (hr.make C us kw) (I2.env0.make C us kw) (bind _ _ I2.kIn) (.cons (show RelV (.ref _) _ from rfl) (.cons r .nil)) sp
  refine wpAny_call (xn_call M.base hT cl (PySem.W.looks_findIn I.kIn M.init) (fun self => PySem.W.bind_fn I.kIn self M.fn) hz (codeAny_mono go fun res s' hq => ?_))
  match res, hq with
  | .error _, hq => exact hq.elim
  | .ok .next, hq => exact hq.elim
  | .ok .brk, hq => exact hq.elim
  | .ok .cont, hq => exact hq.elim
  | .ok (.ret u'), hq =>
    obtain ⟨v', H', I3, rv, ev, q3⟩ := I2.after hq
    subst ev
    exact ⟨rv, V.ref _, H', I3, rfl, q3⟩
end
/-- C(e), C(f = e) -/
def tMk1 (C : Addr) (f : Str) (ta : TA) : TE := fun σ H Q => ta σ H fun vs H1 => ∃ v, vs = [v] ∧ rMk C f v H1 Q
section
variable {X : Cx} {C fI : Addr} {B nid iid : String} {bB : List Value} {fd : FuncData} {ps : List Str} {f x : Str} {k : Nat} {e : Expr} {ta : TA} {p pos kpos : Pos}
theorem pe_mk1 (M : XMk X.K C fI B nid iid bB) (F : FnOk X.prog X.w X.K X.mg X.base CX0 k fI fd ps (spIni C f)) (hr : Room (k + 1) X.A)
    (bind : ∀ (s : Shared) (a b : Value), BindsTo s fd ⟨[a, b], []⟩ (ps.zip [a, b])) (hg : Gl X x) (hm : X.mg x = some (.ref C))
    (ha : PA X [e] ta) (hdb : (x == ("__debug__" : Str)) = false := by decide)
    (hs : starEach [e] X.env = (false, eval e X.env) :: starEach [] X.env := by rfl) (hpl : (backTo pos (starEach [] X.env)).any (·.1) = false := by rfl) :
    PE X (.Call (.Name x p) [e] [] pos) (tMk1 C f ta) := by
  constructor
  intro pins s σ H Q I h
  apply wpAny_Call_Name_kw
  refine ld_glob I hg hm ?_ hdb
  refine PySem.W.callWith_K (h₀ := X.base) I.mod.kin M.keep (thn (ha.run pos pins s σ H _ I h) ?_) hs hpl
  rintro us s1 ⟨vs, H1, I1, r, v, rfl, q⟩
  obtain ⟨u, rfl, ru⟩ := vals1 r
  exact ⟨I1.kIn, run_mk (all := []) M F hr (fun s self _ => bind s self u) (by show 1 ≤ sizeLine; decide) I1 ru q⟩
theorem pe_mkK (M : XMk X.K C fI B nid iid bB) (F : FnOk X.prog X.w X.K X.mg X.base CX0 k fI fd ps (spIni C f)) (hr : Room (k + 1) X.A)
    (bind : ∀ (s : Shared) (a b : Value), BindsTo s fd ⟨[a], [(f, b)]⟩ (ps.zip [a, b])) (hg : Gl X x) (hm : X.mg x = some (.ref C))
    (ha : PK X [⟨some f, e, kpos⟩] ta) (hall : (backToKw pos (keywordEach [⟨some f, e, kpos⟩] X.env)).all (·.1.isSome) = true := by rfl)
    (hks : (backToKw pos (keywordEach [⟨some f, e, kpos⟩] X.env)).filterMap (·.1) = [f] := by rfl) (hdb : (x == ("__debug__" : Str)) = false := by decide)
    (hpl : ((backTo pos (starEach [] X.env)).any (·.1) || (backToKw pos (keywordEach [⟨some f, e, kpos⟩] X.env)).any (·.1.isNone)) = false := by rfl) :
    PE X (.Call (.Name x p) [] [⟨some f, e, kpos⟩] pos) (tMk1 C f ta) := by
  constructor
  intro pins s σ H Q I h
  apply wpAny_Call_Name_kw
  refine ld_glob I hg hm ?_ hdb
  refine PySem.W.callWith_KW0 (h₀ := X.base) I.mod.kin M.keep hall (thn (ha.run pos pins s σ H _ I h) ?_) hpl
  rintro us s1 ⟨vs, H1, I1, r, v, rfl, q⟩
  obtain ⟨u, rfl, ru⟩ := vals1 r
  rw [hks]
  exact ⟨I1.kIn, run_mk (us := []) (all := []) M F hr (fun s self _ => bind s self u) (by show 0 ≤ sizeLine; decide) I1 ru q⟩
end
/-- what the reading of such an object's attribute asks of its class -/
structure XGet (K : PySem.W.Frag) (C : Addr) : Prop where
  ga : PySem.W.findIn K (.ref C) "__getattribute__" = some (some (.builtin "BaseException.__getattribute__"))
  gg : PySem.W.findIn K (.ref C) "__getattr__" = some none
  sb : PySem.W.subIn K (.ref C) (.type "BaseException") = some true
  hd : PySem.W.hasDictIn K C = true
theorem XAt.inst {X : Cx} {pins : List (Addr × Obj)} {σ : L2.St} {H : Hp} {s : Shared} {a C : Addr} {f : Str} {v : V} (I : Inv X pins σ H s) (h : XAt H a C f v) :
    ∃ ox od u, PySem.W.InstAt s.heap a ox C (some od) ∧ RelV v u ∧ PySem.W.lookIn f od = some (some u) := by
  obtain ⟨d, ha, hd⟩ := h
  obtain ⟨t1, ho⟩ := exo_at I.hok ha
  obtain ⟨mA, hns, rel⟩ := exd_at I.hok hd
  obtain ⟨od, hod, look⟩ := lookIn_ns hns
  have rf := rel f
  have e1 : ([(f, v)] : List (Str × V)).lookup f = some v := by simp [List.lookup]
  rw [e1] at rf
  obtain ⟨u, hu, ru⟩ := RelO.some_of rf
  exact ⟨_, od, u, ⟨ho, rfl, rfl, hod⟩, ru, by rw [look, hu]⟩
/-- e.f -/
def tXget (K : PySem.W.Frag) (f : Str) (te : TE) : TE := fun σ H Q => te σ H fun x H1 => ∃ (a C : Addr) (v : V), x = .ref a ∧ XAt H1 a C f v ∧ XGet K C ∧ PySem.W.findIn K (.ref C) f = some none ∧ Q v H1
theorem pe_xget {X : Cx} {e : Expr} {te : TE} {pos : Pos} {f : Str} (he : PE X e te) (hb : attributeBase e f X.env (eval e X.env) = eval e X.env := by rfl) : PE X (.Attribute e f pos) (tXget X.K f te) := by
  constructor
  intro pins s σ H Q I h
  refine attr_of hb (thn (he.run pins s σ H _ I h) ?_)
  rintro u s1 ⟨x, H1, I1, rx, a, C, v, rfl, ha, G, no, q⟩
  obtain rfl : u = Value.ref a := rx
  obtain ⟨ox, od, w', J, rw', lk⟩ := ha.inst I1
  exact PySem.HandSPX.exc_get I1.kIn J G.ga G.gg G.sb (PySem.W.findObj_own G.hd no rfl lk) (handed_of rw') ⟨v, H1, I1.tok _, rw', q⟩
/-- isinstance(e, c), e such an object -/
structure XIs (K : PySem.W.Frag) (C : Addr) : Prop extends XGet K C where
  cl : (PySem.W.clsIn K C).isSome = true
  ca : PySem.W.findIn K (.ref C) "__class__" = some (some (.builtin "object.__class__"))
  cg : PySem.W.specialIn K (.builtin "object.__class__") "__get__" = some (some (.builtin "getset_descriptor.__get__"))
  tk : PySem.W.takesIn K (.builtin "object.__class__") = some true
  ob : PySem.W.mroIn K C (.type "object") = some true
def rIsX (K : PySem.W.Frag) : List V → Hp → VK → Prop := fun xs H Q => ∃ (a C : Addr) (f : Str) (v c : V) (cv : Value) (b : Bool), xs = [.ref a, c] ∧ XAt H a C f v ∧ XIs K C ∧ ClsV c cv ∧ PySem.W.kitOne K (.ref C) cv = some b ∧ Q (.bl b) H
theorem call_isX {X : Cx} : CallR X (.builtin "isinstance") (rIsX X.K) := by
  intro pins s σ H xs us Q I r h
  obtain ⟨a, C, f, v, c, cv, b, rfl, ha, T, kc, e, q⟩ := h
  obtain ⟨u1, u2, rfl, r1, r2⟩ := vals2 r
  obtain rfl : u1 = Value.ref a := r1
  obtain rfl := kc.eq r2
  obtain ⟨ox, od, _, J, _⟩ := ha.inst I
  exact PySem.W.kia_one (PySem.W.kitx_exc T.cl T.ga T.gg T.sb T.ca T.cg T.tk T.ob) I.kIn J e (fun z => nomatch z) fun tk => ⟨.bl b, H, I.tok tk, rfl, q⟩
end DR

/-! data and exceptions carried to a later heap -/
namespace DR
open PySem PySem.Spec L2
theorem same_tup {K : PySem.W.Frag} {H H' : Hp} {a : Addr} {xs : List V} (e : Same H H') (h : SqT K H a xs) : SqT K H' a xs := by
  rcases h with (h | ⟨o, h⟩) | h
  · exact .inl (.inl (e _ _ h))
  · exact .inl (.inr ⟨o, e _ _ h⟩)
  · exact .inr h
mutual
theorem dp_same {K : PySem.W.Frag} {H H' : Hp} (e : Same H H') : ∀ (d : PyData) (v : V), Dp K H v d → Dp K H' v d
  | .none, _, h => by cases h; exact .non
  | .bool b, _, h => by cases h; exact .bl b
  | .int i, _, h => by cases h; exact .int i
  | .str x, _, h => by cases h; exact .str x
  | .list ds, _, h => by
    cases h with
    | lst hs ha => exact .lst (e.seq hs) (dps_same e ds _ ha)
  | .tuple ds, _, h => by
    cases h with
    | tup hs ha => exact .tup (same_tup e hs) (dps_same e ds _ ha)
  | .dict _, _, h => by cases h
theorem dps_same {K : PySem.W.Frag} {H H' : Hp} (e : Same H H') : ∀ (ds : List PyData) (vs : List V), DpAll K H vs ds → DpAll K H' vs ds
  | [], _, h => by cases h; exact .nil
  | d :: ds, _, h => by
    cases h with
    | cons h1 h2 => exact .cons (dp_same e d _ h1) (dps_same e ds _ h2)
end
theorem DpE.same {K : PySem.W.Frag} {H H' : Hp} {v : V} {d : PyData} (e : Same H H') (h : DpE K H v d) : DpE K H' v d :=
  h.imp (dp_same e d v) fun ⟨a, h1, h2, h3⟩ => ⟨a, h1, e _ _ h2, h3⟩
theorem XAt.same {H H' : Hp} {a C : Addr} {f : Str} {v : V} (e : Same H H') (h : XAt H a C f v) : XAt H' a C f v :=
  let ⟨d, h1, h2⟩ := h
  ⟨d, e _ _ h1, e _ _ h2⟩
/-- a list of bools as data -/
theorem dps_bools {K : PySem.W.Frag} {H : Hp} : ∀ bs : List Bool, DpAll K H (bs.map V.bl) (bs.map PyData.bool)
  | [] => .nil
  | b :: bs => .cons (.bl b) (dps_bools bs)
theorem dps_rep {K : PySem.W.Frag} {H : Hp} {v : V} {d : PyData} (h : Dp K H v d) : ∀ n : Nat, DpAll K H (List.replicate n v) (List.replicate n d)
  | 0 => .nil
  | n + 1 => .cons h (dps_rep h n)
/-- a test «x != y» of what is equal -/
theorem if_eq {c : Bool} {A B : Prop} (h : c = true) (b : B) : if (!c) = true then A else B := by
  rw [h]
  exact iteF b
/-- all that one class of the law's errors is known by -/
structure XC (P : Program) (w : World) (K : PySem.W.Frag) (mg : Str → Option Value) (base : Heap) (x f : Str) (C : Addr) : Prop where
  ex : ∃ (fI : Addr) (B nid iid : String) (bB : List Value) (fd : FuncData), XMk K C fI B nid iid bB ∧ FnOk P w K mg base CX0 1 fI fd ["self", f] (spIni C f) ∧
    (∀ (s : Shared) (a b : Value), BindsTo s fd ⟨[a, b], []⟩ ((["self", f] : List Str).zip [a, b])) ∧ (∀ (s : Shared) (a b : Value), BindsTo s fd ⟨[a], [(f, b)]⟩ ((["self", f] : List Str).zip [a, b]))
  mg : mg x = some (.ref C)
  is : XIs K C
  no : PySem.W.findIn K (.ref C) f = some none
section
variable {X : Cx} {C : Addr} {f x : Str} {e : Expr} {ta : TA} {p pos kpos : Pos}
theorem pe_mkC (T : XC X.prog X.w X.K X.mg X.base x f C) (hr : Room 2 X.A) (hg : Gl X x) (ha : PA X [e] ta) (hdb : (x == ("__debug__" : Str)) = false := by decide)
    (hs : starEach [e] X.env = (false, eval e X.env) :: starEach [] X.env := by rfl) (hpl : (backTo pos (starEach [] X.env)).any (·.1) = false := by rfl) :
    PE X (.Call (.Name x p) [e] [] pos) (tMk1 C f ta) := by
  obtain ⟨fI, B, nid, iid, bB, fd, M, F, b1, b2⟩ := T.ex
  exact pe_mk1 M F hr b1 hg T.mg ha hdb hs hpl
theorem pe_mkCK (T : XC X.prog X.w X.K X.mg X.base x f C) (hr : Room 2 X.A) (hg : Gl X x) (ha : PK X [⟨some f, e, kpos⟩] ta)
    (hall : (backToKw pos (keywordEach [⟨some f, e, kpos⟩] X.env)).all (·.1.isSome) = true := by rfl)
    (hks : (backToKw pos (keywordEach [⟨some f, e, kpos⟩] X.env)).filterMap (·.1) = [f] := by rfl) (hdb : (x == ("__debug__" : Str)) = false := by decide)
    (hpl : ((backTo pos (starEach [] X.env)).any (·.1) || (backToKw pos (keywordEach [⟨some f, e, kpos⟩] X.env)).any (·.1.isNone)) = false := by rfl) :
    PE X (.Call (.Name x p) [] [⟨some f, e, kpos⟩] pos) (tMk1 C f ta) := by
  obtain ⟨fI, B, nid, iid, bB, fd, M, F, b1, b2⟩ := T.ex
  exact pe_mkK M F hr b2 hg T.mg ha hall hks hdb hpl
end
end DR

namespace DR
open PySem PySem.Spec PySem.Calls PyProof.Rows L2
def tRz (C : Addr) (f : Str) (ta : TA) : L2.St → Hp → XK → Prop := fun σ H Q => ta σ H fun vs H1 => ∃ v, vs = [v] ∧ ∀ d H', Same H1 H' → H' d = some (.xd [(f, v)]) → Q (.ref C) (some d) H'
/-- raise C(e): an own exception over any base -/
theorem pmk_xmk {X : Cx} {x f : Str} {e : Expr} {ta : TA} {p pos : Pos} {C fI : Addr} {B nid iid : String} {bB : List Value} {k : Nat} {fd : FuncData} {ps : List Str} (M : XMk X.K C fI B nid iid bB)
    (rz : Raises X (.ref C)) (F1 : FnOk X.prog X.w X.K X.mg X.base CX0 k fI fd ps (spIni C f)) (hr : Room (k + 1) X.A) (bind : ∀ (s : Shared) (a b : Value), BindsTo s fd ⟨[a, b], []⟩ (ps.zip [a, b])) (hg : Gl X x) (hm : X.mg x = some (.ref C)) (ha : PA X [e] ta)
    (hdb : (x == ("__debug__" : Str)) = false := by decide) (he : starEach [e] X.env = (false, eval e X.env) :: starEach [] X.env := by rfl) (hpl : (backTo pos (starEach [] X.env)).any (·.1) = false := by rfl) :
    PMk X (.Call (.Name x p) [e] [] pos) (tRz C f ta) := by
  intro pins s σ H Q I h
  refine wpAny_Call_Name_kw (ld_glob I hg hm ?_ hdb)
  refine PySem.W.callWith_K (h₀ := X.base) I.ok.mod.kin M.keep (thn (ha.run pos pins s σ H _ I h) fun us s1 ⟨vs, H1, I1, r1, v, ev, q1⟩ => ⟨I1.kIn, ?_⟩) he hpl
  subst ev
  obtain ⟨u, rfl, ru⟩ := vals1 r1
  show wpAny _ _ (call (.ref C) [u]) _ _ _
  obtain ⟨nm, N, qn, bs, bm, hd, sn, sub, ab, col, dd, k0, k1, k2, k3, k5, cl, hT⟩ := PySem.W.excInit_of I1.kIn M.made
  obtain ⟨hp, g, dr, tk, os⟩ := s1
  have hsz : hp.objs.size ≤ hp.objs.size + 1 := Nat.le_succ _
  have hn : H1 (hp.objs.size + 1) = none := I1.hok.fresh hsz
  have hq : spIni C f [.ref (hp.objs.size + 1), v] (upd H1 (hp.objs.size + 1) (exo (hp.objs.size + 1) C none)) (fun x H2 => x = .non ∧ ∃ d fs, H2 (hp.objs.size + 1) = some (exo (hp.objs.size + 1) C (some d)) ∧ H2 d = some (exd d fs) ∧ H1 d = none ∧ Q (.ref C) (some d) (upd (del H2 (hp.objs.size + 1)) d (.xd fs))) (fun _ _ _ => False) := by
    refine ⟨_, v, rfl, upd_same, fun dx nd ne => ?_⟩
    rw [upd_ne ne] at nd
    refine ⟨rfl, dx, _, upd_same, (upd_ne ne).trans upd_same, nd, q1 dx _ (fun b u e => ?_) upd_same⟩
    have b1 : b ≠ hp.objs.size + 1 := ne_of_none e hn
    have b2 : b ≠ dx := ne_of_none e nd
    rw [upd_ne b2, del_ne b1, upd_ne b1, upd_ne b2, upd_ne b1, e]
  have kk : ∀ b o, hp.get? b = some o → ((hp.push (PySem.W.kdv_tup [u])).push (PySem.HandSPX.excO C hp.objs.size)).get? b = some o := fun b o e => Heap.get?_push_of_some _ (Heap.get?_push_of_some _ e)
  have hget : ((hp.push (PySem.W.kdv_tup [u])).push (PySem.HandSPX.excO C hp.objs.size)).get? (hp.objs.size + 1) = some (PySem.HandSPX.excO C hp.objs.size) := by heap_get
  have I2 : Inv X pins σ (upd H1 (hp.objs.size + 1) (exo (hp.objs.size + 1) C none)) ⟨(hp.push (PySem.W.kdv_tup [u])).push (PySem.HandSPX.excO C hp.objs.size), g, dr, tk, os⟩ :=
    I1.laid (t' := tk) (a := hp.objs.size + 1) (o := exo (hp.objs.size + 1) C none) (h' := (hp.push (PySem.W.kdv_tup [u])).push (PySem.HandSPX.excO C hp.objs.size)) kk hsz (exo_ok hget)
  have r2 : Vals [V.ref (hp.objs.size + 1), v] [Value.ref (hp.objs.size + 1), u] := .cons (show RelV (.ref _) _ from rfl) (.cons ru .nil)
  have go := F1.run _ X.stack _ _ ⟨Value.ref (hp.objs.size + 1) :: [u], []⟩ [Value.ref (hp.objs.size + 1), u] _ _ (fun _ _ _ => False) (hr.make C [u] []) (I2.env0.make C [u] []) (bind _ _ _) r2 hq
  refine wpAny_call (xn_call M.base hT cl (PySem.W.looks_findIn I1.kIn M.init) (fun self => PySem.W.bind_fn I1.kIn self M.fn) (by show 1 ≤ sizeLine; decide) (codeAny_mono go fun r s' hq' => ?_))
  cases r with
  | error er => exact hq'.elim
  | ok fl =>
    cases fl with
    | ret u' =>
      obtain ⟨v', H2, os2, bare2, un2, hok2, rv, ev, d, fs, ea, ed, hd1, q2⟩ := hq'
      subst ev
      obtain ⟨h2, g2, d2, t2, os'⟩ := s'
      exact ⟨rv, mk_end rz I1 hsz kk un2 hok2 os2 bare2 ea ed hd1 q2⟩
    | next => exact False.elim hq'
    | brk => exact False.elim hq'
    | cont => exact False.elim hq'
/-- a class of the program whose instances are raised, with one field -/
structure XR (P : Program) (w : World) (K : PySem.W.Frag) (mg : Str → Option Value) (base : Heap) (x f : Str) (C : Addr) : Prop extends XC P w K mg base x f C where
  exC : PySem.W.subIn K (.ref C) (.type "BaseException") = some true
  tyC : PySem.W.typeIn K (.ref C) = some (.type "type")
theorem pmk_xr {X : Cx} {x f : Str} {e : Expr} {ta : TA} {p pos : Pos} {C : Addr} (T : XR X.prog X.w X.K X.mg X.base x f C) (hr : Room 2 X.A) (hg : Gl X x) (ha : PA X [e] ta)
    (hdb : (x == ("__debug__" : Str)) = false := by decide) (he : starEach [e] X.env = (false, eval e X.env) :: starEach [] X.env := by rfl) (hpl : (backTo pos (starEach [] X.env)).any (·.1) = false := by rfl) :
    PMk X (.Call (.Name x p) [e] [] pos) (tRz C f ta) := by
  obtain ⟨fI, B, nid, iid, bB, fd, M, F, b1, b2⟩ := T.ex
  exact pmk_xmk M (raises_own T.exC T.tyC) F hr b1 hg T.mg ha hdb he hpl
end DR

/-! xs != ys of two lists with the same items -/
namespace DR
open PySem PySem.Spec PyProof.Rows L2
def sameB (v : V) : Prop := flatB v = true ∨ ∃ c, v = .ref c
theorem eqAt_sameB {A : Around} {s : Shared} {v : V} {u u' : Value} (r : RelV v u) (r' : RelV v u') (f : sameB v) : SeqAt.EqAt A s u u' true := by
  rcases f with f | ⟨c, rfl⟩
  · exact eqAt_same r r' f
  · cases (show u = Value.ref c from r)
    cases (show u' = Value.ref c from r')
    exact SeqAt.EqAt.same _
theorem vals_same {A : Around} {s : Shared} : ∀ {xs : List V} {us ws : List Value}, Vals xs us → Vals xs ws → (∀ v ∈ xs, sameB v) → ∀ j (h1 : j < us.length) (h2 : j < ws.length), SeqAt.EqAt A s us[j] ws[j] true
  | _, _, _, .nil, .nil, _, j, h1, _ => absurd h1 (Nat.not_lt_zero j)
  | _, _, _, .cons a1 b1, .cons a2 b2, f, 0, _, _ => eqAt_sameB a1 a2 (f _ (List.mem_cons_self ..))
  | _, _, _, .cons a1 b1, .cons a2 b2, f, j + 1, h1, h2 => vals_same b1 b2 (fun v h => f v (List.mem_cons_of_mem _ h)) j (Nat.lt_of_succ_lt_succ h1) (Nat.lt_of_succ_lt_succ h2)
def rNeS (K : PySem.W.Frag) : R2 := fun x y H Q => ∃ a b xs, x = .ref a ∧ y = .ref b ∧ SqL K H a xs ∧ SqL K H b xs ∧ (∀ v ∈ xs, sameB v) ∧ Q (.bl false) H
theorem op_neS {X : Cx} (hu : X.A.units < cLine) : OpR X (compareOp .NotEq) (rNeS X.K) := by
  intro pins s σ H x y v u Q I rx ry ⟨a, b, xs, ex, ey, ha, hb, f, q⟩
  subst ex ey
  cases (show v = Value.ref a from rx)
  cases (show u = Value.ref b from ry)
  obtain ⟨us, r1, p1, _⟩ := I.list ha
  obtain ⟨ws, r2, p2, _⟩ := I.list hb
  have hsz : us.toArray.size = ws.toArray.size := by
    rw [List.size_toArray, List.size_toArray, ← r1.length, ← r2.length]
  refine SeqAt.RcNeAt.lists (e := fun _ => true) p1.isList p2.isList hsz hu (fun j h1 h2 => ?_) X.prog X.w _ _ ?_
  · have k := vals_same (A := X.A.in1) (s := s) r1 r2 f j (by simpa using h1) (by simpa using h2)
    simpa using k
  · rw [show ((List.range us.toArray.size).all fun _ => true) = true from List.all_eq_true.mpr fun _ _ => rfl]
    exact ⟨.bl false, H, I, rfl, q⟩
end DR

/-! several clauses «except C as n» with one name n -/
namespace DR
open PySem PySem.Spec PyProof.Rows L2
abbrev Cls5 := Value × (Addr → Value → Option Addr → TS)
/-- what the clauses wish of an exception of the body, one behind the other -/
def wAll (K : PySem.W.Frag) (i : Nat) (Wout : WX) (D : Ends) : List Cls5 → WX
  | [] => Wout
  | (c, ts) :: r => wAs K c i ts (wAll K i Wout D r) D
inductive AsOk (X : Cx) (n : Str) : List ExceptHandler → List Cls5 → Prop
  | nil : AsOk X n [] []
  | cons {x : Str} {c : Value} {ts : Addr → Value → Option Addr → TS} {b₀ : Stmt} {suite : List Stmt} {np pos' : Pos} {hds : List ExceptHandler} {l : List Cls5} (hc : Names X x c)
      (hsu : ∀ (a : Addr) (oe : Obj) (cls : Value) (d : Option Addr) (pn : List (Addr × Obj)), Zc cls d oe → (∃ vs, oe.data = .fields vs) → PSs (X.suite a ((a, oe) :: pn)) (b₀ :: suite) (ts a cls d)) (r : AsOk X n hds l) :
      AsOk X n (.ExceptHandler (some (.Name x np)) (some n) (b₀ :: suite) pos' :: hds) ((c, ts) :: l)
section
variable {X : Cx} {n : Str} {i : Nat} {body : List Stmt} {h₀ : ExceptHandler} {hds : List ExceptHandler} {l : List Cls5} {pos : Pos} {tb : WX → TS} {Wout : WX}
theorem ps_try_all (hs : X.stack = X.env :: X.outer) (hf : X.env.frame = some X.env.locals) (hN : X.N.Nodup) (hi : X.N[i]? = some n) (hln : X.env.kindOf n = some .local) (tk : Takes X Wout)
    (hb : ∀ (W : WX) (pn : List (Addr × Obj)) (xe : Value → Shared → Prop), Takes (X.tr pn xe) W → PassesOwn (model X.prog X.w) X.A X.env xe → PSs (X.tr pn xe) body (tb W))
    (hh : AsOk X n (h₀ :: hds) l) : PS X (.Try body (h₀ :: hds) [] [] pos) (fun D σ H => tb (wAll X.K i Wout D l) D σ H) := by
  refine ⟨fun pins s σ H D I h => ?_⟩
  have ok := I.ok
  have hfr : X.A.frames = some (X.env :: X.outer) := ok.frames.trans (by rw [hs])
  refine wpAny_Try_except ?_
  refine wpAny_mono ((hb (wAll X.K i Wout D l) (X.pn ++ pins) (fun e s₁ => wpAny (model X.prog X.w) X.A (noteFrame e X.env) (fun _ s₂ => wpAny (model X.prog X.w) X.A (setFlight e none) (fun _ s₃ =>
    wpAny (model X.prog X.w) X.A (handleBy e X.env (h₀ :: hds)) (SP X pins D) X.xe s₃) X.xe s₂) X.xe s₁) (fun u s' xx => ?_) PassesOwn.looking).run [] s σ H D (I.toTry _) h) (fun f s1 hsp => ?_) (fun e s1 he => he)
  · obtain ⟨a, B, sI, pins', σ', H', cls, d, rfl, J', nb, up, sky, na, os, ag, w⟩ := xx
    have J := J'.ofTry ok
    rw [show (X.tr (X.pn ++ pins) _).stack = X.env :: X.outer from hs] at sky
    show wpAny (model X.prog X.w) X.A (noteFrame (.ref a) X.env) _ _ _
    refine Sky.land Zc.steady hfr hf sky fun h3 fl3 up3 => ?_
    have J3 : Inv X pins σ' H' { s' with heap := h3 } := J.landed nb fl3.1 (up.trans up3) os ag
    obtain ⟨oe3, vs3, he3, hz3, hd3⟩ := fl3.there
    have nfr : a ∉ frs (X.env :: X.outer) := fun hm => by
      obtain ⟨_, o', e', hnf⟩ := (fl3.2.2.1).mem hm
      rw [he3] at e'
      cases e'
      exact hnf _ hd3
    have nL : a ≠ X.env.locals := fun z => nfr (List.mem_filterMap.mpr ⟨X.env, List.mem_cons_self, by rw [hf, z]⟩)
    have nF : a ∉ X.fs := fun hm => by
      obtain ⟨e, he, q⟩ := List.mem_filterMap.mp hm
      exact nfr (List.mem_filterMap.mpr ⟨e, List.mem_cons_of_mem _ he, q⟩)
    have S3 := J3.suite he3 hd3 na nL nF
    have LT : PySem.W.Looks (model X.prog X.w) h3 (typeOf (.ref a)) cls := fun A Q E s k q => wpAny_typeOf_ref (k _ _ he3) (by rw [hz3.1]; exact q)
    suffices go : ∀ {hs' : List ExceptHandler} {l' : List Cls5}, AsOk X n hs' l' → wAll X.K i Wout D l' cls d σ' H' → wpAny (model X.prog X.w) X.A (handleBy (.ref a) X.env hs') (SP X pins D) X.xe { s' with heap := h3 } from go hh w
    intro hs' l' hk
    induction hk with
    | nil =>
      intro w
      refine wpAny_handleBy_nil ?_
      obtain ⟨_, _, _, oe, vs, T, oT, ts', he, hz, hd, h1, hr⟩ := id fl3
      unfold PySem.passOn
      refine wpAny_bind (wpAny_field he hd h1 ?_)
      rw [if_neg (show ¬ ((Value.ref T == Value.none) = true) from by simp)]
      have fin : wpAny (model X.prog X.w) X.A (setFlight (.ref a) X.env.frame) (fun _ s4 => wpAny (model X.prog X.w) X.A (throw (.ref a) : Sem Flow) (SP X pins D) X.xe s4) X.xe { s' with heap := h3 } := by
        rw [hf]
        exact HandSPX.setFlight_upZ fl3 fun h4 hh4 up4 => wpAny_throw (tk _ _ ⟨a, B, sI, pins, σ', H', cls, d, rfl, J, nb, (up.trans up3).trans up4, .inr (.inr (by rw [hs]; exact hh4)), na, os, ag, w⟩)
      first
        | exact wpAny_bind (wpAny_pure (wpAny_bind fin))
        | exact wpAny_bind fin
    | @cons x c ts b₀ suite np pos' hds2 l2 hc hsu r ih =>
      intro w
      obtain ⟨b, hb1, yes, no⟩ := w
      refine wpAny_handleBy_cons (codeAny_handlers_test ?_) (by intro q; cases q)
      have LM := PySem.W.exm_one (M := model X.prog X.w) (J3.kIn) LT hb1
      have test : ∀ {Q : Value → Shared → Prop} {E : Value → Shared → Prop}, Q c { s' with heap := h3 } → wpAny (model X.prog X.w) (X.A.mark (some (.ref a))) (eval (.Name x np) X.env) Q E { s' with heap := h3 } := fun {Q E} q => by
        obtain ⟨hg, hdbg, hm | ⟨hm, hv, hnn⟩⟩ := hc
        · exact ld_glob (X := X.suite a ((a, oe3) :: (X.pn ++ pins))) S3 hg hm q hdbg
        · exact ld_blt (X := X.suite a ((a, oe3) :: (X.pn ++ pins))) S3 hg hm hv q hnn hdbg
      refine test (LM.here ?_)
      cases b with
      | false =>
        show wpAny _ X.A (handleBy (.ref a) X.env hds2) _ _ _
        exact ih (no rfl)
      | true =>
        refine codeAny_handlers_suite_as (HandSPX.lands_againZ fl3 fun h4 fl4 up4 => ?_)
        have J4 : Inv X pins σ' H' { s' with heap := h4 } := J.landed nb fl4.1 ((up.trans up3).trans up4) os ag
        obtain ⟨oe4, vs4, he4, hz4, hd4⟩ := fl4.there
        refine store_ok (X := X.suite a ((a, oe4) :: (X.pn ++ pins))) (v := .ref a) (J4.suite he4 hd4 na nL nF) hN hi (.inl hln) rfl (fun s5 S5 => ?_) (.inr hln)
        refine wpAny_mono ((hsu a oe4 cls d (X.pn ++ pins) hz4 ⟨_, hd4⟩).run [] s5 _ H' _ S5 (yes rfl a na)) (fun f s6 hsp => ?_) (fun _ _ z => False.elim z)
        have out : ∀ {σ6 : L2.St} {H6 : Hp} {Q : Shared → Prop}, Inv (X.suite a ((a, oe4) :: (X.pn ++ pins))) [] σ6 H6 s6 → (∀ s7, Inv X pins (σ6.set i none) H6 s7 → Q s7) →
            wpAny (model X.prog X.w) X.A (do bindName X.env n .none; unbindBehindTheSuite X.env n pos') (fun _ s7 => Q s7) X.xe s6 := fun S6 hq => gone_ok (S6.unsuite ok) hN hi hln hq
        match f, hsp with
        | .next, ⟨_, _, S6, q6⟩ => exact out S6 fun s7 J7 => ⟨_, _, J7, q6⟩
        | .brk, ⟨_, _, S6, q6⟩ => exact out S6 fun s7 J7 => ⟨_, _, J7, q6⟩
        | .cont, ⟨_, _, S6, q6⟩ => exact out S6 fun s7 J7 => ⟨_, _, J7, q6⟩
        | .ret u, ⟨_, _, _, S6, r6, q6⟩ => exact out S6 fun s7 J7 => ⟨_, _, _, J7, r6, q6⟩
  · match f, hsp with
    | .next, ⟨_, _, J', q⟩ => exact wpAny_execs_nil ⟨_, _, J'.ofTry ok, q⟩
    | .brk, ⟨_, _, J', q⟩ => exact ⟨_, _, J'.ofTry ok, q⟩
    | .cont, ⟨_, _, J', q⟩ => exact ⟨_, _, J'.ofTry ok, q⟩
    | .ret u, ⟨_, _, _, J', r, q⟩ => exact ⟨_, _, _, J'.ofTry ok, r, q⟩
end
end DR

/-! The documents' mathematics, over lists of codes. -/
namespace DM
abbrev W := List Nat
def lets : List Nat := [97, 98, 99, 100, 101, 102, 103, 104, 105, 106, 107, 108, 109, 110, 111, 112, 113, 114, 115, 116, 117, 118, 119, 120, 121, 122]
/-! ### cut -/
def cutStep (L S : List Nat) : Option (List W × W) → Nat → Option (List W × W)
  | none, _ => none
  | some (ps, w), c => if c ∈ L then some (ps, w ++ [c]) else if c ∈ S then (if w = [] then some (ps ++ [[c]], []) else some (ps ++ [w] ++ [[c]], [])) else none
def flush (ps : List W) (w : W) : List W := if w = [] then ps else ps ++ [w]
def cutM (L S : List Nat) (t : W) : Option (List W) := (t.foldl (cutStep L S) (some ([], []))).map fun x => flush x.1 x.2
theorem cut_none (L S : List Nat) : ∀ t : W, t.foldl (cutStep L S) none = none
  | [] => rfl
  | _ :: t => cut_none L S t
theorem cut_word {L S : List Nat} : ∀ (u : W) (ps : List W) (w r : W), (∀ c ∈ u, c ∈ L) → (u ++ r).foldl (cutStep L S) (some (ps, w)) = r.foldl (cutStep L S) (some (ps, w ++ u))
  | [], ps, w, r, _ => by simp
  | c :: u, ps, w, r, h => by
    have hc : c ∈ L := h c (List.mem_cons_self ..)
    have ih := cut_word (S := S) u ps (w ++ [c]) r fun x hx => h x (List.mem_cons_of_mem _ hx)
    show (u ++ r).foldl (cutStep L S) (cutStep L S (some (ps, w)) c) = _
    rw [show cutStep L S (some (ps, w)) c = some (ps, w ++ [c]) from if_pos hc, ih, List.append_assoc]
    rfl
theorem cut_sign {L S : List Nat} {c : Nat} (h1 : c ∉ L) (h2 : c ∈ S) (ps : List W) (w : W) : cutStep L S (some (ps, w)) c = some (flush ps w ++ [[c]], []) := by
  show (if c ∈ L then _ else if c ∈ S then (if w = [] then _ else _) else _) = _
  rw [if_neg h1, if_pos h2]
  unfold flush
  split <;> rfl
/-! ### trees -/
mutual
inductive Tr where
  | nd (k : W) (ms : List W) (ks : Trs)
inductive Trs where
  | nil
  | cons (t : Tr) (ts : Trs)
end
def headL (k : W) (ms : List W) : W := k ++ (ms.map fun m => 46 :: m).flatten
mutual
def Tr.text : Tr → W
  | .nd k ms ks => headL k ms ++ ks.wrap
def Trs.wrap : Trs → W
  | .nil => []
  | .cons t ts => 40 :: (t.text ++ ts.more)
def Trs.more : Trs → W
  | .nil => [41]
  | .cons t ts => 44 :: (t.text ++ ts.more)
end
mutual
def Tr.toks : Tr → List W
  | .nd k ms ks => headL k ms :: ks.wrapT
def Trs.wrapT : Trs → List W
  | .nil => []
  | .cons t ts => [40] :: (t.toks ++ ts.moreT)
def Trs.moreT : Trs → List W
  | .nil => [[41]]
  | .cons t ts => [44] :: (t.toks ++ ts.moreT)
end
def isName (w : W) : Bool := decide (1 ≤ w.length) && decide (w.length ≤ 8) && w.all fun c => decide (c ∈ lets)
def areNames (ws : List W) : Bool := ws.all isName && decide ws.Nodup
mutual
def Tr.good : Tr → Prop
  | .nd k ms ks => isName k = true ∧ areNames ms = true ∧ ks.good
def Trs.good : Trs → Prop
  | .nil => True
  | .cons t ts => t.good ∧ ts.good
end
/-- what read_rows cuts by -/
def LD : List Nat := lets ++ [46]
def SG : List Nat := [40, 41, 44]
theorem isName_mem {w : W} (h : isName w = true) : w ≠ [] ∧ w.length ≤ 8 ∧ ∀ c ∈ w, c ∈ lets := by
  unfold isName at h
  simp only [Bool.and_eq_true, decide_eq_true_eq, List.all_eq_true] at h
  obtain ⟨⟨h1, h2⟩, h3⟩ := h
  refine ⟨fun e => ?_, h2, h3⟩
  rw [e] at h1
  exact absurd h1 (by decide)
theorem areNames_mem {ws : List W} (h : areNames ws = true) : (∀ w ∈ ws, isName w = true) ∧ ws.Nodup := by
  unfold areNames at h
  simp only [Bool.and_eq_true, decide_eq_true_eq, List.all_eq_true] at h
  exact h
theorem head_in {k : W} {ms : List W} (hk : isName k = true) (hm : areNames ms = true) : headL k ms ≠ [] ∧ ∀ c ∈ headL k ms, c ∈ LD := by
  obtain ⟨k1, _, k2⟩ := isName_mem hk
  obtain ⟨m1, _⟩ := areNames_mem hm
  refine ⟨fun e => k1 (List.append_eq_nil_iff.mp e).1, fun c hc => ?_⟩
  rcases List.mem_append.mp hc with h | h
  · exact List.mem_append_left _ (k2 c h)
  · obtain ⟨l, hl, hc⟩ := List.mem_flatten.mp h
    obtain ⟨m, hm, rfl⟩ := List.mem_map.mp hl
    rcases List.mem_cons.mp hc with rfl | hc
    · exact List.mem_append_right _ (List.mem_cons_self ..)
    · exact List.mem_append_left _ ((isName_mem (m1 m hm)).2.2 c hc)
theorem sg_no {c : Nat} (h : c ∈ SG) : c ∉ LD := by
  unfold SG at h
  unfold LD lets
  simp at h
  rcases h with rfl | rfl | rfl <;> decide
mutual
theorem cut_tree : ∀ (t : Tr), t.good → ∀ (ps : List W) (r : W), ∃ ps' w', (t.text ++ r).foldl (cutStep LD SG) (some (ps, [])) = r.foldl (cutStep LD SG) (some (ps', w')) ∧ flush ps' w' = ps ++ t.toks
  | .nd k ms ks, g, ps, r => by
    obtain ⟨g1, g2, g3⟩ := g
    obtain ⟨h1, h2⟩ := head_in g1 g2
    rw [show (Tr.nd k ms ks).text = headL k ms ++ ks.wrap from by rw [Tr.text], List.append_assoc, cut_word _ _ _ _ h2]
    obtain ⟨ps', w', e1, e2⟩ := cut_wrap ks g3 ps (headL k ms) h1 r
    refine ⟨ps', w', e1, ?_⟩
    rw [e2, Tr.toks]
theorem cut_wrap : ∀ (ks : Trs), ks.good → ∀ (ps : List W) (h : W), h ≠ [] → ∀ r : W, ∃ ps' w', (ks.wrap ++ r).foldl (cutStep LD SG) (some (ps, [] ++ h)) = r.foldl (cutStep LD SG) (some (ps', w')) ∧ flush ps' w' = ps ++ (h :: ks.wrapT)
  | .nil, _, ps, h, nh, r => by
    refine ⟨ps, h, by simp [Trs.wrap], ?_⟩
    unfold flush
    rw [if_neg nh, Trs.wrapT]
  | .cons t ts, g, ps, h, nh, r => by
    rw [Trs.good] at g
    have s : (40 : Nat) ∈ SG := by decide
    rw [Trs.wrap, List.cons_append, List.foldl_cons, cut_sign (sg_no s) s, List.append_assoc]
    obtain ⟨p1, w1, e1, f1⟩ := cut_tree t g.1 (flush ps ([] ++ h) ++ [[40]]) (ts.more ++ r)
    rw [e1]
    obtain ⟨p2, w2, e2, f2⟩ := cut_more ts g.2 p1 w1 r
    refine ⟨p2, w2, e2, ?_⟩
    rw [f2, f1, Trs.wrapT]
    have e3 : flush ps ([] ++ h) = ps ++ [h] := by
      unfold flush
      rw [List.nil_append, if_neg nh]
    rw [e3]
    simp
theorem cut_more : ∀ (ts : Trs), ts.good → ∀ (ps : List W) (w r : W), ∃ ps' w', (ts.more ++ r).foldl (cutStep LD SG) (some (ps, w)) = r.foldl (cutStep LD SG) (some (ps', w')) ∧ flush ps' w' = flush ps w ++ ts.moreT
  | .nil, _, ps, w, r => by
    have s : (41 : Nat) ∈ SG := by decide
    refine ⟨flush ps w ++ [[41]], [], ?_, ?_⟩
    · rw [Trs.more, List.cons_append, List.foldl_cons, cut_sign (sg_no s) s, List.nil_append]
    · rw [Trs.moreT]
      rfl
  | .cons t ts, g, ps, w, r => by
    rw [Trs.good] at g
    have s : (44 : Nat) ∈ SG := by decide
    rw [Trs.more, List.cons_append, List.foldl_cons, cut_sign (sg_no s) s, List.append_assoc]
    obtain ⟨p1, w1, e1, f1⟩ := cut_tree t g.1 (flush ps w ++ [[44]]) (ts.more ++ r)
    rw [e1]
    obtain ⟨p2, w2, e2, f2⟩ := cut_more ts g.2 p1 w1 r
    refine ⟨p2, w2, e2, ?_⟩
    rw [f2, f1, Trs.moreT]
    simp
end
theorem cut_text (t : Tr) (g : t.good) : cutM LD SG t.text = some t.toks := by
  obtain ⟨ps, w, e, f⟩ := cut_tree t g [] []
  unfold cutM
  rw [List.append_nil] at e
  rw [e]
  simp [f]
end DM

namespace DM
abbrev Row := Nat × W × List W
/-- what the reading does with the names of a head: the sorted marks are a parameter -/
def headM (srt : List W → List W) (w : W) : Option (W × List W) :=
  match TL.spl [46] 0 [] w with
  | [] => none
  | k :: ms => if isName k = true ∧ areNames ms = true then some (k, srt ms) else none
def readStep (srt : List W → List W) : Option (Nat × W × List Row) → W → Option (Nat × W × List Row)
  | none, _ => none
  | some (d, b, rs), p =>
    if b = [40] ∨ b = [44] then (match headM srt p with | none => none | some (k, ms) => some (d, p, rs ++ [(d, k, ms)]))
    else if p = [40] ∧ b ≠ [41] then some (d + 1, p, rs)
    else if p = [41] ∧ 0 < d then some (d - 1, p, rs)
    else if p ≠ [44] ∨ d = 0 then none
    else some (d, p, rs)
def readM (srt : List W → List W) (ps : List W) : Option (List Row) :=
  match ps.foldl (readStep srt) (some (0, [44], [])) with
  | none => none
  | some (d, b, rs) => if 0 < d ∨ b = [40] ∨ b = [44] then none else some rs
mutual
def Tr.rows (srt : List W → List W) : Nat → Tr → List Row
  | d, .nd k ms ks => (d, k, srt ms) :: ks.rows srt (d + 1)
def Trs.rows (srt : List W → List W) : Nat → Trs → List Row
  | _, .nil => []
  | d, .cons t ts => t.rows srt d ++ ts.rows srt d
end
theorem headM_good {srt : List W → List W} {k : W} {ms : List W} (hk : isName k = true) (hm : areNames ms = true) : headM srt (headL k ms) = some (k, srt ms) := by
  have n46 : ∀ {w : W}, isName w = true → (46 : Nat) ∉ w := fun {w} h m => by
    have := (isName_mem h).2.2 46 m
    revert this
    decide
  have key : ∀ (ms : List W), (∀ m ∈ ms, isName m = true) → ∀ (k : W), isName k = true → TL.spl [46] 0 [] (headL k ms) = k :: ms := by
    intro ms
    induction ms with
    | nil =>
      intro _ k hk
      have := TL.spl_last1 (S := []) (acc := []) (n46 hk)
      simpa [headL] using this
    | cons m ms ih =>
      intro h k hk
      have h1 := TL.spl_part1 (S := []) (acc := []) (rest := headL m ms) (n46 hk)
      have e : headL k (m :: ms) = k ++ ([46] ++ headL m ms) := by simp [headL]
      rw [e, h1, ih (fun x hx => h x (List.mem_cons_of_mem _ hx)) m (h m (List.mem_cons_self ..))]
      rfl
  unfold headM
  rw [key ms (areNames_mem hm).1 k hk]
  exact if_pos ⟨hk, hm⟩
theorem head_not {k : W} {ms : List W} (hk : isName k = true) {c : Nat} (hc : c ∈ SG) : headL k ms ≠ [c] := by
  obtain ⟨k1, _, k2⟩ := isName_mem hk
  intro e
  unfold headL at e
  cases k with
  | nil => exact k1 rfl
  | cons a k =>
    rw [List.cons_append] at e
    injection e with e1 _
    have := k2 a (List.mem_cons_self ..)
    rw [e1] at this
    exact sg_no hc (List.mem_append_left _ this)
section
variable {srt : List W → List W}
mutual
theorem read_tree : ∀ (t : Tr), t.good → ∀ (d : Nat) (b : W) (rs : List Row) (r : List W), b = [40] ∨ b = [44] →
    ∃ b', b' ≠ [40] ∧ b' ≠ [44] ∧ (t.toks ++ r).foldl (readStep srt) (some (d, b, rs)) = r.foldl (readStep srt) (some (d, b', rs ++ t.rows srt d))
  | .nd k ms ks, g, d, b, rs, r, hb => by
    obtain ⟨g1, g2, g3⟩ := g
    have s : readStep srt (some (d, b, rs)) (headL k ms) = some (d, headL k ms, rs ++ [(d, k, srt ms)]) := by
      show (if b = [40] ∨ b = [44] then _ else _) = _
      rw [if_pos hb, headM_good g1 g2]
    rw [Tr.toks, List.cons_append, List.foldl_cons, s]
    obtain ⟨b', h1, h2, e⟩ := read_wrap ks g3 d (headL k ms) (head_not g1 (by decide)) (head_not g1 (by decide)) (head_not g1 (by decide)) (rs ++ [(d, k, srt ms)]) r
    refine ⟨b', h1, h2, ?_⟩
    rw [e, Tr.rows, List.append_assoc]
    rfl
theorem read_wrap : ∀ (ks : Trs), ks.good → ∀ (d : Nat) (b : W), b ≠ [40] → b ≠ [41] → b ≠ [44] → ∀ (rs : List Row) (r : List W),
    ∃ b', b' ≠ [40] ∧ b' ≠ [44] ∧ (ks.wrapT ++ r).foldl (readStep srt) (some (d, b, rs)) = r.foldl (readStep srt) (some (d, b', rs ++ ks.rows srt (d + 1)))
  | .nil, _, d, b, n1, _, n3, rs, r => ⟨b, n1, n3, by simp [Trs.wrapT, Trs.rows]⟩
  | .cons t ts, g, d, b, n1, n2, n3, rs, r => by
    rw [Trs.good] at g
    have s : readStep srt (some (d, b, rs)) [40] = some (d + 1, [40], rs) := by
      show (if b = [40] ∨ b = [44] then _ else _) = _
      rw [if_neg (fun h => h.elim n1 n3), if_pos ⟨rfl, n2⟩]
    rw [Trs.wrapT, List.cons_append, List.foldl_cons, s, List.append_assoc]
    obtain ⟨b1, h1, h2, e1⟩ := read_tree t g.1 (d + 1) [40] rs (ts.moreT ++ r) (.inl rfl)
    rw [e1]
    obtain ⟨b2, h3, h4, e2⟩ := read_more ts g.2 d b1 h1 h2 (rs ++ t.rows srt (d + 1)) r
    refine ⟨b2, h3, h4, ?_⟩
    rw [e2, Trs.rows, List.append_assoc]
theorem read_more : ∀ (ts : Trs), ts.good → ∀ (d : Nat) (b : W), b ≠ [40] → b ≠ [44] → ∀ (rs : List Row) (r : List W),
    ∃ b', b' ≠ [40] ∧ b' ≠ [44] ∧ (ts.moreT ++ r).foldl (readStep srt) (some (d + 1, b, rs)) = r.foldl (readStep srt) (some (d, b', rs ++ ts.rows srt (d + 1)))
  | .nil, _, d, b, n1, n3, rs, r => by
    have s : readStep srt (some (d + 1, b, rs)) [41] = some (d, [41], rs) := by
      show (if b = [40] ∨ b = [44] then _ else _) = _
      rw [if_neg (fun h => h.elim n1 n3), if_neg (fun h => absurd h.1 (by decide)), if_pos ⟨rfl, Nat.succ_pos d⟩]
      rfl
    refine ⟨[41], by decide, by decide, ?_⟩
    rw [Trs.moreT, List.cons_append, List.foldl_cons, s]
    simp [Trs.rows]
  | .cons t ts, g, d, b, n1, n3, rs, r => by
    rw [Trs.good] at g
    have s : readStep srt (some (d + 1, b, rs)) [44] = some (d + 1, [44], rs) := by
      show (if b = [40] ∨ b = [44] then _ else _) = _
      rw [if_neg (fun h => h.elim n1 n3), if_neg (fun h => absurd h.1 (by decide)), if_neg (fun h => absurd h.1 (by decide)), if_neg (fun h => h.elim (fun q => q rfl) (fun q => absurd q (Nat.succ_ne_zero d)))]
    rw [Trs.moreT, List.cons_append, List.foldl_cons, s, List.append_assoc]
    obtain ⟨b1, h1, h2, e1⟩ := read_tree t g.1 (d + 1) [44] rs (ts.moreT ++ r) (.inr rfl)
    rw [e1]
    obtain ⟨b2, h3, h4, e2⟩ := read_more ts g.2 d b1 h1 h2 (rs ++ t.rows srt (d + 1)) r
    refine ⟨b2, h3, h4, ?_⟩
    rw [e2, Trs.rows, List.append_assoc]
end
theorem read_text (t : Tr) (g : t.good) : readM srt t.toks = some (t.rows srt 0) := by
  obtain ⟨b, h1, h2, e⟩ := read_tree (srt := srt) t g 0 [44] [] [] (.inr rfl)
  unfold readM
  rw [List.append_nil] at e
  rw [e]
  show (if 0 < 0 ∨ b = [40] ∨ b = [44] then none else some ([] ++ t.rows srt 0)) = _
  rw [if_neg (fun h => by rcases h with h | h | h; exact absurd h (by decide); exact h1 h; exact h2 h)]
  rfl
end
/-! ### text_of -/
def pad (b : Int) (d : Nat) : W := if (d : Int) > b ∧ b > -1 then [40] else if (d : Int) ≤ b then List.replicate (b - d).toNat 41 ++ [44] else []
def outStep (x : W × Int) (r : Row) : W × Int := (x.1 ++ (pad x.2 r.1 ++ headL r.2.1 r.2.2), (r.1 : Int))
def shut (x : W × Int) (d : Nat) : W := x.1 ++ List.replicate (x.2 - d).toNat 41
def outM (rs : List Row) : W := shut (rs.foldl outStep ([], -1)) 0
mutual
def Tr.sortT (srt : List W → List W) : Tr → Tr
  | .nd k ms ks => .nd k (srt ms) (ks.sortT srt)
def Trs.sortT (srt : List W → List W) : Trs → Trs
  | .nil => .nil
  | .cons t ts => .cons (t.sortT srt) (ts.sortT srt)
end
section
variable {srt : List W → List W}
theorem shut_succ {x : W × Int} {d : Nat} (h : ((d + 1 : Nat) : Int) ≤ x.2) : shut x d = shut x (d + 1) ++ [41] := by
  unfold shut
  have e : (x.2 - (d : Int)).toNat = (x.2 - ((d + 1 : Nat) : Int)).toNat + 1 := by omega
  rw [e, List.replicate_succ', List.append_assoc]
mutual
theorem out_tree : ∀ (t : Tr) (d : Nat) (x : W × Int), (d : Int) ≤ ((t.rows srt d).foldl outStep x).2 ∧ shut ((t.rows srt d).foldl outStep x) d = x.1 ++ pad x.2 d ++ (t.sortT srt).text
  | .nd k ms ks, d, x => by
    rw [Tr.rows, List.foldl_cons, Tr.sortT, Tr.text]
    obtain ⟨h1, h2⟩ := out_wrap ks d (x.1 ++ (pad x.2 d ++ headL k (srt ms)))
    refine ⟨h1, ?_⟩
    show shut (List.foldl outStep (x.1 ++ (pad x.2 d ++ headL k (srt ms)), (d : Int)) (ks.rows srt (d + 1))) d = _
    rw [h2]
    simp [List.append_assoc]
theorem out_wrap : ∀ (ks : Trs) (d : Nat) (a : W), (d : Int) ≤ ((ks.rows srt (d + 1)).foldl outStep (a, (d : Int))).2 ∧ shut ((ks.rows srt (d + 1)).foldl outStep (a, (d : Int))) d = a ++ (ks.sortT srt).wrap
  | .nil, d, a => by
    rw [Trs.rows, List.foldl_nil, Trs.sortT, Trs.wrap]
    refine ⟨Int.le_refl _, ?_⟩
    unfold shut
    simp
  | .cons t ts, d, a => by
    rw [Trs.rows, List.foldl_append, Trs.sortT, Trs.wrap]
    obtain ⟨h1, h2⟩ := out_tree t (d + 1) (a, (d : Int))
    obtain ⟨h3, h4⟩ := out_more ts d _ h1
    refine ⟨by omega, ?_⟩
    rw [h4, h2]
    have e : pad (d : Int) (d + 1) = [40] := by
      unfold pad
      rw [if_pos ⟨by omega, by omega⟩]
    show a ++ pad (d : Int) (d + 1) ++ _ ++ _ = _
    rw [e]
    simp [List.append_assoc]
theorem out_more : ∀ (ts : Trs) (d : Nat) (x : W × Int), ((d + 1 : Nat) : Int) ≤ x.2 → ((d + 1 : Nat) : Int) ≤ ((ts.rows srt (d + 1)).foldl outStep x).2 ∧ shut ((ts.rows srt (d + 1)).foldl outStep x) d = shut x (d + 1) ++ (ts.sortT srt).more
  | .nil, d, x, h => by
    rw [Trs.rows, List.foldl_nil, Trs.sortT, Trs.more]
    exact ⟨h, shut_succ h⟩
  | .cons t ts, d, x, h => by
    rw [Trs.rows, List.foldl_append, Trs.sortT, Trs.more]
    obtain ⟨h1, h2⟩ := out_tree t (d + 1) x
    obtain ⟨h3, h4⟩ := out_more ts d _ h1
    refine ⟨h3, ?_⟩
    rw [h4, h2]
    have e : pad x.2 (d + 1) = List.replicate (x.2 - ((d + 1 : Nat) : Int)).toNat 41 ++ [44] := by
      unfold pad
      rw [if_neg (fun q => absurd q.1 (by omega)), if_pos h]
    rw [e]
    unfold shut
    simp [List.append_assoc]
end
theorem out_text (t : Tr) : outM (t.rows srt 0) = (t.sortT srt).text := by
  obtain ⟨_, h⟩ := out_tree (srt := srt) t 0 ([], -1)
  unfold outM
  rw [h]
  rfl
end
/-! ### paths_of -/
abbrev Pth := List Nat
def next (q : Pth) (d : Nat) : Pth := if q.length < d then q ++ [0] else if 0 < d then q.take (d - 1) ++ [q.getD (d - 1) 0 + 1] else q
def pathStep (x : List Pth × Pth) (r : Row) : List Pth × Pth := (x.1 ++ [next x.2 r.1], next x.2 r.1)
def pathsM (rs : List Row) : List Pth := (rs.foldl pathStep ([], [])).1
mutual
def Tr.nodes : Pth → Tr → List (Pth × Tr)
  | p, .nd k ms ks => (p, .nd k ms ks) :: ks.nodes p 0
def Trs.nodes : Pth → Nat → Trs → List (Pth × Tr)
  | _, _, .nil => []
  | p, i, .cons t ts => t.nodes (p ++ [i]) ++ ts.nodes p (i + 1)
end
section
variable {srt : List W → List W}
mutual
theorem path_tree : ∀ (t : Tr) (p q : Pth) (ps : List Pth), next q p.length = p →
    ∃ q', (t.rows srt p.length).foldl pathStep (ps, q) = (ps ++ (t.nodes p).map (·.1), q') ∧ p.length ≤ q'.length ∧ q'.take p.length = p
  | .nd k ms ks, p, q, ps, h => by
    rw [Tr.rows, List.foldl_cons, Tr.nodes]
    obtain ⟨q', e, h1, h2⟩ := path_wrap ks p (ps ++ [p])
    refine ⟨q', ?_, h1, h2⟩
    show List.foldl pathStep (ps ++ [next q p.length], next q p.length) _ = _
    rw [h, e]
    simp
theorem path_wrap : ∀ (ks : Trs) (p : Pth) (ps : List Pth), ∃ q', (ks.rows srt (p.length + 1)).foldl pathStep (ps, p) = (ps ++ (ks.nodes p 0).map (·.1), q') ∧ p.length ≤ q'.length ∧ q'.take p.length = p
  | .nil, p, ps => ⟨p, by simp [Trs.rows, Trs.nodes], Nat.le_refl _, List.take_length⟩
  | .cons t ts, p, ps => by
    rw [Trs.rows, List.foldl_append, Trs.nodes]
    have l1 : (p ++ [0]).length = p.length + 1 := by simp
    have n1 : next p (p ++ [0]).length = p ++ [0] := by
      unfold next
      rw [if_pos (by rw [l1]; exact Nat.lt_succ_self _)]
    obtain ⟨q1, e1, h1, h2⟩ := path_tree t (p ++ [0]) p ps n1
    rw [l1] at e1 h1 h2
    rw [e1]
    obtain ⟨q2, e2, h3, h4⟩ := path_more ts p 0 q1 h1 h2 (ps ++ (t.nodes (p ++ [0])).map (·.1))
    refine ⟨q2, ?_, h3, h4⟩
    rw [e2]
    simp
theorem path_more : ∀ (ts : Trs) (p : Pth) (i : Nat) (q : Pth), p.length + 1 ≤ q.length → q.take (p.length + 1) = p ++ [i] → ∀ ps : List Pth,
    ∃ q', (ts.rows srt (p.length + 1)).foldl pathStep (ps, q) = (ps ++ (ts.nodes p (i + 1)).map (·.1), q') ∧ p.length ≤ q'.length ∧ q'.take p.length = p
  | .nil, p, i, q, h1, h2, ps => by
    refine ⟨q, by simp [Trs.rows, Trs.nodes], Nat.le_trans (Nat.le_succ _) h1, ?_⟩
    have := congrArg (List.take p.length) h2
    rw [List.take_take, Nat.min_eq_left (Nat.le_succ _)] at this
    rw [this, List.take_left]
  | .cons t ts, p, i, q, h1, h2, ps => by
    rw [Trs.rows, List.foldl_append, Trs.nodes]
    have l1 : (p ++ [i + 1]).length = p.length + 1 := by simp
    have t1 : q.take p.length = p := by
      have := congrArg (List.take p.length) h2
      rw [List.take_take, Nat.min_eq_left (Nat.le_succ _)] at this
      rw [this, List.take_left]
    have g1 : q.getD p.length 0 = i := by
      have := congrArg (fun l => l.getD p.length 0) h2
      simp only [List.getD_eq_getElem?_getD] at this ⊢
      rw [List.getElem?_take_of_lt (Nat.lt_succ_self _)] at this
      rw [this]
      simp
    have n1 : next q (p ++ [i + 1]).length = p ++ [i + 1] := by
      unfold next
      rw [l1, if_neg (by omega), if_pos (Nat.succ_pos _)]
      show q.take p.length ++ [q.getD p.length 0 + 1] = _
      rw [t1, g1]
    obtain ⟨q1, e1, h3, h4⟩ := path_tree t (p ++ [i + 1]) q ps n1
    rw [l1] at e1 h3 h4
    rw [e1]
    obtain ⟨q2, e2, h5, h6⟩ := path_more ts p (i + 1) q1 h3 h4 (ps ++ (t.nodes (p ++ [i + 1])).map (·.1))
    refine ⟨q2, ?_, h5, h6⟩
    rw [e2]
    simp
end
theorem path_text (t : Tr) : pathsM (t.rows srt 0) = (t.nodes []).map (·.1) := by
  obtain ⟨q, e, _⟩ := path_tree (srt := srt) t [] [] [] rfl
  unfold pathsM
  have e' : List.foldl pathStep ([], []) (t.rows srt 0) = ([] ++ (t.nodes []).map (·.1), q) := e
  rw [e']
  rfl
end
end DM

namespace DM
/-! ### sorting -/
def rises (l : List W) : Prop := l.Pairwise fun a b => ¬ b < a
theorem nlt_trans {a b c : W} (h1 : ¬ b < a) (h2 : ¬ c < b) : ¬ c < a := by
  have h1' : a ≤ b := List.not_lt.mp h1
  have h2' : b ≤ c := List.not_lt.mp h2
  exact List.not_lt.mpr (List.le_trans h1' h2')
theorem nlt_anti {a b : W} (h1 : ¬ b < a) (h2 : ¬ a < b) : a = b := List.le_antisymm (List.not_lt.mp h1) (List.not_lt.mp h2)
theorem rises_uniq {ys zs : List W} (p : ys.Perm zs) (h1 : rises ys) (h2 : rises zs) : ys = zs :=
  List.Perm.eq_of_pairwise (le := fun a b => ¬ b < a) (fun _ _ _ _ a b => nlt_anti a b) h1 h2 p
open Classical in
noncomputable def srt (ms : List W) : List W := if h : ∃ ys : List W, ys.Perm ms ∧ rises ys then Classical.choose h else ms
theorem srt_eq {ys ms : List W} (p : ys.Perm ms) (h : rises ys) : srt ms = ys := by
  unfold srt
  have ex : ∃ ys : List W, ys.Perm ms ∧ rises ys := ⟨ys, p, h⟩
  rw [dif_pos ex]
  obtain ⟨q, r⟩ := Classical.choose_spec ex
  exact rises_uniq (q.trans p.symm) r h
theorem rises_of {zs : List PySem.Str} (h : PyProof.Rows.sortedS zs = true) : rises (zs.map TL.tl) := by
  have key : ∀ (l : List PySem.Str) (p : PySem.Str), PyProof.Rows.risingS p l = true → rises ((p :: l).map TL.tl) := by
    intro l
    induction l with
    | nil => intro p _; exact List.pairwise_singleton _ _
    | cons x r ih =>
      intro p h
      unfold PyProof.Rows.risingS at h
      rw [Bool.and_eq_true] at h
      obtain ⟨h1, h2⟩ := h
      rw [PyProof.Rows.ltCps_eq] at h1
      have h1' : ¬ TL.tl x < TL.tl p := by simpa using h1
      have ih' := ih x h2
      unfold rises at ih' ⊢
      rw [List.map_cons, List.pairwise_cons]
      refine ⟨fun y hy => ?_, ih'⟩
      rw [List.map_cons] at hy ih'
      rcases List.mem_cons.mp hy with rfl | hy
      · exact h1'
      · exact nlt_trans h1' ((List.pairwise_cons.mp ih').1 y hy)
  cases zs with
  | nil => exact List.Pairwise.nil
  | cons x r => exact key r x h
/-! ### trees whose marks are sorted -/
mutual
def Tr.fixed : Tr → Prop
  | .nd k ms ks => rises ms ∧ ks.fixed
def Trs.fixed : Trs → Prop
  | .nil => True
  | .cons t ts => t.fixed ∧ ts.fixed
end
mutual
theorem fix_tree : ∀ t : Tr, t.fixed → t.sortT srt = t
  | .nd k ms ks, h => by
    rw [Tr.fixed] at h
    rw [Tr.sortT, srt_eq (.refl _) h.1, fix_trees ks h.2]
theorem fix_trees : ∀ ts : Trs, ts.fixed → ts.sortT srt = ts
  | .nil, _ => by rw [Trs.sortT]
  | .cons t ts, h => by
    rw [Trs.fixed] at h
    rw [Trs.sortT, fix_tree t h.1, fix_trees ts h.2]
end
mutual
/-- the same tree, the marks of each node in another order -/
def Tr.mix : Tr → Tr → Prop
  | .nd k ms ks, .nd k' ms' ks' => k = k' ∧ ms.Perm ms' ∧ ks.mix ks'
def Trs.mix : Trs → Trs → Prop
  | .nil, .nil => True
  | .cons t ts, .cons t' ts' => t.mix t' ∧ ts.mix ts'
  | _, _ => False
end
mutual
theorem mix_rows : ∀ (t t' : Tr), t.mix t' → t.fixed → (∀ d, t'.rows srt d = t.rows srt d) ∧ True
  | .nd k ms ks, .nd k' ms' ks', h, f => by
    rw [Tr.mix] at h
    obtain ⟨rfl, p, h⟩ := h
    rw [Tr.fixed] at f
    refine ⟨fun d => ?_, trivial⟩
    have e : srt ms' = srt ms := by rw [srt_eq p f.1, srt_eq (.refl _) f.1]
    rw [Tr.rows, Tr.rows, e, (mixs_rows ks ks' h f.2).1 (d + 1)]
theorem mixs_rows : ∀ (t t' : Trs), t.mix t' → t.fixed → (∀ d, t'.rows srt d = t.rows srt d) ∧ True
  | .nil, .nil, _, _ => ⟨fun d => rfl, trivial⟩
  | .nil, .cons _ _, h, _ => by simp [Trs.mix] at h
  | .cons _ _, .nil, h, _ => by simp [Trs.mix] at h
  | .cons t ts, .cons t' ts', h, f => by
    rw [Trs.mix] at h
    rw [Trs.fixed] at f
    refine ⟨fun d => ?_, trivial⟩
    rw [Trs.rows, Trs.rows, (mix_rows t t' h.1 f.1).1 d, (mixs_rows ts ts' h.2 f.2).1 d]
end
mutual
theorem mix_good : ∀ (t t' : Tr), t.mix t' → t.good → t'.good
  | .nd k ms ks, .nd k' ms' ks', h, g => by
    rw [Tr.mix] at h
    obtain ⟨rfl, p, h⟩ := h
    rw [Tr.good] at g ⊢
    refine ⟨g.1, ?_, mixs_good ks ks' h g.2.2⟩
    obtain ⟨a, b⟩ := areNames_mem g.2.1
    unfold areNames
    rw [Bool.and_eq_true, decide_eq_true_eq, List.all_eq_true]
    exact ⟨fun w hw => a w (p.mem_iff.mpr hw), p.nodup b⟩
theorem mixs_good : ∀ (t t' : Trs), t.mix t' → t.good → t'.good
  | .nil, .nil, _, g => g
  | .nil, .cons _ _, h, _ => by simp [Trs.mix] at h
  | .cons _ _, .nil, h, _ => by simp [Trs.mix] at h
  | .cons t ts, .cons t' ts', h, g => by
    rw [Trs.mix] at h
    rw [Trs.good] at g ⊢
    exact ⟨mix_good t t' h.1 g.1, mixs_good ts ts' h.2 g.2⟩
end
/-! ### the rows of a node and all below it -/
def Tr.kind : Tr → W
  | .nd k _ _ => k
def Tr.marks : Tr → List W
  | .nd _ ms _ => ms
def Tr.kids : Tr → Trs
  | .nd _ _ ks => ks
def Trs.len : Trs → Nat
  | .nil => 0
  | .cons _ ts => ts.len + 1
def low (d : Nat) (rs : List Row) : Prop := ∀ r rest, rs = r :: rest → r.1 ≤ d
theorem low_nil (d : Nat) : low d [] := fun _ _ e => nomatch e
theorem rows_head (t : Tr) (d : Nat) : t.rows srt d = (d, t.kind, srt t.marks) :: t.kids.rows srt (d + 1) := by
  cases t
  rw [Tr.rows]
  rfl
theorem low_trees : ∀ (ts : Trs) (d : Nat), low d (ts.rows srt d)
  | .nil, d => by rw [Trs.rows]; exact low_nil d
  | .cons t ts, d => by
    rw [Trs.rows, rows_head]
    intro r rest e
    rw [List.cons_append] at e
    obtain ⟨rfl, _⟩ := List.cons.inj e
    exact Nat.le_refl _
theorem low_append {d e : Nat} {a b : List Row} (ha : low d a) (hb : low e b) (h : e ≤ d) : low d (a ++ b) := by
  intro r rest q
  cases a with
  | nil => exact Nat.le_trans (hb r rest q) h
  | cons x a =>
    rw [List.cons_append] at q
    obtain ⟨rfl, _⟩ := List.cons.inj q
    exact ha x a rfl
mutual
theorem nodes_len : ∀ (t : Tr) (p : Pth) (d : Nat), (t.nodes p).length = (t.rows srt d).length
  | .nd k ms ks, p, d => by
    rw [Tr.nodes, Tr.rows, List.length_cons, List.length_cons, nodess_len ks p 0 (d + 1)]
theorem nodess_len : ∀ (ts : Trs) (p : Pth) (i d : Nat), (ts.nodes p i).length = (ts.rows srt d).length
  | .nil, p, i, d => by rw [Trs.nodes, Trs.rows]; rfl
  | .cons t ts, p, i, d => by
    rw [Trs.nodes, Trs.rows, List.length_append, List.length_append, nodes_len t _ d, nodess_len ts p (i + 1) d]
end
mutual
theorem seg_tree : ∀ (t : Tr) (p : Pth) (i : Nat) (q : Pth) (s : Tr), (t.nodes p)[i]? = some (q, s) →
    p.length ≤ q.length ∧ ∃ post, (t.rows srt p.length).drop i = s.rows srt q.length ++ post ∧ low q.length post
  | .nd k ms ks, p, i, q, s, h => by
    rw [Tr.nodes] at h
    cases i with
    | zero =>
      obtain ⟨rfl, rfl⟩ := Prod.mk.inj (Option.some.inj h)
      exact ⟨Nat.le_refl _, [], by simp, low_nil _⟩
    | succ i =>
      rw [List.getElem?_cons_succ] at h
      obtain ⟨h1, post, h2, h3⟩ := seg_trees ks p 0 i q s h
      refine ⟨Nat.le_trans (Nat.le_succ _) h1, post, ?_, h3⟩
      rw [Tr.rows, List.drop_succ_cons, h2]
theorem seg_trees : ∀ (ts : Trs) (p : Pth) (j i : Nat) (q : Pth) (s : Tr), (ts.nodes p j)[i]? = some (q, s) →
    p.length + 1 ≤ q.length ∧ ∃ post, (ts.rows srt (p.length + 1)).drop i = s.rows srt q.length ++ post ∧ low q.length post
  | .nil, p, j, i, q, s, h => by
    rw [Trs.nodes] at h
    simp at h
  | .cons t ts, p, j, i, q, s, h => by
    rw [Trs.nodes] at h
    have l1 : (p ++ [j]).length = p.length + 1 := by simp
    by_cases c : i < (t.nodes (p ++ [j])).length
    · rw [List.getElem?_append_left c] at h
      obtain ⟨h1, post, h2, h3⟩ := seg_tree t (p ++ [j]) i q s h
      rw [l1] at h1 h2
      refine ⟨h1, post ++ ts.rows srt (p.length + 1), ?_, low_append h3 (low_trees ts _) h1⟩
      rw [Trs.rows, List.drop_append_of_le_length (by rw [← nodes_len t (p ++ [j])]; exact Nat.le_of_lt c), h2, List.append_assoc]
    · have c' : (t.nodes (p ++ [j])).length ≤ i := Nat.le_of_not_lt c
      rw [List.getElem?_append_right c'] at h
      obtain ⟨h1, post, h2, h3⟩ := seg_trees ts p (j + 1) _ q s h
      refine ⟨h1, post, ?_, h3⟩
      rw [Trs.rows, List.drop_append, List.drop_of_length_le (by rw [← nodes_len t (p ++ [j])]; exact c'), List.nil_append, ← nodes_len t (p ++ [j])]
      exact h2
end
mutual
theorem rows_deep : ∀ (t : Tr) (d : Nat), ∀ r ∈ t.rows srt d, d ≤ r.1
  | .nd k ms ks, d => by
    rw [Tr.rows]
    intro r hr
    rcases List.mem_cons.mp hr with rfl | hr
    · exact Nat.le_refl _
    · exact Nat.le_trans (Nat.le_succ d) (rowss_deep ks (d + 1) r hr)
theorem rowss_deep : ∀ (ts : Trs) (d : Nat), ∀ r ∈ ts.rows srt d, d ≤ r.1
  | .nil, d => by
    rw [Trs.rows]
    intro r hr
    exact absurd hr List.not_mem_nil
  | .cons t ts, d => by
    rw [Trs.rows]
    intro r hr
    rcases List.mem_append.mp hr with hr | hr
    · exact rows_deep t d r hr
    · exact rowss_deep ts d r hr
end
/-- as many rows just below as there are children -/
theorem kids_count : ∀ (ts : Trs) (d : Nat), ((ts.rows srt d).filter fun r => decide (r.1 = d)).length = ts.len
  | .nil, d => by rw [Trs.rows]; rfl
  | .cons t ts, d => by
    rw [Trs.rows, List.filter_append, List.length_append, kids_count ts d, rows_head, List.filter_cons, if_pos (decide_eq_true rfl)]
    have e : (t.kids.rows srt (d + 1)).filter (fun r => decide (r.1 = d)) = [] := by
      rw [List.filter_eq_nil_iff]
      intro r hr
      have := rowss_deep t.kids (d + 1) r hr
      simp
      omega
    rw [e, Trs.len]
    simp [Nat.add_comm]
mutual
/-- a part, moved -/
theorem move_tree : ∀ (t : Tr) (d e : Nat), t.rows srt (d + e) = (t.rows srt d).map fun r => (r.1 + e, r.2)
  | .nd k ms ks, d, e => by
    rw [Tr.rows, Tr.rows, List.map_cons, ← move_trees ks (d + 1) e, Nat.add_right_comm]
theorem move_trees : ∀ (ts : Trs) (d e : Nat), ts.rows srt (d + e) = (ts.rows srt d).map fun r => (r.1 + e, r.2)
  | .nil, d, e => by rw [Trs.rows, Trs.rows]; rfl
  | .cons t ts, d, e => by rw [Trs.rows, Trs.rows, List.map_append, move_tree t d e, move_trees ts d e]
end
end DM

/-! len(set(xs)) of a list of texts -/
namespace DR
open PySem PySem.Spec PyProof.Rows L2
/-- how many different ones stand among the first -/
def nn (xs : List Str) : Nat → Nat
  | 0 => 0
  | i + 1 => if (xs.take i).any (· == xs.getD i Str.empty) = true then nn xs i else nn xs i + 1
theorem nn_le (xs : List Str) : ∀ i, nn xs i ≤ i
  | 0 => Nat.le_refl _
  | i + 1 => by
    have := nn_le xs i
    unfold nn
    split <;> omega
theorem nn_full {xs : List Str} : ∀ {i}, i ≤ xs.length → (nn xs i = i ↔ (xs.take i).Nodup)
  | 0, _ => by simp [nn]
  | i + 1, h => by
    have ih := nn_full (xs := xs) (i := i) (by omega)
    have le := nn_le xs i
    have hx : xs[i]? = some (xs.getD i Str.empty) := by
      rw [List.getD_eq_getElem?_getD]
      have : i < xs.length := h
      simp [this]
    have ht : xs.take (i + 1) = xs.take i ++ [xs.getD i Str.empty] := by
      rw [List.take_succ, hx]
      rfl
    unfold nn
    rw [ht, List.nodup_append]
    by_cases c : (xs.take i).any (· == xs.getD i Str.empty) = true
    · rw [if_pos c]
      refine ⟨fun e => by omega, fun ⟨_, _, q⟩ => ?_⟩
      obtain ⟨x, hx1, hx2⟩ := List.any_eq_true.mp c
      exact absurd (by simpa using hx2) (q x hx1 _ (List.mem_singleton.mpr rfl))
    · rw [if_neg c]
      have c' : ∀ x ∈ xs.take i, ¬ x = xs.getD i Str.empty := fun x m e => c (List.any_eq_true.mpr ⟨x, m, by simpa using e⟩)
      constructor
      · intro e
        refine ⟨ih.mp (by omega), by simp, fun a ha b hb => ?_⟩
        rw [List.mem_singleton.mp hb]
        exact c' a ha
      · rintro ⟨q, _⟩
        rw [ih.mpr q]
section
variable {prog : Program} {w : World} {A : Around} {R : Result → Shared → Prop} {I : Addr} {fp wr : List Addr} {G : Array GenState → Array GenState → Prop} {n : Nat} {P : Nat → Value → Prop} {St : Nat → Shared → Prop}
/-- the set of the first i texts lies at S -/
def Upto (prog : Program) (w : World) (h : Heap) (S : Addr) (xs : List Str) (i : Nat) : Prop := h.SetOf (strKind prog w) S (fun k => (xs.take i).any (· == k)) (nn xs i)
theorem Upto.keep {h h2 : Heap} {S : Addr} {xs : List Str} {i : Nat} (u : Upto prog w h S xs i) (k : ∀ o, h.get? S = some o → h2.get? S = some o) : Upto prog w h2 S xs i :=
  let ⟨o, es, ep, t, ho, r⟩ := u
  ⟨o, es, ep, t, k o ho, r⟩
theorem Upto.next {h : Heap} {S : Addr} {xs : List Str} {i : Nat} (hi : i < xs.length)
    (u : h.SetOf (strKind prog w) S (fun k => (xs.take i).any (· == k) || decide (k = xs.getD i Str.empty)) (if (xs.take i).any (· == xs.getD i Str.empty) = true then nn xs i else nn xs i + 1)) : Upto prog w h S xs (i + 1) := by
  have hx : xs[i]? = some (xs.getD i Str.empty) := by
    rw [List.getD_eq_getElem?_getD]
    simp [hi]
  refine SetOf_congr u (fun k => ?_) rfl
  rw [List.take_succ, hx, List.any_append]
  show _ = ((xs.take i).any (· == k) || [xs.getD i Str.empty].any (· == k))
  have : decide (k = xs.getD i Str.empty) = [xs.getD i Str.empty].any (· == k) := by
    generalize xs.getD i Str.empty = y
    show decide (k = y) = ((y == k) || false)
    rw [Bool.or_false]
    by_cases e : k = y
    · rw [decide_eq_true e, e]
      exact (beq_self_eq_true y).symm
    · rw [decide_eq_false e]
      exact (beq_eq_false_iff_ne.mpr fun z => e z.symm).symm
  rw [this]
theorem fill_texts (W : WalksS prog w A.in1 I fp wr G n P St) (S : Addr) (out : S ∉ fp) (xs : List Str) (len : xs.length = n) (few : n + 1 < scanBound)
    (item : ∀ i v, P i v → ∃ t, v = .str (xs.getD i Str.empty) t) :
    ∀ (left i : Nat) (s : Shared), n - i = left → i ≤ n → St i s → Upto prog w s.heap S xs i →
      (∀ s2, Moved (S :: wr) G s s2 → Upto prog w s2.heap S xs n → R (.ok (.ret .none)) s2) → codeAny (model prog w) A (.builtin "set.update.loop" ⟨[.ref S, .ref I], []⟩) R s := by
  have outW : S ∉ wr := fun z => out (W.sub _ z)
  intro left
  induction left with
  | zero =>
    intro i s e le st u goal
    obtain rfl : i = n := by omega
    refine codeAny_builtin PyProof.Rows.F.entry_set_update_loop ?_
    rw [Around.under_plainId PyProof.Rows.F.plain_set_update_loop _]
    refine wpAny_bind (W.done s _ _ st fun s2 mv => ?_)
    exact wpAny_pure (goal s2 (mv.mono fun b hb => List.mem_cons_of_mem _ hb) (u.keep fun o q => mv.heap S _ outW q))
  | succ left again =>
    intro i s e le st u goal
    have lt : i < n := by omega
    refine codeAny_builtin PyProof.Rows.F.entry_set_update_loop ?_
    rw [Around.under_plainId PyProof.Rows.F.plain_set_update_loop _]
    refine wpAny_bind (W.item i s _ _ lt st fun v s2 pv st2 mv => ?_)
    obtain ⟨t, rfl⟩ := item i v pv
    have u2 : Upto prog w s2.heap S xs i := u.keep fun o q => mv.heap S _ outW q
    refine wpAny_bind (wpAny_holding ?_)
    unfold setAdd
    refine wpAny_holding (wpAny_bind ((strKind prog w).pyHash (k := xs.getD i Str.empty) (strKind_is _ _ _ _) ?_))
    have le2 := nn_le xs i
    refine wpAny_setAddHashed_of (knd := strKind prog w) (s := { s2 with toks := s2.toks + 1 }) (strKind_is _ _ _ _) rfl u2 (by omega) fun h3 sb u3 => ?_
    have u4 : Upto prog w h3 S xs (i + 1) := Upto.next (by omega) u3
    refine wpAny_pure ⟨plainId_quiet PyProof.Rows.F.plain_set_update_loop _, again (i + 1) _ (by omega) lt (W.frame _ s2 _ _ st2 (Nat.le_succ _) fun b hb o q => ?_) u4 fun s5 mv5 u5 => goal s5 ?_ u5⟩
    · rw [sb.2 b fun z => out (z ▸ hb)]
      exact q
    · refine Moved.trans W.gtrans ((mv.mono fun b hb => List.mem_cons_of_mem _ hb).then_heap (Nat.le_succ _) fun b o hb q => ?_) mv5
      rw [sb.2 b fun z => hb (z ▸ List.mem_cons_self)]
      exact q
end
/-- the set object as it is made -/
abbrev bare (led : Bool) : Obj := { cls := .type "set", dict := none, data := .set #[] 0 (.fresh 0 0 led) }
section
variable {prog : Program} {w : World} {A : Around} {E : Value → Shared → Prop} {s : Shared}
set_option maxHeartbeats 6400000 in
/-- set(xs), xs a list of texts -/
theorem set_of_texts {l : Addr} {items : Array Value} {xs : List Str} {Q : Value → Shared → Prop} (quiet : A.handled = none) (at_l : s.heap.IsList l items) (texts : StrsAre items.toList xs) (few : xs.length + 1 < scanBound)
    (goal : ∀ (h2 : Heap) (tk : Nat), Upto prog w h2 s.heap.objs.size xs xs.length → (∀ b o, s.heap.get? b = some o → h2.get? b = some o) → Q (.ref s.heap.objs.size) { s with heap := h2, toks := tk }) :
    wpAny (model prog w) A (call (.type "set") [.ref l]) Q E s := by
  have len : xs.length = items.size := by rw [← StrsAre.len_eq texts, Array.length_toList]
  obtain ⟨_, _, mro⟩ := PySem.F.called_set.mro
  have made := PySem.F.called_set.made
  have subs := PySem.F.called_set.sub
  have nott := PySem.F.called_set.notType
  have cancr := PySem.F.called_set.canCreate
  have tcall := PySem.F.typeCall_set_1 (.ref l)
  refine wpAny_call (codeAny_of_tree (wpAny_pure ⟨Code.quiet_builtin _ (by decide +kernel), codeAny_builtin PySem.F.entry_type_call ?_⟩))
  rw [Around.under_plain (weight_type_call_type "set" [.ref l] []) rfl]
  repeat (any_goals (first | assumption | wp_step))
  refine codeAny_mono (code_set_new_1 (.ref l) (E := E) (Q₁ := fun ob s1 => ∃ led : Bool, ob = .ref s.heap.objs.size ∧ s1 = { s with heap := s.heap.push (bare led) }) fun led => ⟨led, rfl, rfl⟩) fun r s1 hr => ?_
  match r, hr with
  | .error _, hr => exact hr
  | .ok .next, hr => exact hr.elim
  | .ok .brk, hr => exact hr.elim
  | .ok .cont, hr => exact hr.elim
  | .ok (.ret ob), ⟨led, e1, e2⟩ =>
    subst e1 e2
    have at_S : (s.heap.push (bare led)).get? s.heap.objs.size = some (bare led) := Heap.get?_push_size _ rfl
    have isS : Shared.TypeIs { s with heap := s.heap.push (bare led) } (.ref s.heap.objs.size) "set" := ⟨_, at_S, rfl⟩
    have look := PySem.F.called_set.init.lookup
    have bind := PySem.F.called_set.init.bind (.ref s.heap.objs.size)
    repeat (any_goals (first | assumption | wp_step))
    refine codeAny_mono (codeAny_call_builtin (R := wants (fun r s2 => r = .none ∧ ∃ h2 tk, s2 = { s with heap := h2, toks := tk } ∧ Upto prog w h2 s.heap.objs.size xs xs.length ∧ (∀ b o, s.heap.get? b = some o → h2.get? b = some o)) E)
      PySem.F.called_set.init.plain PySem.F.entry_set_init (check_set_init_1 isS ?_)) fun r2 s2 hr2 => ?_
    · obtain ⟨⟨oc, od, dat, osl⟩, hol, hc, nl, hd⟩ := at_l
      simp only at hc hd
      subst hc hd
      have old : l < s.heap.objs.size := Heap.lt_size hol
      have at_l2 : (s.heap.push (bare led)).get? l = some { cls := .type "list", dict := od, data := .seq items nl, slots := osl } := Heap.get?_push_of_some _ hol
      have s1 := PySem.F.sub_list_set
      have s2 := PySem.F.sub_list_frozenset
      have s3 : (Value.type "list" == Value.type "dict") = false := by decide
      have isl : (s.heap.push (bare led)).IsList l items := ⟨_, at_l2, rfl, nl, rfl⟩
      unfold Builtin.«set.__init__» noKeywords Builtin.Frozenset.updateFrom
      generalize hPI : pyIter = PI
      wp_walk
      subst hPI
      refine wpAny_pyIter_list isl (wpAny_bind (wpAny_runValue ?_))
      have calm3 : A.in1.in1.in1.handled = none := by simp [quiet]
      have sz : (s.heap.push (bare led)).objs.size = s.heap.objs.size + 1 := Heap.size_push ..
      have ne1 : l ≠ (s.heap.push (bare led)).objs.size := by
        rw [sz]
        exact Nat.ne_of_lt (Nat.lt_succ_of_lt old)
      refine fill_texts ((Walks.list calm3 _ l ne1 items).toS) s.heap.objs.size (fun z => ?_) xs len (len ▸ few)
        (fun i v hv => SS.strs_at texts i v (by rw [Array.getElem?_toList]; exact hv)) (items.size - 0) 0 _ (by omega) (Nat.zero_le _) ⟨⟨_, Heap.get?_push_size _ rfl, rfl, rfl⟩, (isl.push _)⟩ ?start ?stop
      · rw [sz] at z
        rcases List.mem_cons.mp z with e | z
        · exact absurd e (Nat.ne_of_lt (Nat.lt_succ_self _))
        · exact absurd (List.mem_singleton.mp z) (Nat.ne_of_gt old)
      case start =>
        exact SetOf_congr ((setObjOf_fresh (knd := strKind prog w) led).setOf (Heap.get?_push_of_some _ at_S) (by unfold scanBound; omega)) (fun _ => rfl) rfl
      case stop =>
        rintro ⟨h2, g2, d2, tk2, os2⟩ mv u
        obtain rfl : g2 = s.gens := mv.gens
        obtain rfl : d2 = s.drawn := mv.drawn
        obtain rfl : os2 = s.os := mv.os
        refine wpAny_pure (wpAny_pure ⟨rfl, h2, tk2, rfl, len ▸ u, fun b o e => ?_⟩)
        have lt := Heap.lt_size e
        refine mv.heap b o (fun z => ?_) (Heap.get?_push_of_some _ (Heap.get?_push_of_some _ e))
        rcases List.mem_cons.mp z with e2 | z
        · exact absurd e2 (Nat.ne_of_lt lt)
        · have z := List.mem_singleton.mp z
          rw [sz] at z
          exact absurd z (Nat.ne_of_lt (Nat.lt_succ_of_lt lt))
    · match r2, hr2 with
      | .error _, hr2 => exact hr2
      | .ok .next, hr2 => exact hr2.elim
      | .ok .brk, hr2 => exact hr2.elim
      | .ok .cont, hr2 => exact hr2.elim
      | .ok (.ret _), ⟨e, h2, tk, e2, u, k⟩ =>
        subst e e2
        repeat (any_goals (first | assumption | wp_step))
        exact goal _ _ u k
end
/-- len(set(xs)) -/
def tLenSetT (K : PySem.W.Frag) (ta : TE) : TE := fun σ H Q => ta σ H fun x H1 => ∃ (l : Addr) (xs : List Str), x = .ref l ∧ SqL K H1 l (xs.map V.str) ∧ xs.length + 1 < scanBound ∧ ∀ c : Nat, (c = xs.length ↔ xs.Nodup) → Q (.int c) H1
section
variable {X : Cx}
theorem pe_lenSetT {a : Expr} {ta : TE} {p p2 q pos : Pos} (calm : X.calm = true) (g1 : Gl X "len") (m1 : X.mg "len" = none) (g2 : Gl X "set") (m2 : X.mg "set" = none) (ha : PE X a ta)
    (na : starEach [a] X.env = (false, eval a X.env) :: starEach [] X.env := by rfl) : PE X (.Call (.Name "len" p) [.Call (.Name "set" p2) [a] [] q] [] pos) (tLenSetT X.K ta) := by
  refine ⟨fun pins s σ H Q I h => Call_ (ld_blt I g1 m1 PySem.boot_len (callWith_builtin1 (args_cons (Call_ (ld_blt I g2 m2 boot_set
    (callWith_type1 (args_cons (thn (ha.run pins s σ H _ I h) fun v s1 ⟨x, H1, I1, r1, q1⟩ => args_nil ?_) na) na rfl))) rfl) rfl rfl))⟩
  obtain ⟨l, xs, rfl, hq, few, goal⟩ := q1
  cases r1
  obtain ⟨its, rv, pl, _⟩ := I1.list hq
  refine set_of_texts (I1.ok.hd calm) pl.isList (by simpa using strsAre_of rv) few fun h2 tk ⟨o, es, ep, t, ho, ex, hd, _, _, _, hf, hn⟩ k => args_nil ?_
  have le := nn_le xs xs.length
  have I2 : Inv X pins σ H1 { s1 with heap := h2, toks := tk } := I1.kept fun b o e => k b o e
  refine call_len_set ho ex hd hf (by rw [hn]; unfold scanBound at few; omega) ⟨.int (nn xs xs.length), H1, I2.tok _, ⟨_, by rw [hn]⟩, goal _ ?_⟩
  have := nn_full (xs := xs) (Nat.le_refl _)
  rwa [List.take_length] at this
end
end DR

/-! len(set(xs)) of a tuple of texts -/
namespace DR
open PySem PySem.Spec PyProof.Rows L2
section
variable {prog : Program} {w : World} {A : Around} {E : Value → Shared → Prop} {s : Shared}
set_option maxHeartbeats 6400000 in
/-- set(xs), xs a tuple of texts -/
theorem set_of_tuple {l : Addr} {items : Array Value} {xs : List Str} {Q : Value → Shared → Prop} (quiet : A.handled = none) (at_l : s.heap.IsTuple l items) (texts : StrsAre items.toList xs) (few : xs.length + 1 < scanBound)
    (goal : ∀ (h2 : Heap) (tk : Nat), Upto prog w h2 s.heap.objs.size xs xs.length → (∀ b o, s.heap.get? b = some o → h2.get? b = some o) → Q (.ref s.heap.objs.size) { s with heap := h2, toks := tk }) :
    wpAny (model prog w) A (call (.type "set") [.ref l]) Q E s := by
  have len : xs.length = items.size := by rw [← StrsAre.len_eq texts, Array.length_toList]
  obtain ⟨_, _, mro⟩ := PySem.F.called_set.mro
  have made := PySem.F.called_set.made
  have subs := PySem.F.called_set.sub
  have nott := PySem.F.called_set.notType
  have cancr := PySem.F.called_set.canCreate
  have tcall := PySem.F.typeCall_set_1 (.ref l)
  refine wpAny_call (codeAny_of_tree (wpAny_pure ⟨Code.quiet_builtin _ (by decide +kernel), codeAny_builtin PySem.F.entry_type_call ?_⟩))
  rw [Around.under_plain (weight_type_call_type "set" [.ref l] []) rfl]
  repeat (any_goals (first | assumption | wp_step))
  refine codeAny_mono (code_set_new_1 (.ref l) (E := E) (Q₁ := fun ob s1 => ∃ led : Bool, ob = .ref s.heap.objs.size ∧ s1 = { s with heap := s.heap.push (bare led) }) fun led => ⟨led, rfl, rfl⟩) fun r s1 hr => ?_
  match r, hr with
  | .error _, hr => exact hr
  | .ok .next, hr => exact hr.elim
  | .ok .brk, hr => exact hr.elim
  | .ok .cont, hr => exact hr.elim
  | .ok (.ret ob), ⟨led, e1, e2⟩ =>
    subst e1 e2
    have at_S : (s.heap.push (bare led)).get? s.heap.objs.size = some (bare led) := Heap.get?_push_size _ rfl
    have isS : Shared.TypeIs { s with heap := s.heap.push (bare led) } (.ref s.heap.objs.size) "set" := ⟨_, at_S, rfl⟩
    have look := PySem.F.called_set.init.lookup
    have bind := PySem.F.called_set.init.bind (.ref s.heap.objs.size)
    repeat (any_goals (first | assumption | wp_step))
    refine codeAny_mono (codeAny_call_builtin (R := wants (fun r s2 => r = .none ∧ ∃ h2 tk, s2 = { s with heap := h2, toks := tk } ∧ Upto prog w h2 s.heap.objs.size xs xs.length ∧ (∀ b o, s.heap.get? b = some o → h2.get? b = some o)) E)
      PySem.F.called_set.init.plain PySem.F.entry_set_init (check_set_init_1 isS ?_)) fun r2 s2 hr2 => ?_
    · obtain ⟨⟨oc, od, dat, osl⟩, hol, hc, nl, hd⟩ := at_l
      simp only at hc hd
      subst hc hd
      have old : l < s.heap.objs.size := Heap.lt_size hol
      have at_l2 : (s.heap.push (bare led)).get? l = some { cls := .type "tuple", dict := od, data := .seq items nl, slots := osl } := Heap.get?_push_of_some _ hol
      have s1 := PySem.F.sub_tuple_set
      have s2 := PySem.F.sub_tuple_frozenset
      have s3 : (Value.type "tuple" == Value.type "dict") = false := by decide
      have isl : (s.heap.push (bare led)).IsTuple l items := ⟨_, at_l2, rfl, nl, rfl⟩
      unfold Builtin.«set.__init__» noKeywords Builtin.Frozenset.updateFrom
      generalize hPI : pyIter = PI
      wp_walk
      subst hPI
      refine wpAny_pyIter_tuple isl (wpAny_bind (wpAny_runValue ?_))
      have calm3 : A.in1.in1.in1.handled = none := by simp [quiet]
      have sz : (s.heap.push (bare led)).objs.size = s.heap.objs.size + 1 := Heap.size_push ..
      have ne1 : l ≠ (s.heap.push (bare led)).objs.size := by
        rw [sz]
        exact Nat.ne_of_lt (Nat.lt_succ_of_lt old)
      refine fill_texts ((Walks.tuple calm3 _ l ne1 items).toS) s.heap.objs.size (fun z => ?_) xs len (len ▸ few)
        (fun i v hv => SS.strs_at texts i v (by rw [Array.getElem?_toList]; exact hv)) (items.size - 0) 0 _ (by omega) (Nat.zero_le _) ⟨⟨_, Heap.get?_push_size _ rfl, rfl, rfl⟩, (isl.push _)⟩ ?start ?stop
      · rw [sz] at z
        rcases List.mem_cons.mp z with e | z
        · exact absurd e (Nat.ne_of_lt (Nat.lt_succ_self _))
        · exact absurd (List.mem_singleton.mp z) (Nat.ne_of_gt old)
      case start =>
        exact SetOf_congr ((setObjOf_fresh (knd := strKind prog w) led).setOf (Heap.get?_push_of_some _ at_S) (by unfold scanBound; omega)) (fun _ => rfl) rfl
      case stop =>
        rintro ⟨h2, g2, d2, tk2, os2⟩ mv u
        obtain rfl : g2 = s.gens := mv.gens
        obtain rfl : d2 = s.drawn := mv.drawn
        obtain rfl : os2 = s.os := mv.os
        refine wpAny_pure (wpAny_pure ⟨rfl, h2, tk2, rfl, len ▸ u, fun b o e => ?_⟩)
        have lt := Heap.lt_size e
        refine mv.heap b o (fun z => ?_) (Heap.get?_push_of_some _ (Heap.get?_push_of_some _ e))
        rcases List.mem_cons.mp z with e2 | z
        · exact absurd e2 (Nat.ne_of_lt lt)
        · have z := List.mem_singleton.mp z
          rw [sz] at z
          exact absurd z (Nat.ne_of_lt (Nat.lt_succ_of_lt lt))
    · match r2, hr2 with
      | .error _, hr2 => exact hr2
      | .ok .next, hr2 => exact hr2.elim
      | .ok .brk, hr2 => exact hr2.elim
      | .ok .cont, hr2 => exact hr2.elim
      | .ok (.ret _), ⟨e, h2, tk, e2, u, k⟩ =>
        subst e e2
        repeat (any_goals (first | assumption | wp_step))
        exact goal _ _ u k
end
/-- len(set(xs)) -/
def tLenSetU (K : PySem.W.Frag) (ta : TE) : TE := fun σ H Q => ta σ H fun x H1 => ∃ (l : Addr) (xs : List Str), x = .ref l ∧ SqT K H1 l (xs.map V.str) ∧ xs.length + 1 < scanBound ∧ ∀ c : Nat, (c = xs.length ↔ xs.Nodup) → Q (.int c) H1
section
variable {X : Cx}
theorem pe_lenSetU {a : Expr} {ta : TE} {p p2 q pos : Pos} (calm : X.calm = true) (g1 : Gl X "len") (m1 : X.mg "len" = none) (g2 : Gl X "set") (m2 : X.mg "set" = none) (ha : PE X a ta)
    (na : starEach [a] X.env = (false, eval a X.env) :: starEach [] X.env := by rfl) : PE X (.Call (.Name "len" p) [.Call (.Name "set" p2) [a] [] q] [] pos) (tLenSetU X.K ta) := by
  refine ⟨fun pins s σ H Q I h => Call_ (ld_blt I g1 m1 PySem.boot_len (callWith_builtin1 (args_cons (Call_ (ld_blt I g2 m2 boot_set
    (callWith_type1 (args_cons (thn (ha.run pins s σ H _ I h) fun v s1 ⟨x, H1, I1, r1, q1⟩ => args_nil ?_) na) na rfl))) rfl) rfl rfl))⟩
  obtain ⟨l, xs, rfl, hq, few, goal⟩ := q1
  cases r1
  obtain ⟨its, rv, pl, _⟩ := I1.tuple hq
  refine set_of_tuple (I1.ok.hd calm) pl (by simpa using strsAre_of rv) few fun h2 tk ⟨o, es, ep, t, ho, ex, hd, _, _, _, hf, hn⟩ k => args_nil ?_
  have le := nn_le xs xs.length
  have I2 : Inv X pins σ H1 { s1 with heap := h2, toks := tk } := I1.kept fun b o e => k b o e
  refine call_len_set ho ex hd hf (by rw [hn]; unfold scanBound at few; omega) ⟨.int (nn xs xs.length), H1, I2.tok _, ⟨_, by rw [hn]⟩, goal _ ?_⟩
  have := nn_full (xs := xs) (Nat.le_refl _)
  rwa [List.take_length] at this
end
end DR

/-! sorted(xs), xs a tuple of texts -/
namespace DR
open PySem PySem.Spec PyProof.Rows L2
section
variable {prog : Program} {w : World} {A : Around} {E : Value → Shared → Prop} {s : Shared}
theorem tup_sorted {l : Addr} {ob : Obj} {its : Array Value} {k : Nat} {xs : List Str} {Q : Value → Shared → Prop} (at_l : s.heap.get? l = some ob) (cl : ob.cls = .type "tuple") (da : ob.data = .seq its k)
    (texts : StrsAre its.toList xs) (few : its.toList.length < 64)
    (goal : ∀ (h1 h2 : Heap) (out : Array Value) (ys : List Str) (e : Nat), (∀ b o, s.heap.get? b = some o → h1.get? b = some o) → (∀ b o, h1.get? b = some o → h2.get? b = some o) → h2.get? h1.objs.size = some (seqObj "list" out e) →
      StrsAre out.toList ys → ys.Perm xs → sortedS ys = true → Q (.ref h1.objs.size) { s with heap := h2 }) :
    wpAny (model prog w) A (call (.builtin "sorted") [.ref l]) Q E s := by
  refine PySem.Calls.call_function_entry kind_sorted plain_sorted entry_sorted (args_sorted1 _) ?_
  unfold Builtin.«sorted»
  refine wpAny_bind (m := checkCount "sorted" 1 1 _) (wpAny_pure ?_)
  refine wpAny_bind (PySem.wpAny_collect_seq l (.inr rfl) at_l cl da (fun h1 keep => ?_) (by rw [← Array.length_toList]; exact small64 few))
  refine wpAny_bind (wpAny_newList ?_ )
  have new : (h1.push (seqObj "list" its.toList.toArray 0)).get? h1.objs.size = some (seqObj "list" its.toList.toArray 0) := Heap.get?_push_size _ rfl
  refine wpAny_bind (wpAny_holding (wpAny_call_entry slot_list_sort ⟨_, new, rfl⟩ entry_list_sort (list_sort_treeK strKind_oneLt new texts.keysOf (fun v₁ v₂ rest e => keyKind_strs (by rw [← e]; exact texts)) few fun st hp hs => ⟨_, rfl, ?_⟩) (args_list_sort _)))
  refine wpAny_pure ⟨_, rfl, ?_⟩
  obtain ⟨ys, t1, t2, t3⟩ := sorted_out_str texts hp hs
  obtain ⟨e, he⟩ := sortedHeap_at (vs := its.toList) (out := (arrOf st).map (·.2)) new
  refine goal h1 _ _ ys e keep (fun b o q => ?_) he t1 t2 t3
  have lt : b < h1.objs.size := Heap.lt_size q
  rw [sortedHeap_old (Nat.ne_of_lt lt) (by rw [size_push']; exact Nat.lt_succ_of_lt lt)]
  exact Heap.get?_push_of_some _ q
end
/-- sorted(xs), xs a tuple of texts, or a list -/
def rSortedU (K : PySem.W.Frag) : List V → Hp → VK → Prop := fun vs H Q => ∃ (a : Addr) (xs : List Str), vs = [V.ref a] ∧ (H a = some (.tup (xs.map V.str)) ∨ H a = some (.lst (xs.map V.str))) ∧ xs.length < 64 ∧
  ∀ (ys : List Str) (p : Addr), ys.Perm xs → sortedS ys = true → H p = none → Q (.ref p) (upd H p (.lst (ys.map V.str)))
theorem cr_sortedU {X : Cx} : CallR X (.builtin "sorted") (rSortedU X.K) := by
  intro pins s σ H vs us Q I r h
  obtain ⟨a, xs, rfl, hs | hs, h64, q⟩ := h
  · rw [Vals.ref1 r]
    obtain ⟨_, its, rv, ob, e, c⟩ := (show ObjOk X.prog X.w H s.heap a (.tup (xs.map V.str)) from I.hok a _ hs)
    have texts : StrsAre its xs := rv.strs
    obtain ⟨cl, k, da⟩ : ob.cls = .type "tuple" ∧ ∃ k, ob.data = .seq its.toArray k := by
      exact c
    refine tup_sorted (its := its.toArray) e cl da (by simpa using texts) (by have := rv.length; rw [List.length_map] at this; simpa [← this] using h64) fun h1 h2 out ys ep keep keep2 he t1 t2 t3 => ?_
    have free : s.heap.get? h1.objs.size = none := by
      cases z : s.heap.get? h1.objs.size with
      | none => rfl
      | some o => exact absurd (Heap.lt_size (keep _ _ z)) (Nat.lt_irrefl _)
    have hn : H h1.objs.size = none := by
      cases z : H h1.objs.size with
      | none => rfl
      | some o =>
        obtain ⟨u, hu⟩ := objOk_get (I.hok _ _ z)
        rw [free] at hu
        cases hu
    have hlen : (ys.map V.str).length ≤ sizeLine := by rw [List.length_map, t2.length_eq]; exact small64 h64
    exact ⟨.ref _, upd H h1.objs.size (.lst (ys.map V.str)), I.laidN (t' := s.toks) (fun b u z => keep2 _ _ (keep _ _ z)) free hn ⟨hlen, out.toList, ep, vals_of_strs t1, he⟩, rfl, q ys _ t2 t3 hn⟩
  · exact cr_sortedS pins s σ H _ us Q I r ⟨a, xs, rfl, SqL.of hs, h64, q⟩
end DR

/-! enumerate(t), t a tuple -/
namespace DR
open PySem PySem.Spec PyProof.Rows L2
abbrev itT (t : Addr) : Obj := { cls := .type "tuple_iterator", data := .fields #[.ref t, .int 0 0] }
abbrev enT (it : Addr) : Obj := { cls := .type "enumerate", data := .fields #[.none, .bool false, .ref it, rawInt 0, .none, .none] }
theorem meets_enum_tup (t : Addr) (xs : Array Value) (n : Nat) (dd : Option Addr) (sl : Array (Option Value)) :
    Meets (Builtin.«enumerate.__new__» ⟨[.type "enumerate", .ref t], []⟩) (fun _ R s => s.heap.get? t = some { cls := .type "tuple", dict := dd, data := .seq xs n, slots := sl } ∧
      R (.ok (.ret (.ref (s.heap.push (itT t)).objs.size))) { s with heap := (s.heap.push (itT t)).push (enT s.heap.objs.size) }) :=
  .of_wp fun prog w A R s h => by
    obtain ⟨hp, g, d, tk, os⟩ := s
    obtain ⟨at_t, h⟩ := h
    have sb := sub_enumerate
    have isT : Heap.IsTuple (Shared.heap ⟨hp, g, d, tk, os⟩) t xs := ⟨_, at_t, rfl, n, rfl⟩
    wp_walk using AutoSeq1.wpAny_loadPart' at_t
    refine wpAny_stack_any fun st => wpAny_pure ?_
    split
    · rename_i c _ _ _ _ _
      cases (c == Value.type "enumerate") <;>
      · wp_walk using AutoSeq1.wpAny_loadPart' at_t, wpAny_pyIter_tuple isT
        exact ⟨_, rfl, h⟩
    · wp_walk using AutoSeq1.wpAny_loadPart' at_t, wpAny_pyIter_tuple isT
      exact ⟨_, rfl, h⟩
section
variable {prog : Program} {w : World} {A : Around} {E : Value → Shared → Prop} {s : Shared}
theorem call_enum_tup {t : Addr} {xs : Array Value} {Q : Value → Shared → Prop} (isT : s.heap.IsTuple t xs)
    (h : ∀ h2, IsEnum h2 (s.heap.objs.size + 1) s.heap.objs.size 0 .none → h2.IsTupleIter s.heap.objs.size t 0 → (∀ b o, s.heap.get? b = some o → h2.get? b = some o) → Q (.ref (s.heap.objs.size + 1)) { s with heap := h2 }) :
    wpAny (model prog w) A (call (.type "enumerate") [.ref t]) Q E s := by
  obtain ⟨⟨c, dd, dt, sl⟩, ht, hc, n, hd⟩ := isT
  have hc : c = .type "tuple" := hc
  have hd : dt = .seq xs n := hd
  subst hc hd
  refine callType_new F.called_enumerate (by decide) (F.typeCall_enumerate_1 _) (F.newCall_enumerate_1 _) (fun ob => F.args_object_init_2 ob _) F.entry_enumerate_new (meets_enum_tup t xs n dd sl) ⟨ht, ?_⟩
  have sz : (s.heap.push (itT t)).objs.size = s.heap.objs.size + 1 := Heap.size_push ..
  show _ ∧ _
  rw [sz]
  have en : IsEnum ((s.heap.push (itT t)).push (enT s.heap.objs.size)) (s.heap.objs.size + 1) s.heap.objs.size 0 .none := by
    have q := Heap.get?_push_size (s.heap.push (itT t)) (o := enT s.heap.objs.size) rfl
    rw [sz] at q
    exact q
  exact ⟨⟨_, en, rfl⟩, h _ en ⟨_, Heap.get?_push_of_some _ (Heap.get?_push_size _ rfl), rfl, rfl⟩ fun b o q => Heap.get?_push_of_some _ (Heap.get?_push_of_some _ q)⟩
end
theorem apart {h : Heap} {e it a : Addr} {i : Int} {old : Value} {xs : Array Value} (he : IsEnum h e it i old) (t : h.IsTuple a xs) : e ≠ a := fun z => by
  obtain ⟨o, h1, h2, _⟩ := t
  rw [← z, show h.get? e = some _ from he] at h1
  cases h1
  exact absurd (show Value.type "enumerate" = Value.type "tuple" from h2) (by decide)
/-- the tuple at a at each turn, each item in a new pair -/
def Etp (K : PySem.W.Frag) (a : Addr) : It :=
  ⟨fun i H => ∃ (xs : List V) (x : V), SqT K H a xs ∧ xs[i]? = some x, fun i H v H' => ∃ T x, v = .ref T ∧ H T = none ∧ H' = upd H T (.tup [.int (i : Nat), x]) ∧ ∀ xs, SqT K H a xs → xs[i]? = some x, fun i H => ∃ xs : List V, SqT K H a xs ∧ xs.length = i⟩
theorem turn_etp {P : Program} {w : World} {K : PySem.W.Frag} {elts : List Expr} {kk : Nat} {tpos : Pos} (a e it : Addr) (na : a ≠ it) :
    Turn P w K (.Tuple elts kk tpos) (Etp K a) [e, it] e (fun i h => (∃ old, IsEnum h e it ((i : Nat) : Int) old) ∧ h.IsTupleIter it a i ∧ e ≠ it) where
  mem := by simp
  obj := fun i h st b hb => by
    obtain ⟨⟨old, he⟩, ⟨o, ho, hc, hd⟩, _⟩ := st
    rcases List.mem_cons.mp hb with z | hb
    · rw [z]
      exact ⟨_, he, fun v q => nomatch q⟩
    · rw [List.mem_singleton.mp hb]
      exact ⟨o, ho, fun v q => by rw [hd] at q; cases q⟩
  keep := fun i h h' st k => by
    obtain ⟨⟨old, he⟩, ⟨o, ho, r⟩, ne⟩ := st
    exact ⟨⟨old, k e (by simp) _ he⟩, ⟨o, k it (by simp) _ ho, r⟩, ne⟩
  item := by
    intro X hP hw hK hc i pins s σ H E I hf st hg
    subst hP hw hK
    obtain ⟨⟨old, he⟩, hit, ne⟩ := st
    obtain ⟨xs, x, hq, hx⟩ := hg
    obtain ⟨its, rv, isT, hz⟩ := I.tuple hq
    obtain ⟨u, hu, ru⟩ := rv.get hx
    have le : e < s.heap.objs.size := Heap.lt_size he
    have li : it < s.heap.objs.size := by
      obtain ⟨_, q, _⟩ := hit
      exact Heap.lt_size q
    have calm1 : X.A.in1.handled = none := by simp [I.ok.hd hc]
    have ea : e ≠ a := apart he isT
    have bound : i < its.toArray.size := by
      have := (List.getElem?_eq_some_iff.mp hu).1
      simpa using this
    refine wpAny_pyNext_enum_itemD (Draws.tuple calm1 it a na its.toArray) he ⟨hit, isT⟩ bound ne (by simp [ne, ea]) fun u2 h2 tk hu2 out2 st2 new2 size2 keep2 => ?_
    obtain rfl : u2 = u := by
      have q : its.toArray[i]? = some u := by simpa using hu
      exact Option.some.inj (hu2.symm.trans q)
    refine ⟨_, rfl, wpAny_letOwnedTupleGo_enum (s := { s with heap := h2, toks := tk + 1 }) out2 fun h3 he3 sb => ?_⟩
    have new3 : h3.get? s.heap.objs.size = some { cls := .type "tuple", data := .seq #[.int i tk, u2] } := (sb.2 _ (Nat.ne_of_gt le)).trans new2
    have laid : ObjOk X.prog X.w (upd H s.heap.objs.size (.tup [.int (i : Nat), x])) h3 s.heap.objs.size (.tup [.int (i : Nat), x]) :=
      ⟨by show 2 ≤ sizeLine; decide, [.int i tk, u2], .cons ⟨_, rfl⟩ (.cons ru .nil), ⟨_, new3, rfl, _, rfl⟩⟩
    have I2 : Inv X pins σ (upd H s.heap.objs.size (.tup [.int (i : Nat), x])) { s with heap := h3, toks := tk + 1 } :=
      I.turnedNew (ch := [e, it]) (fun b ob out q => (sb.2 b fun z => out (by simp [z])).trans (keep2 b ob (fun z => out (by simp [z])) (fun z => out (by simp [z])) q)) hf (Nat.le_refl _) laid
    refine ⟨.ref s.heap.objs.size, _, I2, rfl, ⟨_, x, rfl, I.hok.fresh (Nat.le_refl _), rfl, fun ys hy => ?_⟩, ⟨⟨u2, ?_⟩, ?_, ne⟩, fun b hb => ?_⟩
    · rw [I.tuple_inj hy hq]
      exact hx
    · rw [show ((i + 1 : Nat) : Int) = (i : Int) + 1 by omega]
      exact he3
    · obtain ⟨o, ho, r⟩ := st2.1
      exact ⟨o, (sb.2 it (Ne.symm ne)).trans ho, r⟩
    · have lb : b < s.heap.objs.size := by
        rcases List.mem_cons.mp hb with z | z
        · rw [z]
          exact le
        · rw [List.mem_singleton.mp z]
          exact li
      rw [upd_ne (Nat.ne_of_lt lb)]
      exact (hf b hb).1
  done := by
    intro X hP hw hK hc i pins s σ H E I hf st hg
    subst hP hw hK
    obtain ⟨⟨old, he⟩, hit, ne⟩ := st
    obtain ⟨xs, hq, hx⟩ := hg
    obtain ⟨its, rv, isT, hz⟩ := I.tuple hq
    have calm1 : X.A.in1.handled = none := by simp [I.ok.hd hc]
    obtain ⟨f0, f1, f2, f3, f4, f5⟩ := hf it (by simp)
    have len : its.toArray.size = i := by
      rw [List.size_toArray, ← rv.length]
      exact hx
    subst len
    exact wpAny_pyNext_enum_endD (Draws.tuple calm1 it a na its.toArray) he ⟨hit, isT⟩ fun h2 eb => ⟨rfl, I.turned (t' := s.toks) (fun b o out q => eb b o out q) f0 f1 f3 f4 f5⟩
  self := fun A i s Q E st h => let ⟨⟨_, he⟩, _⟩ := st; wpAny_pyIter_enum he h
def iEnumT (K : PySem.W.Frag) (ta : TA) : TI := fun σ H R => ta σ H fun vs H1 => ∃ a xs, vs = [.ref a] ∧ SqT K H1 a xs ∧ R (Etp K a) H1
theorem pi_enumT {X : Cx} {e : Expr} {ta : TA} {p pos tpos : Pos} {elts : List Expr} {kk : Nat} (hg : Gl X "enumerate") (hm : X.mg "enumerate" = none) (ha : PA X [e] ta) (hs : starEach [e] X.env = [(false, eval e X.env)] := by rfl) :
    PI X (.Tuple elts kk tpos) (.Call (.Name "enumerate" p) [e] [] pos) (iEnumT X.K ta) := by
  refine ⟨fun pins s σ H R I h => ?_⟩
  refine Call_ (ld_blt I hg hm boot_enumerate (PyProof.Rows.callWith_type1 (thn (ha.run pos pins s σ H _ I h) fun us s1 ⟨vs, H1, I1, r1, q1⟩ => ?_) hs rfl))
  obtain ⟨a, xs, ex, hq, q⟩ := q1
  subst ex
  obtain ⟨u, rfl, r⟩ := vals1 r1
  cases r
  obtain ⟨its, rv, isT, _⟩ := I1.tuple hq
  have old : a < s1.heap.objs.size := by
    obtain ⟨o, q, _⟩ := isT
    exact Heap.lt_size q
  refine call_enum_tup isT fun h2 he hit keep => wpAny_pyIter_enum he ?_
  have I2 : Inv X pins σ H1 { s1 with heap := h2 } := I1.kept (t' := s1.toks) keep
  refine ⟨s1.heap.objs.size + 1, [s1.heap.objs.size + 1, s1.heap.objs.size], _, _, H1, rfl, I2, turn_etp a (s1.heap.objs.size + 1) s1.heap.objs.size (Nat.ne_of_lt old), ⟨⟨.none, he⟩, hit, Nat.succ_ne_self _⟩, fun b hb => ?_, q⟩
  have above : s1.heap.objs.size ≤ b := by
    rcases List.mem_cons.mp hb with z | z
    · rw [z]
      exact Nat.le_succ _
    · exact Nat.le_of_eq (List.mem_singleton.mp z).symm
  exact I1.fpOk above (I1.hok.fresh above)
theorem walk_enumT {K : PySem.W.Frag} {a : Addr} {xs : List V} : Walk (Etp K a) xs.length (fun H => SqT K H a xs) (YPair (fun i => some (.int (i : Nat))) (fun i => xs[i]?)) :=
  by
  refine ⟨fun i _ hi q => ⟨xs, xs[i], q, by simp [hi]⟩, fun _ q => ⟨xs, q, rfl⟩, fun i H v H' _ q y => ?_⟩
  obtain ⟨T, x, h1, h2, h3, h4⟩ := y
  exact ⟨T, .int (i : Nat), x, h1, h2, h3, rfl, h4 xs q⟩
end DR

/-! {k: v for ..}, the keys tuples of ints and texts -/
namespace DR
open PySem PySem.Spec PyProof.Rows L2
/-- what a comprehension does at one item -/
theorem dictSet_tup {X : Cx} {pins : List (Addr × Obj)} {σ : L2.St} {H : Hp} {s : Shared} {E : Value → Shared → Prop} {D b : Addr} {kvs : List (List Key × V)} {k : List Key} {v : V} {r : Value} {Q : Unit → Shared → Prop} (few : X.A.units < cLine)
    (I : Inv X pins σ H s) (hD : H D = some (.dT kvs)) (hb : H b = some (.tup (k.map kV))) (len : kvs.length < sizeLine) (rv : RelV v r) (goal : ∀ s', Inv X pins σ (upd H D (.dT (putK kvs k v))) s' → Q () s') :
    wpAny (model X.prog X.w) X.A (dictSet D (.ref b) r) Q E s := by
  obtain ⟨_, sm, xs, rel, dd⟩ := dt_of I.hok hD
  have xl : xs.length ≤ sizeLine := by
    rw [← Paired.length rel]
    omega
  have pl : (putK kvs k v).length ≤ sizeLine := by
    have := length_putK kvs k v
    omega
  refine wpAny_dictSet_heap (hsz := xl) (knd := tupleKind (mixKind X.prog X.w)) few (key_of I.hok hb) dd fun h2 d2 sb => goal _ ?_
  obtain ⟨o, es, ep, at2, c2, c3, c4, _, c5⟩ := d2
  refine d_write I (by rw [hD]; exact True.intro) sb ⟨o, at2⟩ ⟨pl, sm, _, (rel.put k hb rv).keeps fun c ys ec => ?_, o, es, ep, at2, c2, c3, c4, c5⟩
  rw [upd_ne (ne_of ec hD (fun z => nomatch z))]
  exact ec
def tDcT (wi : TI) (g : TG) (tt : TT) (tk tv : TE) (vs : List Nat) : TE := fun σ H Q => wi σ H fun J H1 => ∀ D, H1 D = none → ∃ W : Nat → Nat → Hp → Prop, (∃ m, W 0 m (upd H1 D (.dT []))) ∧ ∀ i m H, W i m H →
  (J.stop i H ∧ Q (.ref D) H) ∨ (J.go i H ∧ ∃ Nx : Hp → Prop, (∀ H', Nx H' → ∃ m', m' < m ∧ W (i + 1) m' H') ∧ ∀ x H', J.yld i H x H' → g x (wipe σ vs) H' fun σ2 H2 => wipe σ2 vs = wipe σ vs ∧ tt σ2 H2 fun b H3 =>
    if b = true then tk σ2 H3 fun y H4 => tv σ2 H4 fun z H5 => ∃ a kvs k, y = .ref a ∧ H5 a = some (.tup (k.map kV)) ∧ H5 D = some (.dT kvs) ∧ kvs.length < sizeLine ∧ Nx (upd H5 D (.dT (putK kvs k z))) else Nx H3)
section
variable {X : Cx}
abbrev AtBlk (X : Cx) (scope : Scope) (p : Cx → Prop) : Prop := ∀ (s : Shared) (H : Hp) (C : Addr) (cl : List (Str × Addr)) (fp : List Addr), p (X.blk s H scope (compEnvC scope cl C X.env) fp)
theorem pe_dcT {kx vx tg iter : Expr} {ifs : List Expr} {scope : Scope} {own : List (Str × Nat)} {pos : Pos} {wi : TI} {g : TG} {tt : TT} {tk tv : TE} (few : X.A.units < cLine) (calm : X.calm = true) (nd : X.N.Nodup) (hi : PI X tg iter wi) (ok : BlkOk X.N X.env.scope scope own)
    (hg : AtBlk X scope fun Y => PG Y tg g) (ht : AtBlk X scope fun Y => PTs Y ifs tt) (hk : AtBlk X scope fun Y => PE Y kx tk) (hv : AtBlk X scope fun Y => PE Y vx tv) (fold : ∀ x, foldedSetIterable iter X.env x = pure x := by intro _; rfl) :
    PE X (.DictComp kx vx [⟨tg, iter, ifs, 0⟩] scope pos) (tDcT wi g tt tk tv (own.map (·.2))) := by
  refine ⟨fun pins s σ H Q I h => ?_⟩
  rw [arm_eval_DictComp]
  have isfree : ∀ y ∈ scope.names, y.2 = .free → ∃ c, X.env.cells.lookup y.1 = some c := fun y hy e => (ok.free y hy e).elim (fun k => I.ok.has _ (.inl k)) fun k => I.ok.has _ (.inr k)
  refine wpAny_comprehension_free rfl fold (closure_ok isfree) ok.kind (fun y hy e => by rw [ok.uniq y hy, e]) (thn (hi.run pins s σ H _ I h) fun xv s1 hx => thn hx fun itv s2 ⟨it, fp, tn, J, H2, e, I2, T, st2, f2, q⟩ => ?_)
  subst e
  refine wpAny_newObj_type (newEnv_comp ?_)
  generalize eD : s2.heap.objs.size = D
  obtain ⟨W, ⟨m0, w0⟩, turn⟩ := q D (I2.hok.fresh (Nat.le_of_eq eD))
  generalize e3 : ({ s2 with heap := s2.heap.push { cls := .type "dict", data := .dict #[] } } : Shared) = s3
  have p3 : s3.heap = s2.heap.push { cls := .type "dict", data := .dict #[] } := by rw [← e3]
  have below : ∀ b ∈ fp, b < s2.heap.objs.size := fun b hb => let ⟨o, q, _⟩ := T.obj _ _ st2 b hb; Heap.lt_size q
  generalize eH : upd H2 D (.dT []) = H3 at w0
  have I3 : Inv X pins σ H3 s3 := by
    rw [← eH, ← e3]
    refine I2.laid (t' := s2.toks) (fun b o q => Heap.get?_push_of_some _ q) (Nat.le_of_eq eD) ?_
    rw [← eD]
    exact dt_empty s2.heap I2.big
  have ok3 : ∀ b ∈ fp, FpOk X pins H3 b ∧ b < s3.heap.objs.size := fun b hb => by
    have lt := below b hb
    refine ⟨⟨?_, (f2 b hb).2⟩, ?_⟩
    · rw [← eH, upd_ne (by rw [← eD]; exact Nat.ne_of_lt lt)]
      exact (f2 b hb).1
    · rw [p3, Heap.size_push]
      exact Nat.lt_succ_of_lt lt
  have st3 : tn 0 s3.heap := T.keep _ _ _ st2 fun b _ o q => by
    rw [p3]
    exact Heap.get?_push_of_some _ q
  have I4 := block_start I3 ok nd ok3
  generalize eC : cellsFrom (s3.heap.objs.size + 1) scope.names (cloFrom X.env.cells scope.names []) = cl at I4
  have rg := hg s3 H3 s3.heap.objs.size cl fp
  have rt := ht s3 H3 s3.heap.objs.size cl fp
  have rk := hk s3 H3 s3.heap.objs.size cl fp
  have rv := hv s3 H3 s3.heap.objs.size cl fp
  show codeAny _ _ (.compStart (.DictComp kx vx [⟨tg, iter, ifs, 0⟩] scope pos) 0 (.ref it) (.ref D) (compEnvC scope cl s3.heap.objs.size X.env)) (compPost (model X.prog X.w) X.A X.xe none (EP X pins σ Q) (.ref D) s3.heap.objs.size)
    { s3 with heap := pushCells (s3.heap.push { cls := .type "dict", data := .dict #[] }) scope.names }
  generalize eE : compEnvC scope cl s3.heap.objs.size X.env = env at I4 rg rt rk rv ⊢
  have loc : env.locals = s3.heap.objs.size := by
    rw [← eE]
    rfl
  generalize e4 : ({ s3 with heap := pushCells (s3.heap.push { cls := .type "dict", data := .dict #[] }) scope.names } : Shared) = s4 at I4 ⊢
  have st4 : tn 0 s4.heap := T.keep _ _ _ st3 fun b _ o q => by
    rw [← e4]
    exact pushCells_keeps _ _ _ _ (Heap.get?_push_of_some _ q)
  have free3 : ∀ b ∈ fp, H3 b = none := fun b hb => (ok3 b hb).1.1
  have held : ∀ {σ' : L2.St} {H' : Hp} {s' : Shared}, Inv (X.blk s3 H3 scope env fp) [] σ' H' s' → (∀ b ∈ fp, H' b = none) → ∀ b ∈ fp, FpOk (X.blk s3 H3 scope env fp) [] H' b := fun {σ' H' s'} J' fr b hb =>
    ⟨fr b hb, (J'.ok.exf b hb).1, J'.ok.exfs b hb, .inl hb, fun x c e => (J'.ok.exf b hb).2 x c e, fun p hp => absurd (show p ∈ ([] : List (Addr × Obj)) ++ [] from hp) (by simp)⟩
  have loop : codeAny (model X.prog X.w) X.A (.compLoop (.DictComp kx vx [⟨tg, iter, ifs, 0⟩] scope pos) 0 (.ref it) (.ref D) env) (compPost (model X.prog X.w) X.A X.xe none (EP X pins σ Q) (.ref D) s3.heap.objs.size) s4 := by
    refine compLoop_anyD (fun n s' => ∃ i H', Inv (X.blk s3 H3 scope env fp) [] (wipe σ (own.map (·.2))) H' s' ∧ tn i s'.heap ∧ (∀ b ∈ fp, H' b = none) ∧ W i n H') ?_ m0 ⟨0, H3, I4, st4, free3, w0⟩
    rintro n s5 ⟨i, H5, I5, st5, fr5, w5⟩
    rcases turn i n H5 w5 with ⟨stop, end_⟩ | ⟨go, Nx, goes, step⟩
    · refine thnF (T.done (X.blk s3 H3 scope env fp) rfl rfl rfl calm i [] s5 _ H5 (fun _ _ => False) I5 (held I5 fr5) st5 stop) fun r s6 ⟨hr, I6⟩ => ?_
      subst hr
      have back : Inv X pins σ H5 s6 := I3.call' (ch := fp) I6.os I6.base I6.hok I6.bare fun b hb => ⟨(ok3 b hb).1.2.2.2.1, (ok3 b hb).1.2.1, (ok3 b hb).1.2.2.2.2.1, (ok3 b hb).1.2.2.2.2.2⟩
      have noC : H5 s3.heap.objs.size = none := loc ▸ (show H5 env.locals = none from I6.free)
      obtain ⟨m, ns, _⟩ := I6.loc
      have ns : s6.heap.Ns s3.heap.objs.size m := loc ▸ (show s6.heap.Ns env.locals m from ns)
      obtain ⟨a0, a1, a2, a3, a4, a5⟩ := I3.fpOk (Nat.le_refl _) noC
      exact ⟨m, ns, fun h2 sb => ⟨.ref D, H5, back.turned (t' := s6.toks) (fun b o hb q => (sb.2 b hb).trans q) a0 a1 a3 a4 a5, rfl, end_⟩⟩
    · refine thnF (T.item (X.blk s3 H3 scope env fp) rfl rfl rfl calm i [] s5 _ H5 (fun _ _ => False) I5 (held I5 fr5) st5 go) fun r s6 ⟨u, hr, h6⟩ => ?_
      subst hr
      refine thnF h6 fun _ s7 ⟨x, H7, I7, r7, y7, st7, fr7⟩ => ?_
      refine thnF (rg.run _ s7 _ H7 x u _ (I7.pinned (held I7 fr7) (T.obj _ _ st7)) r7 (step x H7 y7)) fun _ s8 ⟨σ8, H8, I8, same8, q8⟩ => ?_
      refine thnF (rt.run _ s8 σ8 H8 _ I8 q8) fun b s9 ⟨H9, I9, q9⟩ => ?_
      have fin : ∀ {s' : Shared} {H' : Hp}, Inv (X.blk s3 H3 scope env fp) ([] ++ pinsAt fp s7.heap) σ8 H' s' → Nx H' → ∃ m, m < n ∧ ∃ i H', Inv (X.blk s3 H3 scope env fp) [] (wipe σ (own.map (·.2))) H' s' ∧ tn i s'.heap ∧ (∀ b ∈ fp, H' b = none) ∧ W i m H' := fun {s' H'} J' nx => by
        obtain ⟨m', less, w'⟩ := goes H' nx
        have pinned : ∀ b ∈ fp, ∀ o, s7.heap.get? b = some o → s'.heap.get? b = some o ∧ H' b = none := fun b hb o e =>
          let z := J'.pin (b, o) (List.mem_append_right _ (List.mem_append_right _ (mem_pinsAt hb e)))
          ⟨z.1, z.2.1⟩
        refine ⟨m', less, i + 1, H', (J'.unpinned (pins := [])).weak (by rw [← same8, wipe_length]) (fun j v e => (wipe_some (same8 ▸ e)).1), T.keep _ _ _ st7 fun b hb o e => (pinned b hb o e).1, fun b hb => ?_, w'⟩
        obtain ⟨o, e, _⟩ := T.obj _ _ st7 b hb
        exact (pinned b hb o e).2
      cases b with
      | false =>
        rw [if_neg (by decide)] at q9
        rw [if_neg (by decide)]
        exact fin I9 q9
      | true =>
        rw [if_pos rfl] at q9
        rw [if_pos rfl]
        refine thnF (rk.run _ s9 σ8 H9 _ I9 q9) fun z s10 ⟨yk, H10, I10, r10, q10⟩ => ?_
        refine thnF (rv.run _ s10 σ8 H10 _ I10 q10) fun z2 s11 ⟨yv, H11, I11, r11, a, kvs, k, ek, ha, hD, len, nx⟩ => ?_
        subst ek
        cases r10
        exact dictSet_tup (X := X.blk s3 H3 scope env fp) few I11 hD ha len r11 fun s12 I12 => fin I12 nx
  exact codeAny_compStart_dict loop (T.self X.A 0 _ _ _ st4 loop)
/-- over any walk -/
theorem dcT_it {J : It} {n : Nat} {G : Hp → Prop} {Y : Nat → Hp → V → Hp → Prop} (w : Walk J n G Y) {g : TG} {tt : TT} {tk tv : TE} {vs : List Nat} {σ : L2.St} {H1 : Hp} {D : Addr} {Qd : Hp → Prop} (Pv : Nat → Hp → Prop) (h0 : Pv 0 (upd H1 D (.dT []))) (hG : ∀ i H, i ≤ n → Pv i H → G H)
    (hs : ∀ i x H H', i < n → Pv i H → Y i H x H' → g x (wipe σ vs) H' fun σ2 H2 => wipe σ2 vs = wipe σ vs ∧ tt σ2 H2 fun b H3 =>
      if b = true then tk σ2 H3 fun y H4 => tv σ2 H4 fun z H5 => ∃ a kvs k, y = .ref a ∧ H5 a = some (.tup (k.map kV)) ∧ H5 D = some (.dT kvs) ∧ kvs.length < sizeLine ∧ Pv (i + 1) (upd H5 D (.dT (putK kvs k z))) else Pv (i + 1) H3) (hd : ∀ H, Pv n H → Qd H) :
    ∃ W : Nat → Nat → Hp → Prop, (∃ m, W 0 m (upd H1 D (.dT []))) ∧ ∀ i m H, W i m H →
      (J.stop i H ∧ Qd H) ∨ (J.go i H ∧ ∃ Nx : Hp → Prop, (∀ H', Nx H' → ∃ m', m' < m ∧ W (i + 1) m' H') ∧ ∀ x H', J.yld i H x H' → g x (wipe σ vs) H' fun σ2 H2 => wipe σ2 vs = wipe σ vs ∧ tt σ2 H2 fun b H3 =>
        if b = true then tk σ2 H3 fun y H4 => tv σ2 H4 fun z H5 => ∃ a kvs k, y = .ref a ∧ H5 a = some (.tup (k.map kV)) ∧ H5 D = some (.dT kvs) ∧ kvs.length < sizeLine ∧ Nx (upd H5 D (.dT (putK kvs k z))) else Nx H3) := by
  refine ⟨fun i m H => m + i = n ∧ Pv i H, ⟨n, rfl, h0⟩, ?_⟩
  rintro i m H ⟨e, p⟩
  have g0 := hG i H (by omega) p
  cases m with
  | zero =>
    obtain rfl : i = n := by omega
    exact .inl ⟨w.stops H g0, hd H p⟩
  | succ m => exact .inr ⟨w.goes i H (by omega) g0, Pv (i + 1), fun H' p' => ⟨m, Nat.lt_succ_self m, by omega, p'⟩, fun x H' y => hs i x H H' (by omega) p (w.yields i H x H' (by omega) g0 y)⟩
end
end DR

/-! x in o, x not in o, o == x by an own def -/
namespace DR
open PySem PySem.Spec PyProof.Rows L2
section
variable {X : Cx} {CX : CXT} {k : Nat} {C f : Addr} {fd : FuncData} {ps : List Str} {sp : Sp} {E : XK}
/-- an own def asked about x: it says a bool -/
def rAsk (C : Addr) (sp : Sp) (E : XK) (no : Bool → Bool) : R2 := fun x y H Q => ∃ a dx fs, y = .ref a ∧ H a = some (.ins C dx fs) ∧ sp [.ref a, x] H (fun v H' => ∃ b, v = .bl b ∧ Q (.bl (no b)) H') E
theorem op_inM (F : FnOk X.prog X.w X.K X.mg X.base CX k f fd ps sp) (hr : Room k X.A) (hb : Binds X.K fd ps []) (hs : PySem.W.findIn X.K (.ref C) "__contains__" = some (some (.ref f))) (hf : PySem.W.isFn X.K (.ref f) = true) (hx : Passes CX X E) :
    OpR X (compareOp .In) (rAsk C sp E id) := by
  intro pins s σ H x y v u Q I rx ry ⟨a, dx, fs, ey, ea, q⟩
  subst ey
  cases (show u = Value.ref a from ry)
  obtain ⟨mA, O, _⟩ := ins_get I.hok ea
  obtain ⟨od, J, _⟩ := O.look
  obtain ⟨m, fr⟩ := I.fr
  refine PySem.W.in_K fr I.ok.mod.kin J hs hf (wpAny_mono (run_fn (us := [.ref a, v]) (vs := [.ref a, x]) F hr hb .nil hx I (.cons rfl (.cons rx .nil)) q) (fun r s2 ⟨z, H2, I2, rz, b, ez, qz⟩ => ?_) fun _ _ z => z)
  subst ez
  cases rz
  exact wpAny_truthy_bool ⟨.bl b, H2, I2, rfl, qz⟩
theorem op_notInM (F : FnOk X.prog X.w X.K X.mg X.base CX k f fd ps sp) (hr : Room k X.A) (hb : Binds X.K fd ps []) (hs : PySem.W.findIn X.K (.ref C) "__contains__" = some (some (.ref f))) (hf : PySem.W.isFn X.K (.ref f) = true) (hx : Passes CX X E) :
    OpR X (compareOp .NotIn) (rAsk C sp E not) := by
  intro pins s σ H x y v u Q I rx ry ⟨a, dx, fs, ey, ea, q⟩
  subst ey
  cases (show u = Value.ref a from ry)
  obtain ⟨mA, O, _⟩ := ins_get I.hok ea
  obtain ⟨od, J, _⟩ := O.look
  obtain ⟨m, fr⟩ := I.fr
  refine PySem.W.notIn_K fr I.ok.mod.kin J hs hf (wpAny_mono (run_fn (us := [.ref a, v]) (vs := [.ref a, x]) F hr hb .nil hx I (.cons rfl (.cons rx .nil)) q) (fun r s2 ⟨z, H2, I2, rz, b, ez, qz⟩ => ?_) fun _ _ z => z)
  subst ez
  cases rz
  exact wpAny_truthy_bool ⟨.bl (!b), H2, I2, rfl, qz⟩
/-- what stands on the right of an own == -/
inductive TyR (K : PySem.W.Frag) (H : Hp) : V → Value → Prop where
  | int (i : Int) : TyR K H (.int i) (.type "int")
  | str (x : Str) : TyR K H (.str x) (.type "str")
  | ins {a C dx : Addr} {fs : List (Str × V)} (e : H a = some (.ins C dx fs)) : TyR K H (.ref a) (.ref C)
theorem TyR.looks {pins : List (Addr × Obj)} {σ : L2.St} {H : Hp} {s : Shared} {x : V} {u t : Value} (h : TyR X.K H x t) (I : Inv X pins σ H s) (r : RelV x u) : PySem.W.Looks (model X.prog X.w) s.heap (typeOf u) t := by
  cases h with
  | int i =>
    obtain ⟨k, e⟩ := (show ∃ k, u = Value.int i k from r)
    subst e
    exact PySem.W.Looks.now
  | str i =>
    obtain ⟨k, e⟩ := (show ∃ k, u = Value.str i k from r)
    subst e
    exact PySem.W.Looks.now
  | @ins a C dx fs e =>
    cases (show u = Value.ref a from r)
    obtain ⟨mA, O, _⟩ := ins_get I.hok e
    obtain ⟨od, J, _⟩ := O.look
    exact J.type
def rEqM (K : PySem.W.Frag) (C : Addr) (sp : Sp) (E : XK) : R2 := fun x y H Q => ∃ a dx fs t, x = .ref a ∧ H a = some (.ins C dx fs) ∧ TyR K H y t ∧ PySem.W.notFirst K C t = true ∧ sp [.ref a, y] H (fun v H' => ∃ b, v = .bl b ∧ Q (.bl b) H') E
theorem op_eqM (F : FnOk X.prog X.w X.K X.mg X.base CX k f fd ps sp) (hr : Room k X.A) (hb : Binds X.K fd ps []) (hs : PySem.W.findIn X.K (.ref C) "__eq__" = some (some (.ref f))) (hf : PySem.W.isFn X.K (.ref f) = true) (hx : Passes CX X E) :
    OpR X (compareOp .Eq) (rEqM X.K C sp E) := by
  intro pins s σ H x y v u Q I rx ry ⟨a, dx, fs, t, ex, ea, ty, nf, q⟩
  subst ex
  cases (show v = Value.ref a from rx)
  obtain ⟨mA, O, _⟩ := ins_get I.hok ea
  obtain ⟨od, J, _⟩ := O.look
  obtain ⟨m, fr⟩ := I.fr
  show wpAny _ _ (richCompare .Eq (.ref a) u) _ _ _
  refine PySem.W.cmp_K (op := .Eq) hr.units0 fr I.ok.mod.kin J (ty.looks I ry) nf hs hf (wpAny_mono (run_fn (us := [.ref a, u]) (vs := [.ref a, y]) F hr hb .nil hx I (.cons rfl (.cons ry .nil)) q) (fun r s2 ⟨z, H2, I2, rz, b, ez, qz⟩ => ?_) fun _ _ z => z)
  subst ez
  cases rz
  exact ⟨.bl b, H2, I2, rfl, qz⟩
end
end DR

/-! f(k = e), o.m(k = e) -/
namespace DR
open PySem PySem.Spec PyProof.Rows L2
section
variable {X : Cx} {CX : CXT} {k : Nat} {C f : Addr} {fd : FuncData} {ps : List Str} {sp : Sp} {E : XK} {x kw m : Str} {p pos apos kpos : Pos} {e o : Expr} {te ta : TE}
theorem run_kw {pins : List (Addr × Obj)} {σ : L2.St} {H : Hp} {s : Shared} {Q : VK} {us : List Value} {vs : List V} {args : Args} (F : FnOk X.prog X.w X.K X.mg X.base CX k f fd ps sp) (hr : Room k X.A) (hb : BindsTo s fd args (ps.zip us)) (hx : Passes CX X E) (I : Inv X pins σ H s) (r : Vals vs us) (h : sp vs H Q E) :
    wpAny (model X.prog X.w) X.A (call (.ref f) args.pos args.kw) (EP X pins σ Q) X.xe s := by
  refine wpAny_call (codeAny_mono (F.run X.A X.stack s H args us vs Q E hr I.env0 hb r h) fun res s2 hq => ?_)
  match res, hq with
  | .error er, hq => exact hx pins σ H s er s2 I hq
  | .ok (.ret u), hq => exact I.after hq
  | .ok .next, hq => exact hq.elim
  | .ok .brk, hq => exact hq.elim
  | .ok .cont, hq => exact hq.elim
def tCallK1 (sp : Sp) (E : XK) (te : TE) : TE := fun σ H Q => te σ H fun y H1 => sp [y] H1 Q E
theorem pe_callK1 (lp : ps.length = 1) (F : FnOk X.prog X.w X.K X.mg X.base CX k f fd ps sp) (hr : Room k X.A) (hg : Gl X x) (hm : X.mg x = some (.ref f)) (hk : PySem.W.keepIn X.K (.ref f) = true) (hb : ∀ (s : Shared) (v : Value), BindsTo s fd ⟨[], [(kw, v)]⟩ (ps.zip [v])) (hx : Passes CX X E) (he : PE X e te)
    (hall : (backToKw pos (keywordEach [⟨some kw, e, kpos⟩] X.env)).all (·.1.isSome) = true := by rfl) (hks : (backToKw pos (keywordEach [⟨some kw, e, kpos⟩] X.env)).filterMap (·.1) = [kw] := by rfl) (hdb : (x == ("__debug__" : Str)) = false := by decide)
    (hpl : ((backTo pos (starEach [] X.env)).any (·.1) || (backToKw pos (keywordEach [⟨some kw, e, kpos⟩] X.env)).any (·.1.isNone)) = false := by rfl) : PE X (.Call (.Name x p) [] [⟨some kw, e, kpos⟩] pos) (tCallK1 sp E te) := by
  refine ⟨fun pins s σ H Q I h => ?_⟩
  refine wpAny_Call_Name_kw (ld_glob I hg hm ?_ hdb)
  refine PySem.W.callWith_KW0 (h₀ := X.base) I.ok.mod.kin hk hall ?_ hpl
  have args : PK X [⟨some kw, e, kpos⟩] (tCons te tNil) := pk_cons he pk_nil
  refine thn (args.run pos pins s σ H (fun zs H1 => sp zs H1 Q E) I h) fun ws s2 ⟨zs, H2, I2, rz, q⟩ => ⟨I2.kIn, ?_⟩
  obtain ⟨y, rfl⟩ : ∃ y, zs = [y] := by
    have l := (F.len _ _ _ _ q).trans lp
    match zs, l with
    | [y], _ => exact ⟨y, rfl⟩
  · obtain ⟨u, rfl, r⟩ := vals1 rz
    rw [hks]
    exact run_kw (args := ⟨[], [(kw, u)]⟩) F hr (hb s2 u) hx I2 (.cons r .nil) q
def tMethK1 (C : Addr) (m : Str) (sp : Sp) (E : XK) (ta te : TE) : TE := fun σ H Q => ta σ H fun x H1 => ∃ a dx fs, x = .ref a ∧ H1 a = some (.ins C dx fs) ∧ fs.lookup m = none ∧ te σ H1 fun y H2 => sp [x, y] H2 Q E
theorem pe_methK1 {pl : Sem Bool} (lp : ps.length = 2) (ho : PE X o ta) (c : Cls X.K C) (hm : Meth X.K C m f) (F : FnOk X.prog X.w X.K X.mg X.base CX k f fd ps sp) (hr : Room k X.A) (hb : ∀ (s : Shared) (a v : Value), BindsTo s fd ⟨[a], [(kw, v)]⟩ (ps.zip [a, v])) (hx : Passes CX X E) (he : PE X e te)
    (hall : (backToKw pos (keywordEach [⟨some kw, e, kpos⟩] X.env)).all (·.1.isSome) = true := by rfl) (hks : (backToKw pos (keywordEach [⟨some kw, e, kpos⟩] X.env)).filterMap (·.1) = [kw] := by rfl)
    (hpl : ((backTo pos (starEach [] X.env)).any (·.1) || (backToKw pos (keywordEach [⟨some kw, e, kpos⟩] X.env)).any (·.1.isNone)) = false := by rfl)
    (ht : eval (.Call (.Attribute o m apos) [] [⟨some kw, e, kpos⟩] pos) X.env = (do
      let ov ← eval o X.env
      standAt apos.atName
      let (f, first) ← holding [ov] (getMethod ov m pl)
      callWith pos f first (backTo pos (starEach [] X.env)) (backToKw pos (keywordEach [⟨some kw, e, kpos⟩] X.env))) := by rfl) :
    PE X (.Call (.Attribute o m apos) [] [⟨some kw, e, kpos⟩] pos) (tMethK1 C m sp E ta te) := by
  refine ⟨fun pins s σ H Q I h => ?_⟩
  refine PySem.W.methodCall_KW (pl := pl) (thn (ho.run pins s σ H _ I h) fun u s1 ⟨x, H1, I1, rx, a, dx, fs, ex, ea, l, q⟩ => ?_) ht
  subst ex
  obtain rfl : u = Value.ref a := rx
  refine getmeth_ok I1 ea c hm l ?_
  refine PySem.W.callWith_KW0 (first := [.ref a]) (h₀ := X.base) I.ok.mod.kin hm.kp hall ?_ hpl
  have args : PK X [⟨some kw, e, kpos⟩] (tCons te tNil) := pk_cons he pk_nil
  refine thn (args.run pos pins s1 σ H1 (fun zs H2 => sp (.ref a :: zs) H2 Q E) I1 q) fun ws s2 ⟨zs, H2, I2, rz, q⟩ => ⟨I2.kIn, ?_⟩
  obtain ⟨y, rfl⟩ : ∃ y, zs = [y] := by
    have l := (F.len _ _ _ _ q).trans lp
    match zs, l with
    | [y], _ => exact ⟨y, rfl⟩
  · obtain ⟨u, rfl, r⟩ := vals1 rz
    rw [hks]
    exact run_kw (args := ⟨[.ref a], [(kw, u)]⟩) (us := [.ref a, u]) (vs := [.ref a, y]) F hr (hb s2 (.ref a) u) hx I2 (.cons rfl (.cons r .nil)) q
end
end DR

namespace K04
open PySem L2 DR DM TL
def top (i : Nat) : Stmt := PySem.Challenge.pw_deadrules_k04_edits_of_documents_refused.main.body.getD i (.Pass ⟨0, 0, 0, 0⟩)
def toS (w : W) : Str := ⟨w.toArray⟩
def sv (w : W) : V := .str (toS w)
theorem tl_toS (w : W) : tl (toS w) = w := rfl
theorem toS_len (w : W) : (toS w).length = w.length := by rw [len_tl, tl_toS]
theorem toS_tl (x : Str) : toS (tl x) = x := mk_tl x
theorem toS_app (a b : W) : toS a ++ toS b = toS (a ++ b) := ext_tl (by rw [tl_append, tl_toS, tl_toS, tl_toS])
theorem toS_one (c : Nat) : (⟨#[c]⟩ : Str) = toS [c] := rfl
theorem same_new {H : Hp} {p : Addr} {o : HO} (h : H p = none) : Same H (upd H p o) := fun b u e => by
  rw [upd_ne (ne_of_none e h), e]
/-- what was tracked ahead of p stays where p alone is written -/
theorem same_put {H H' : Hp} {p : Addr} {o : HO} (s : Same H H') (h : H p = none) : Same H (upd H' p o) := fun b u e => by
  rw [upd_ne (ne_of_none e h)]
  exact s b u e
/-! ### cut -/
abbrev sCut : Stmt := top 8
def spCut : Sp := fun vs H Q _ => ∃ (t L S : Str), vs = [.str t, .str L, .str S] ∧ (tl t).length ≤ 30000 ∧ (cutM (tl L) (tl S) (tl t) = none → ∀ H', Same H H' → Q .non H') ∧
  ∀ ps p H', cutM (tl L) (tl S) (tl t) = some ps → H p = none → Same H H' → H' p = some (.lst (ps.map sv)) → Q (.ref p) H'
theorem big : 200000 < sizeLine := by decide
section
variable {P : Program} {w : World} {K : PySem.W.Frag} {mg : Str → Option Value} {base : Heap}
theorem scCut : FnScope ["text", "letters", "signs", "pieces", "word", "sign"] ["text", "letters", "signs"] (defScope sCut) := ⟨rfl, rfl, rfl, by decide +kernel, rfl, by decide +kernel, by decide +kernel⟩
theorem flush_nil (ps : List W) : flush ps [] = ps := rfl
theorem cut_step {L S : List Nat} {t : W} {i c : Nat} {x : Option (List W × W)} (h : t[i]? = some c) (e : (t.take i).foldl (cutStep L S) (some ([], [])) = x) : (t.take (i + 1)).foldl (cutStep L S) (some ([], [])) = cutStep L S x c := by
  have hi : i < t.length := (List.getElem?_eq_some_iff.mp h).1
  rw [List.take_succ, h, List.foldl_append, e]
  rfl
theorem cut_bad {L S : List Nat} {t : W} {i : Nat} (e : (t.take i).foldl (cutStep L S) (some ([], [])) = none) : cutM L S t = none := by
  unfold cutM
  rw [← List.take_append_drop i t, List.foldl_append, e, cut_none]
  rfl
theorem append_rule {X : Cx} {o e : Expr} {to : TE} {ta : TA} {apos cpos pos : Pos} (ho : PE X o to) (ha : PA X [e] ta)
    (h1 : attributeBase o "append" X.env (eval o X.env) = eval o X.env := by rfl) (h2 : ((backTo cpos (starEach [e] X.env)).all (fun x => !x.1) && (backToKw cpos (keywordEach [] X.env)).all (fun x => x.1.isSome) && decide (([e] : List Expr).length + ([] : List Keyword).length + (if ([] : List Keyword).isEmpty then 0 else 1) < 30)) = true := by rfl)
    (h3 : (apos.endLine == cpos.line) = true := by rfl) (h4 : starEach [e] X.env = (false, eval e X.env) :: starEach [] X.env := by rfl) (h5 : (backTo cpos (starEach [] X.env)).any (·.1) = false := by rfl)
    (hs : swapsWith (.Call (.Attribute o "append" apos) [e] [] cpos) none pos.line X.env = pure false := by rfl) :
    PS X (.Expr (.Call (.Attribute o "append" apos) [e] [] cpos) pos) (tDrop (tBM X.K "list" rAppend to ta)) :=
  ps_expr (pe_bm PySem.F.plainAttrs_list PySem.F.slot_list_append PySem.F.type_list_append mt_append ho ha h1 h2 h3 h4 h5) hs
theorem ok_cut {f : Addr} {fd : FuncData} (F : Fun K "cut" "cut" sCut f fd) : FnOk P w K mg base CX0 1 f fd ["text", "letters", "signs"] spCut := by
  refine F.ok scCut (fun vs H Q E h => ?_) (fun cdv A outer s H vs Q E hr h => ?_)
  · obtain ⟨_, _, _, rfl, _⟩ := h
    rfl
  · obtain ⟨t, L, S, rfl, len, no, yes⟩ := h
    refine ⟨_, pss_cons (ps_set (i := 3) scCut.nd rfl (Or.inl rfl) (pe_lst pa_nil))
      (pss_cons (ps_set (i := 4) scCut.nd rfl (Or.inl rfl) pe_str)
      (pss_cons (ps_for PassesOwn.never rfl (pi_str (pv 0)) (pg_name (i := 5) scCut.nd rfl (Or.inl rfl))
        (pss_cons (ps_if (pt_cmpR op_in_sign (pv 5) (pv 1) rfl) (pss_cons (ps_aug (i := 4) scCut.nd rfl (Or.inl rfl) (pv 5) iop_add_str) (pss_one ps_continue)) pss_nil)
        (pss_cons (ps_if (pt_cmpR op_notIn_sign (pv 5) (pv 2) rfl) (pss_one (ps_ret pe_non)) pss_nil)
        (pss_cons (ps_if (pt_truth (pv 4) (by intro _; rfl)) (pss_cons (append_rule (pv 3) (pa_cons (pv 4) pa_nil)) (pss_one (ps_set (i := 4) scCut.nd rfl (Or.inl rfl) pe_str))) pss_nil)
        (pss_one (append_rule (pv 3) (pa_cons (pv 5) pa_nil)))))))
      (pss_cons (ps_if (pt_truth (pv 4) (by intro _; rfl)) (pss_one (append_rule (pv 3) (pa_cons (pv 4) pa_nil))) pss_nil)
      (pss_one (ps_ret (pv 3)))))), ?_⟩
    refine ⟨by show 0 ≤ sizeLine; decide, fun p hp => ?_⟩
    have len' : t.cps.size = (tl t).length := by simp
    refine ⟨_, rfl, t, rfl, for_it walk_str (fun i σ H' => ∃ ps u o5, ((tl t).take i).foldl (cutStep (tl L) (tl S)) (some ([], [])) = some (ps, u) ∧ σ = [some (.str t), some (.str L), some (.str S), some (.ref p), some (sv u), o5] ∧ Same H H' ∧ H' p = some (.lst (ps.map sv)) ∧ u.length ≤ i ∧ ps.length ≤ 2 * i)
      ⟨[], [], none, rfl, rfl, same_new hp, upd_same, Nat.le_refl _, Nat.le_refl _⟩ (fun _ _ _ _ _ => trivial) ?_ ?_⟩
    · rintro i x σ H1 H2 hi ⟨ps, u, o5, ef, rfl, s1, m1, l1, l2⟩ ⟨rfl, c, hc, rfl⟩
      have hi' : i < 30000 := by omega
      have hc' : (tl t)[i]? = some c := by simpa using hc
      have st := cut_step hc' ef
      have B := big
      refine ⟨_, rfl, _, rfl, c, L, rfl, rfl, _, rfl, ?_⟩
      refine ite2 (fun c1 => ?_) (fun c1 => ?_)
      · have c1' : c ∈ tl L := of_decide_eq_true c1
        refine ⟨_, rfl, _, rfl, _, _, rfl, rfl, ?_, ?_⟩
        · rw [toS_len]
          show u.length + 1 ≤ _
          omega
        · refine ⟨ps, u ++ [c], some (.str ⟨#[c]⟩), ?_, ?_, s1, m1, ?_, ?_⟩
          · rw [st]
            exact if_pos c1'
          · have e : toS u ++ (⟨#[c]⟩ : Str) = toS (u ++ [c]) := by rw [toS_one, toS_app]
            show [some (V.str t), some (V.str L), some (V.str S), some (V.ref p), some (V.str (toS u ++ ⟨#[c]⟩)), some (V.str ⟨#[c]⟩)] = _
            rw [e]
            rfl
          · rw [List.length_append]
            show u.length + 1 ≤ _
            omega
          · omega
      · have c1' : c ∉ tl L := fun q => c1 (decide_eq_true q)
        refine ⟨_, rfl, _, rfl, c, S, rfl, rfl, _, rfl, ?_⟩
        by_cases c2 : c ∈ tl S
        · refine if_eq (decide_eq_true c2) ?_
          refine ⟨_, rfl, _, ⟨by rw [toS_len]; omega, rfl⟩, ?_⟩
          have e2 : cutStep (tl L) (tl S) (some (ps, u)) c = some (flush ps u ++ [[c]], []) := cut_sign c1' c2 ps u
          rw [e2] at st
          by_cases c3 : u = []
          · subst c3
            refine iteF ?_
            refine ⟨_, rfl, .inl ⟨rfl, _, .inl (.inl m1)⟩, _, rfl, p, _, _, rfl, rfl, m1, ?_, ?_⟩
            · rw [List.length_map]
              omega
            · refine ⟨_, [], _, st, rfl, same_put s1 hp, ?_, Nat.zero_le _, ?_⟩
              · rw [upd_same, flush_nil, List.map_append]
                rfl
              · rw [flush_nil, List.length_append]
                show ps.length + 1 ≤ _
                omega
          · have c4 : (((toS u).length : Int) != 0) = true := by
              rw [toS_len]
              have : u.length ≠ 0 := fun z => c3 (List.length_eq_zero_iff.mp z)
              simp
              omega
            rw [c4]
            refine iteT ?_
            have ef' : flush ps u = ps ++ [u] := if_neg c3
            rw [ef'] at st
            refine ⟨_, rfl, .inl ⟨rfl, _, .inl (.inl m1)⟩, _, rfl, p, _, _, rfl, rfl, m1, (by rw [List.length_map]; omega), ?_⟩
            have m2 : upd H2 p (.lst (List.map sv ps ++ [.str (toS u)])) p = some (.lst (List.map sv (ps ++ [u]))) := by
              rw [upd_same, List.map_append]
              rfl
            have s2 : Same H (upd H2 p (.lst (List.map sv ps ++ [.str (toS u)]))) := same_put s1 hp
            refine ⟨_, rfl, .inl ⟨rfl, _, .inl (.inl m2)⟩, _, rfl, p, _, _, rfl, rfl, m2, ?_, ?_⟩
            · rw [List.length_map, List.length_append]
              show ps.length + 1 < _
              omega
            · refine ⟨_, [], _, st, rfl, same_put s2 hp, ?_, Nat.zero_le _, ?_⟩
              · rw [upd_same, List.map_append (l₁ := ps ++ [u])]
                rfl
              · rw [List.length_append, List.length_append]
                show ps.length + 1 + 1 ≤ _
                omega
        · have bad : cutM (tl L) (tl S) (tl t) = none := by
            refine cut_bad (i := i + 1) ?_
            rw [st]
            show (if c ∈ tl L then _ else if c ∈ tl S then _ else _) = _
            rw [if_neg c1', if_neg c2]
          rw [decide_eq_false c2]
          exact iteT (no bad _ s1)
    · rintro σ H1 ⟨ps, u, o5, ef, rfl, s1, m1, l1, l2⟩
      have B := big
      have lt : t.cps.size ≤ 30000 := by omega
      have all : (tl t).foldl (cutStep (tl L) (tl S)) (some ([], [])) = some (ps, u) := by
        rw [List.take_of_length_le (Nat.le_of_eq len'.symm)] at ef
        exact ef
      have cm : cutM (tl L) (tl S) (tl t) = some (flush ps u) := by
        unfold cutM
        rw [all]
        rfl
      refine ⟨_, rfl, _, ⟨by rw [toS_len]; omega, rfl⟩, ?_⟩
      by_cases c3 : u = []
      · subst c3
        exact iteF ⟨_, rfl, yes _ p _ cm hp s1 m1⟩
      · have c4 : (((toS u).length : Int) != 0) = true := by
          rw [toS_len]
          have : u.length ≠ 0 := fun z => c3 (List.length_eq_zero_iff.mp z)
          simp
          omega
        rw [c4]
        refine iteT ?_
        have ef' : flush ps u = ps ++ [u] := if_neg c3
        rw [ef'] at cm
        refine ⟨_, rfl, .inl ⟨rfl, _, .inl (.inl m1)⟩, _, rfl, p, _, _, rfl, rfl, m1, (by rw [List.length_map]; omega), ?_⟩
        refine ⟨_, rfl, yes _ p _ cm hp (same_put s1 hp) ?_⟩
        rw [upd_same, List.map_append]
        rfl
end
end K04

namespace K04
open PySem L2 DR DM TL
/-- what the top leaves of the names that are called -/
structure Txt (mg : Str → Option Value) : Prop where
  int : mg "int" = none
  bool : mg "bool" = none
  str : mg "str" = none
  list : mg "list" = none
  tuple : mg "tuple" = none
  set : mg "set" = none
  len : mg "len" = none
  all : mg "all" = none
  sorted : mg "sorted" = none
  isi : mg "isinstance" = none
  enum : mg "enumerate" = none
  range : mg "range" = none
  max : mg "max" = none
  min : mg "min" = none
  lets : ∃ u, mg "LETTERS" = some u ∧ RelV (.str (toS lets)) u
  longest : ∃ u, mg "LONGEST_NAME" = some u ∧ RelV (.int 8) u
  most : ∃ u, mg "MOST_NODES" = some u ∧ RelV (.int 200) u
/-- one def as it is called -/
def Has (P : Program) (w : World) (K : PySem.W.Frag) (mg : Str → Option Value) (base : Heap) (k : Nat) (x : Str) (ps : List Str) (sp : Sp) : Prop :=
  ∃ f fd, FnOk P w K mg base CX0 k f fd ps sp ∧ mg x = some (.ref f) ∧ PySem.W.keepIn K (.ref f) = true ∧ Binds K fd ps []
abbrev sInt : Stmt := top 4
abbrev sName : Stmt := top 6
abbrev sNames : Stmt := top 7
abbrev sIsPath : Stmt := top 24
def spInt (K : PySem.W.Frag) : Sp := fun vs H Q _ => ∃ (x : V) (t : Value) (b1 b2 : Bool), vs = [x] ∧ TyX K H x t ∧ PySem.W.kitOne K t (.type "int") = some b1 ∧ PySem.W.kitOne K t (.type "bool") = some b2 ∧ Q (.bl (b1 && !b2)) H
def spName : Sp := fun vs H Q _ => ∃ t : Str, vs = [.str t] ∧ (tl t).length ≤ 30000 ∧ ∀ H', Same H H' → Q (.bl (isName (tl t))) H'
def spNames (K : PySem.W.Frag) : Sp := fun vs H Q _ => ∃ (p : Addr) (ts : List Str), vs = [.ref p] ∧ H p = some (.lst (ts.map V.str)) ∧ ts.length ≤ 1000 ∧ (∀ t ∈ ts, (tl t).length ≤ 30000) ∧ ∀ H', Same H H' → Q (.bl (areNames (ts.map tl))) H'
theorem nodup_tl {ts : List Str} : ts.Nodup ↔ (ts.map tl).Nodup := by
  induction ts with
  | nil => simp
  | cons t ts ih =>
    rw [List.map_cons, List.nodup_cons, List.nodup_cons, ih]
    refine and_congr_left fun _ => not_congr ⟨fun h => List.mem_map.mpr ⟨t, h, rfl⟩, fun h => ?_⟩
    obtain ⟨z, h1, h2⟩ := List.mem_map.mp h
    exact ext_tl h2 ▸ h1
section
variable {P : Program} {w : World} {K : PySem.W.Frag} {mg : Str → Option Value} {base : Heap}
theorem scInt : FnScope ["value"] ["value"] (defScope sInt) := ⟨rfl, rfl, rfl, by decide +kernel, rfl, by decide +kernel, by decide +kernel⟩
theorem ok_int {f : Addr} {fd : FuncData} (F : Fun K "is_integer" "is_integer" sInt f fd) (T : Txt mg) : FnOk P w K mg base CX0 1 f fd ["value"] (spInt K) := by
  refine F.ok scInt (fun vs H Q E h => ?_) (fun cdv A outer s H vs Q E hr h => ?_)
  · obtain ⟨_, _, _, _, rfl, _⟩ := h
    rfl
  · obtain ⟨x, t, b1, b2, rfl, ty, h1, h2, fin⟩ := h
    refine ⟨_, pss_one (ps_ret (pe_and (pe_callB call_isi (by rfl) T.isi PyProof.Rows.boot_isinstance (pa_cons (pv 0) (pa_cons (pe_bltn (v := .ty "int") (by rfl) T.int (by decide +kernel) rfl) pa_nil)))
      (pe_one (pe_not (pe_callB call_isi (by rfl) T.isi PyProof.Rows.boot_isinstance (pa_cons (pv 0) (pa_cons (pe_bltn (v := .ty "bool") (by rfl) T.bool (by decide +kernel) rfl) pa_nil))))))), ?_⟩
    refine ⟨_, rfl, x, _, t, _, b1, rfl, .ty _, ty, h1, b1, rfl, ?_⟩
    cases b1 with
    | false => exact iteF fin
    | true => exact iteT ⟨_, rfl, x, _, t, _, b2, rfl, .ty _, ty, h2, b2, rfl, fin⟩
theorem scName : FnScope ["value", "sign"] ["value"] (defScope sName) := ⟨rfl, rfl, rfl, by decide +kernel, rfl, by decide +kernel, by decide +kernel⟩
theorem ok_name {f : Addr} {fd : FuncData} (F : Fun K "is_name" "is_name" sName f fd) (T : Txt mg) : FnOk P w K mg base CX0 1 f fd ["value"] spName := by
  obtain ⟨uL, mL, rL⟩ := T.lets
  obtain ⟨uN, mN, rN⟩ := T.longest
  refine F.ok scName (fun vs H Q E h => ?_) (fun cdv A outer s H vs Q E hr h => ?_)
  · obtain ⟨_, rfl, _⟩ := h
    rfl
  · obtain ⟨t, rfl, len, fin⟩ := h
    refine ⟨_, pss_cons (ps_if (PW.pt (pw_or (pt_not (pt_val (pe_callB call_isi (by rfl) T.isi PyProof.Rows.boot_isinstance (pa_cons (pv 0) (pa_cons (pe_bltn (v := .ty "str") (by rfl) T.str (by decide +kernel) rfl) pa_nil)))))
        (pw_or1 (pt_not (pt_chain op_le op_le pe_int (pe_callB call_len_str (by rfl) T.len PySem.boot_len (pa_cons (pv 0) pa_nil)) (pe_glob (v := .int 8) (by rfl) mN rN)))))) (pss_one (ps_ret pe_bl)) pss_nil)
      (pss_one (ps_ret (pe_callB (cr_all rfl) (by rfl) T.all PyProof.Rows.boot_all (pa_cons (pe_lc (own := [("sign", 1)]) (g := gName 1) (tt := tYes) rfl scName.nd (pi_str (pv 0))
        (blkOk_by (N := ["value", "sign"]) (sc := defScope sName) (by decide +kernel)) (fun _ _ _ _ _ => pg_name (i := 1) scName.nd rfl (Or.inl rfl)) (fun _ _ _ _ _ => pts_nil)
        (fun _ _ _ _ _ => pe_cmpR op_in_sign (pv 1) (pe_glob (v := .str (toS lets)) (by rfl) mL rL) rfl)) pa_nil)))), ?_⟩
    have B := big
    have len' : t.cps.size = (tl t).length := by simp
    have tlen : t.length = (tl t).length := len_tl t
    refine ⟨_, rfl, .str t, _, .type "str", _, true, rfl, .ty _, .base (.str t), by rfl, true, rfl, ?_⟩
    refine iteF ⟨_, rfl, t, rfl, by omega, _, _, rfl, rfl, _, rfl, ?_⟩
    have short : ¬ (1 ≤ (tl t).length ∧ (tl t).length ≤ 8) → isName (tl t) = false := fun n => by
      unfold isName
      cases e : (decide (1 ≤ (tl t).length) && decide ((tl t).length ≤ 8)) with
      | false => rfl
      | true =>
        simp only [Bool.and_eq_true, decide_eq_true_eq] at e
        exact absurd e n
    refine ite2 (fun c1 => ?_) (fun c1 => ?_)
    · have c1' := of_decide_eq_true c1
      refine ⟨_, _, rfl, rfl, _, rfl, ?_⟩
      by_cases c2 : ((t.length : Nat) : Int) ≤ 8
      · refine if_eq (decide_eq_true c2) ?_
        refine ⟨_, rfl, t, rfl, fun D hD => lc_it walk_str (fun i H' => H' = upd H D (.lst (((tl t).take i).map fun c => V.bl (decide (c ∈ lets))))) rfl (fun _ _ _ _ => trivial) ?_ ?_⟩
        · rintro i x H1 H2 hi rfl ⟨rfl, c, hc, rfl⟩
          refine ⟨rfl, ?_⟩
          unfold tYes
          refine iteT ⟨_, rfl, c, toS lets, rfl, rfl, _, upd_same, ?_, ?_⟩
          · rw [List.length_map]
            exact Nat.lt_of_le_of_lt (List.length_take_le _ _) (by omega)
          · have hc' : (tl t)[i]? = some c := by simpa using hc
            rw [upd_upd, List.take_succ, hc', List.map_append]
            rfl
        · rintro H1 rfl
          refine ⟨D, (tl t).map fun c => decide (c ∈ lets), rfl, SqL.of ?_, ?_⟩
          · rw [upd_same, List.map_map, len', List.take_length]
            rfl
          · have : isName (tl t) = ((tl t).map fun c => decide (c ∈ lets)).all id := by
              unfold isName
              rw [decide_eq_true (show 1 ≤ (tl t).length by omega), decide_eq_true (show (tl t).length ≤ 8 by omega), List.all_map]
              rfl
            rw [← this]
            exact fin _ (same_new hD)
      · rw [decide_eq_false c2]
        refine iteT ?_
        have e := short fun q => c2 (by omega)
        rw [e] at fin
        exact fin _ (Same.refl _)
    · have c1' : ¬ (1 : Int) ≤ ((t.length : Nat) : Int) := fun q => c1 (decide_eq_true q)
      have e := short fun q => c1' (by omega)
      rw [e] at fin
      exact ⟨_, rfl, iteT (fin _ (Same.refl _))⟩
theorem scNames : FnScope ["values", "value"] ["values"] (defScope sNames) := ⟨rfl, rfl, rfl, by decide +kernel, rfl, by decide +kernel, by decide +kernel⟩
theorem ok_names {f : Addr} {fd : FuncData} (F : Fun K "are_names" "are_names" sNames f fd) (T : Txt mg) (D : Has P w K mg base 1 "is_name" ["value"] spName) : FnOk P w K mg base CX0 2 f fd ["values"] (spNames K) := by
  obtain ⟨fN, fdN, GN, mN, kN, bN⟩ := D
  refine F.ok scNames (fun vs H Q E h => ?_) (fun cdv A outer s H vs Q E hr h => ?_)
  · obtain ⟨_, _, rfl, _⟩ := h
    rfl
  · obtain ⟨p, ts, rfl, hp, few, len, fin⟩ := h
    have hr1 : Room 1 _ := hr.mono (by decide)
    refine ⟨_, pss_cons (ps_if (pt_not (pt_val (pe_callB call_isiT (by rfl) T.isi PyProof.Rows.boot_isinstance (pa_cons (pv 0) (pa_cons (pe_tup (pa_cons (pe_bltn (v := .ty "list") (by rfl) T.list (by decide +kernel) rfl) (pa_cons (pe_bltn (v := .ty "tuple") (by rfl) T.tuple (by decide +kernel) rfl) pa_nil))) pa_nil))))) (pss_one (ps_ret pe_bl)) pss_nil)
      (pss_one (ps_ret (pe_and (pe_callB (cr_all rfl) (by rfl) T.all PyProof.Rows.boot_all (pa_cons (pe_lc (own := [("value", 1)]) (g := gName 1) (tt := tYes) rfl scNames.nd (pi_list (pv 0))
        (blkOk_by (N := ["values", "value"]) (sc := defScope sNames) (by decide +kernel)) (fun _ _ _ _ _ => pg_name (i := 1) scNames.nd rfl (Or.inl rfl)) (fun _ _ _ _ _ => pts_nil)
        (fun _ _ _ _ _ => pe_call GN hr1 (by rfl) mN kN bN .nil pass0 (pa_cons (pv 1) pa_nil))) pa_nil))
        (pe_one (pe_cmpR op_eq (pe_lenSetT rfl (by rfl) T.len (by rfl) T.set (pv 0)) (pe_callB call_len_seq (by rfl) T.len PySem.boot_len (pa_cons (pv 0) pa_nil)) rfl))))), ?_⟩
    have B := big
    refine ⟨_, rfl, by show 2 ≤ sizeLine; decide, fun q hq => ?_⟩
    generalize g1 : upd H q _ = H1
    have s1 : Same H H1 := g1 ▸ same_new hq
    have m1 : H1 q = some (.tup [.ty "list", .ty "tuple"]) := g1 ▸ upd_same
    refine ⟨.ref p, q, _, .type "list", _, true, rfl, m1, .cons (.ty _) (.cons (.ty _) .nil), .base (.lst (s1 _ _ hp)), by rfl, true, rfl, ?_⟩
    refine iteF ⟨_, rfl, p, rfl, ⟨_, SqL.of (s1 _ _ hp)⟩, fun D hD => lc_it (walk_list (K := K) (a := p) (xs := ts.map V.str)) (fun i H' => Same H1 H' ∧ H' D = some (.lst ((ts.take i).map fun t => V.bl (isName (tl t)))))
      ⟨same_new hD, upd_same⟩ (fun i H' _ ⟨s, _⟩ => s.seq (SqL.of (s1 _ _ hp))) ?_ ?_⟩
    · rintro i x H2 H3 hi ⟨s2, m2⟩ ⟨rfl, hx⟩
      rw [List.getElem?_map] at hx
      obtain ⟨t, ht, rfl⟩ := Option.map_eq_some_iff.mp hx
      refine ⟨rfl, ?_⟩
      unfold tYes
      refine iteT ⟨_, rfl, t, rfl, len t (List.mem_of_getElem? ht), fun H4 s4 => ⟨_, s4 _ _ m2, ?_, ?_, ?_⟩⟩
      · rw [List.length_map]
        exact Nat.lt_of_le_of_lt (List.length_take_le _ _) (by rw [List.length_map] at hi; omega)
      · exact same_put (s2.trans s4) hD
      · rw [upd_same, List.take_succ, ht, List.map_append]
        rfl
    · rintro H2 ⟨s2, m2⟩
      rw [List.length_map, List.take_length] at m2
      refine ⟨D, ts.map fun t => isName (tl t), rfl, SqL.of (by rw [m2, List.map_map]; rfl), _, rfl, ?_⟩
      have all : (ts.map fun t => isName (tl t)).all id = (ts.map tl).all isName := by
        rw [List.all_map, List.all_map]
        rfl
      rw [all]
      refine ite2 (fun c1 => ?_) (fun c1 => ?_)
      · refine ⟨_, rfl, p, ts, rfl, SqL.of (s2 _ _ (s1 _ _ hp)), by unfold PySem.scanBound; omega, fun c hc => ⟨_, rfl, p, _, rfl, .inl (SqL.of (s2 _ _ (s1 _ _ hp))), ?_⟩⟩
        have e : areNames (ts.map tl) = decide (V.int (c : Int) = V.int (((ts.map V.str).length : Nat) : Int)) := by
          unfold areNames
          rw [c1, Bool.true_and, List.length_map, decide_eq_decide, ← nodup_tl, ← hc]
          exact ⟨fun q => by rw [q], fun q => by injection q with q; omega⟩
        rw [e] at fin
        exact ⟨rfl, fin _ (s1.trans s2)⟩
      · have e : areNames (ts.map tl) = false := by
          unfold areNames
          rw [Bool.eq_false_iff.mpr c1]
          rfl
        rw [e] at fin
        exact fin _ (s1.trans s2)
end
end K04

namespace K04
open PySem L2 DR DM TL
theorem cut_from (xs : List V) (k : Nat) : cutV xs (some (k : Int)) none = xs.drop k := by
  unfold cutV
  rw [HT.sIx_nat, HT.sIx_none]
  by_cases h : k ≤ xs.length
  · rw [Nat.min_eq_left h, List.take_of_length_le]
    rw [List.length_drop]
    exact Nat.le_refl _
  · rw [Nat.min_eq_right (by omega), Nat.sub_self, List.take_zero, List.drop_eq_nil_iff.mpr (by omega)]
theorem spl_len (S : List Nat) : ∀ (l : List Nat) (k : Nat) (acc : List Nat), ∀ w ∈ spl S k acc l, w.length ≤ acc.length + l.length
  | [], k, acc, w, h => by
    rw [spl_nil] at h
    rw [List.mem_singleton.mp h]
    exact Nat.le_add_right _ _
  | c :: r, 0, acc, w, h => by
    by_cases p : pre S (c :: r) = true
    · rw [spl_hit p] at h
      rcases List.mem_cons.mp h with rfl | h
      · exact Nat.le_add_right _ _
      · have := spl_len S r _ [] w h
        simp only [List.length_nil, List.length_cons] at this ⊢
        omega
    · rw [spl_miss (Bool.eq_false_iff.mpr p)] at h
      have := spl_len S r _ _ w h
      simp only [List.length_append, List.length_cons, List.length_nil] at this ⊢
      omega
  | c :: r, k + 1, acc, w, h => by
    have := spl_len S r k acc w h
    simp only [List.length_cons]
    omega
theorem spl_ne (S : List Nat) : ∀ (l : List Nat) (k : Nat) (acc : List Nat), spl S k acc l ≠ []
  | [], k, acc => by
    rw [spl_nil]
    exact fun z => nomatch z
  | c :: r, 0, acc => by
    by_cases p : pre S (c :: r) = true
    · rw [spl_hit p]
      exact fun z => nomatch z
    · rw [spl_miss (Bool.eq_false_iff.mpr p)]
      exact spl_ne S r _ _
  | c :: r, k + 1, acc => spl_ne S r k acc
theorem split_dot (t : Str) : (Txt.split t ".").map tl = spl [46] 0 [] (tl t) := by
  refine split_spl t "." (by decide) ?_
  have h1 : Builtin.Str.strKind "." = 1 := by decide +kernel
  rw [h1]
  unfold Builtin.Str.strKind
  split
  · decide
  · split <;> decide
abbrev sHead : Stmt := top 20
def spHead : Sp := fun vs H Q _ => ∃ t : Str, vs = [.str t] ∧ (tl t).length ≤ 30000 ∧ (spl [46] 0 [] (tl t)).length < 64 ∧ (headM srt (tl t) = none → ∀ H', Same H H' → Q .non H') ∧
  ∀ k ms p m H', headM srt (tl t) = some (k, ms) → H p = none → Same H H' → H' p = some (.tup [sv k, .ref m]) → H' m = some (.tup (ms.map sv)) → Q (.ref p) H'
section
variable {P : Program} {w : World} {K : PySem.W.Frag} {mg : Str → Option Value} {base : Heap}
theorem scHead : FnScope ["text", "names", "marks"] ["text"] (defScope sHead) := ⟨rfl, rfl, rfl, by decide +kernel, rfl, by decide +kernel, by decide +kernel⟩
theorem ok_head {f : Addr} {fd : FuncData} (F : Fun K "read_head" "read_head" sHead f fd) (T : Txt mg) (D1 : Has P w K mg base 1 "is_name" ["value"] spName) (D2 : Has P w K mg base 2 "are_names" ["values"] (spNames K)) :
    FnOk P w K mg base CX0 3 f fd ["text"] spHead := by
  obtain ⟨fN, fdN, GN, mN, kN, bN⟩ := D1
  obtain ⟨fA, fdA, GA, mA, kA, bA⟩ := D2
  refine F.ok scHead (fun vs H Q E h => ?_) (fun cdv A outer s H vs Q E hr h => ?_)
  · obtain ⟨_, rfl, _⟩ := h
    rfl
  · obtain ⟨t, rfl, len, few, no, yes⟩ := h
    have hr1 : Room 1 _ := hr.mono (by decide)
    refine ⟨_, pss_cons (ps_set (i := 1) scHead.nd rfl (Or.inl rfl) (pe_split (pv 0) pe_str))
      (pss_cons (ps_set (i := 2) scHead.nd rfl (Or.inl rfl) (pe_slice sl_list (pv 1) (po_some pe_int) po_none))
      (pss_cons (ps_if (PW.pt (pw_or (pt_not (pt_val (pe_call GN hr1 (by rfl) mN kN bN .nil pass0 (pa_cons (pe_ix ix_list (pv 1) pe_int (fun _ _ => rfl)) pa_nil))))
        (pw_or1 (pt_not (pt_val (pe_call GA hr (by rfl) mA kA bA .nil pass0 (pa_cons (pv 2) pa_nil))))))) (pss_one (ps_ret pe_non)) pss_nil)
      (pss_one (ps_ret (pe_tup (pa_cons (pe_ix ix_list (pv 1) pe_int (fun _ _ => rfl)) (pa_cons (pe_callTy call_tuple_of (by rfl) T.tuple (by decide +kernel)
        (pa_cons (pe_callB cr_sortedS (by rfl) T.sorted PyProof.Rows.boot_sorted (pa_cons (pv 2) pa_nil)) pa_nil)) pa_nil))))))), ?_⟩
    have B := big
    have tlen : t.length = (tl t).length := len_tl t
    have sd := split_dot t
    obtain ⟨k, ms, ek⟩ : ∃ k ms, Txt.split t "." = k :: ms := by
      cases e : Txt.split t "." with
      | nil =>
        rw [e] at sd
        exact absurd sd.symm (spl_ne _ _ _ _)
      | cons k ms => exact ⟨k, ms, rfl⟩
    rw [ek, List.map_cons] at sd
    have small : ∀ w ∈ tl k :: ms.map tl, w.length ≤ 30000 := fun w h => by
      have := spl_len [46] (tl t) 0 [] w (sd ▸ h)
      rw [List.length_nil] at this
      omega
    have hM : headM srt (tl t) = if isName (tl k) = true ∧ areNames (ms.map tl) = true then some (tl k, srt (ms.map tl)) else none := by
      unfold headM
      rw [← sd]
    have few' : ms.length + 1 < 64 := by
      rw [← sd, List.length_cons, List.length_map] at few
      exact few
    refine ⟨_, rfl, ⟨t, rfl⟩, t, ".", rfl, rfl, by decide, by omega, fun p hp => ?_⟩
    rw [ek]
    generalize g1 : upd H p _ = H1
    have s1 : Same H H1 := g1 ▸ same_new hp
    have m1 : H1 p = some (.lst ((k :: ms).map V.str)) := g1 ▸ upd_same
    refine ⟨_, rfl, _, rfl, p, _, rfl, SqL.of m1, fun q hq => ?_⟩
    have ct : cutV ((k :: ms).map V.str) (some 1) none = ms.map V.str := cut_from ((k :: ms).map V.str) 1
    rw [ct]
    generalize g2 : upd H1 q _ = H2
    have s2 : Same H1 H2 := g2 ▸ same_new hq
    have m2 : H2 q = some (.lst (ms.map V.str)) := g2 ▸ upd_same
    refine ⟨_, rfl, p, _, 0, _, rfl, rfl, SqL.of (s2 _ _ m1), atI_nat (j := 0) rfl, k, rfl, small _ (List.mem_cons_self ..), fun H3 s3 => ⟨_, rfl, ?_⟩⟩
    have no' : ¬ (isName (tl k) = true ∧ areNames (ms.map tl) = true) → ∀ H', Same H2 H' → Q .non H' := fun c H' s => no (by rw [hM, if_neg c]) _ (s1.trans (s2.trans s))
    refine ite2 (fun c1 => ?_) (fun c1 => ?_)
    · exact iteT (no' (fun c => by rw [c.1] at c1; exact absurd c1 (by decide)) _ s3)
    · have c1' : isName (tl k) = true := by simpa using c1
      refine ⟨_, rfl, q, ms, rfl, s3 _ _ m2, by omega, fun u hu => small _ (List.mem_cons_of_mem _ (List.mem_map.mpr ⟨u, hu, rfl⟩)), fun H4 s4 => ⟨_, rfl, ?_⟩⟩
      refine ite2 (fun c2 => ?_) (fun c2 => ?_)
      · exact no' (fun c => by rw [c.2] at c2; exact absurd c2 (by decide)) _ (s3.trans s4)
      · have c2' : areNames (ms.map tl) = true := by simpa using c2
        have s5 := s3.trans s4
        refine ⟨_, rfl, p, _, 0, _, rfl, rfl, SqL.of (s5 _ _ (s2 _ _ m1)), atI_nat (j := 0) rfl, _, rfl, q, ms, rfl, SqL.of (s5 _ _ m2), by omega, fun ys a pe so ha => ?_⟩
        refine ⟨a, _, rfl, .inl ⟨SqL.of upd_same, fun b hb => ⟨by show 2 ≤ sizeLine; decide, fun c hc => ?_⟩⟩⟩
        have es : (srt (ms.map tl)).map sv = ys.map V.str := by
          rw [srt_eq (pe.map tl) (rises_of so), List.map_map]
          refine List.map_congr_left fun y _ => ?_
          show V.str (toS (tl y)) = V.str y
          rw [toS_tl]
        refine yes (tl k) (srt (ms.map tl)) c b _ (by rw [hM, if_pos ⟨c1', c2'⟩]) ?_ ?_ ?_ ?_
        · exact (s1.trans (s2.trans s5)).free ((same_new ha).free ((same_new hb).free hc))
        · exact (s1.trans (s2.trans s5)).trans ((same_new ha).trans ((same_new hb).trans (same_new hc)))
        · rw [upd_same, show sv (tl k) = V.str k from congrArg V.str (toS_tl k)]
        · rw [upd_ne (ne_of_none upd_same hc), upd_same, es]
end
end K04

namespace K04
open PySem L2 DR DM TL
/-- a node's row: the tuple of the depth, the kind and the marks -/
def RowAt (H : Hp) (v : V) (r : Row) : Prop := ∃ a m, v = .ref a ∧ H a = some (.tup [.int (r.1 : Nat), sv r.2.1, .ref m]) ∧ H m = some (.tup (r.2.2.map sv))
theorem RowAt.same {H H' : Hp} {v : V} {r : Row} (s : Same H H') (h : RowAt H v r) : RowAt H' v r :=
  let ⟨a, m, e, h1, h2⟩ := h
  ⟨a, m, e, s _ _ h1, s _ _ h2⟩
theorem RowAt.put {H : Hp} {k : Addr} {xs : List V} {o : HO} {v : V} {r : Row} (hk : H k = some (.lst xs)) (h : RowAt H v r) : RowAt (upd H k o) v r :=
  let ⟨a, m, e, h1, h2⟩ := h
  ⟨a, m, e, by rw [upd_ne (ne_of h1 hk (fun z => by cases z))]; exact h1, by rw [upd_ne (ne_of h2 hk (fun z => by cases z))]; exact h2⟩
abbrev RowsAt (H : Hp) (vs : List V) (rs : List Row) : Prop := Paired (RowAt H) vs rs
theorem RowsAt.same {H H' : Hp} {vs : List V} {rs : List Row} (s : Same H H') (h : RowsAt H vs rs) : RowsAt H' vs rs := Paired.mapP h fun _ _ q => q.same s
theorem RowsAt.put {H : Hp} {k : Addr} {xs : List V} {o : HO} {vs : List V} {rs : List Row} (hk : H k = some (.lst xs)) (h : RowsAt H vs rs) : RowsAt (upd H k o) vs rs := Paired.mapP h fun _ _ q => q.put hk
theorem cut_flat {L S : List Nat} : ∀ (t : W) (ps0 ps : List W) (w0 w : W), t.foldl (cutStep L S) (some (ps0, w0)) = some (ps, w) → ps.flatten ++ w = ps0.flatten ++ w0 ++ t ∧ ps.length ≤ ps0.length + 2 * t.length
  | [], ps0, ps, w0, w, h => by
    injection h with h
    injection h with h1 h2
    subst h1 h2
    simp
  | c :: t, ps0, ps, w0, w, h => by
    rw [List.foldl_cons] at h
    by_cases c1 : c ∈ L
    · rw [show cutStep L S (some (ps0, w0)) c = some (ps0, w0 ++ [c]) from if_pos c1] at h
      obtain ⟨h1, h2⟩ := cut_flat t _ _ _ _ h
      refine ⟨by rw [h1]; simp, ?_⟩
      rw [List.length_cons]
      omega
    · by_cases c2 : c ∈ S
      · rw [cut_sign c1 c2] at h
        obtain ⟨h1, h2⟩ := cut_flat t _ _ _ _ h
        unfold flush at h1 h2
        split at h1
        · rename_i e
          subst e
          refine ⟨by rw [h1]; simp, ?_⟩
          simp at h2 ⊢
          omega
        · rename_i e
          rw [if_neg e] at h2
          refine ⟨by rw [h1]; simp, ?_⟩
          simp at h2 ⊢
          omega
      · rw [show cutStep L S (some (ps0, w0)) c = none from by show (if c ∈ L then _ else if c ∈ S then _ else _) = _; rw [if_neg c1, if_neg c2], cut_none] at h
        cases h
theorem cut_small {L S : List Nat} {t : W} {ps : List W} (h : cutM L S t = some ps) : (∀ p ∈ ps, p.length ≤ t.length) ∧ ps.length ≤ 2 * t.length + 1 := by
  unfold cutM at h
  cases e : t.foldl (cutStep L S) (some ([], [])) with
  | none =>
    rw [e] at h
    cases h
  | some x =>
    rw [e] at h
    injection h with h
    have h : flush x.1 x.2 = ps := h
    obtain ⟨h1, h2⟩ := cut_flat t [] x.1 [] x.2 e
    have fl : ps.flatten = t := by
      rw [← h]
      unfold flush
      split
      · rename_i e2
        rw [e2] at h1
        simpa using h1
      · simpa using h1
    refine ⟨fun p hp => ?_, ?_⟩
    · rw [← fl]
      exact List.Sublist.length_le (List.sublist_flatten_of_mem hp)
    · rw [← h]
      unfold flush
      split
      · simp at h2
        omega
      · simp at h2 ⊢
        omega
theorem toS_inj {u v : W} (h : toS u = toS v) : u = v := by
  have := congrArg tl h
  exact this
theorem sv_is (u v : W) : decide (sv u = sv v) = decide (u = v) := by
  rw [decide_eq_decide]
  exact ⟨fun h => toS_inj (by injection h), fun h => by rw [h]⟩
theorem s_open : V.str "(" = sv [40] := by decide +kernel
theorem s_shut : V.str ")" = sv [41] := by decide +kernel
theorem s_comma : V.str "," = sv [44] := by decide +kernel
theorem eqV_sv (u v : W) : eqV (sv u) (sv v) = decide (u = v) := by
  show (toS u == toS v) = _
  by_cases h : u = v
  · rw [h, decide_eq_true rfl]
    exact beq_self_eq_true _
  · rw [decide_eq_false h]
    exact beq_eq_false_iff_ne.mpr fun z => h (toS_inj z)
theorem in_two (b : W) : (if false = true then !inV (sv b) [.str "(", .str ","] else inV (sv b) [.str "(", .str ","]) = decide (b = [40] ∨ b = [44]) := by
  rw [if_neg (by decide), s_open, s_comma]
  unfold inV
  rw [List.any_cons, List.any_cons, List.any_nil, eqV_sv, eqV_sv, Bool.or_false]
  by_cases h1 : b = [40]
  · subst h1
    decide
  · by_cases h2 : b = [44]
    · subst h2
      decide
    · rw [decide_eq_false (fun z => h1 z.symm), decide_eq_false (fun z => h2 z.symm), decide_eq_false (fun z => z.elim h1 h2)]
      rfl
theorem read_none : ∀ l : List W, l.foldl (readStep srt) none = none
  | [] => rfl
  | _ :: l => read_none l
abbrev sRows : Stmt := top 19
def spRows : Sp := fun vs H Q _ => ∃ t : Str, vs = [.str t] ∧ (tl t).length ≤ 30000 ∧ (∀ ps, cutM LD SG (tl t) = some ps → ∀ p ∈ ps, (spl [46] 0 [] p).length < 64) ∧
  ((cutM LD SG (tl t)).bind (readM srt) = none → ∀ H', Same H H' → Q .non H') ∧
  ∀ rs p vs H', (cutM LD SG (tl t)).bind (readM srt) = some rs → rs.length ≤ 60001 → H p = none → Same H H' → H' p = some (.lst vs) → RowsAt H' vs rs → Q (.ref p) H'
section
variable {P : Program} {w : World} {K : PySem.W.Frag} {mg : Str → Option Value} {base : Heap}
theorem scRows : FnScope ["text", "pieces", "rows", "depth", "before", "piece", "head"] ["text"] (defScope sRows) := ⟨rfl, rfl, rfl, by decide +kernel, rfl, by decide +kernel, by decide +kernel⟩
theorem ok_rows {f : Addr} {fd : FuncData} (F : Fun K "read_rows" "read_rows" sRows f fd) (T : Txt mg) (D1 : Has P w K mg base 1 "cut" ["text", "letters", "signs"] spCut) (D2 : Has P w K mg base 3 "read_head" ["text"] spHead) :
    FnOk P w K mg base CX0 4 f fd ["text"] spRows := by
  obtain ⟨uL, mL, rL⟩ := T.lets
  obtain ⟨fC, fdC, GC, mC, kC, bC⟩ := D1
  obtain ⟨fH, fdH, GH, mH, kH, bH⟩ := D2
  refine F.ok scRows (fun vs H Q E h => ?_) (fun cdv A outer s H vs Q E hr h => ?_)
  · obtain ⟨_, rfl, _⟩ := h
    rfl
  · obtain ⟨t, rfl, len, few, no, yes⟩ := h
    have hr1 : Room 1 _ := hr.mono (by decide)
    refine ⟨_, pss_cons (ps_set (i := 1) scRows.nd rfl (Or.inl rfl) (pe_call GC hr1 (by rfl) mC kC bC .nil pass0 (pa_cons (pv 0) (pa_cons (pe_op op_add_str (pe_glob (v := .str (toS lets)) (by rfl) mL rL) pe_str) (pa_cons pe_str pa_nil)))))
      (pss_cons (ps_if (pt_cmpR op_isN (pv 1) pe_non rfl) (pss_one (ps_ret pe_non)) pss_nil)
      (pss_cons (ps_set (i := 2) scRows.nd rfl (Or.inl rfl) (pe_lst pa_nil))
      (pss_cons (ps_set (i := 3) scRows.nd rfl (Or.inl rfl) pe_int)
      (pss_cons (ps_set (i := 4) scRows.nd rfl (Or.inl rfl) pe_str)
      (pss_cons (ps_for PassesOwn.never rfl (pi_list (pv 1)) (pg_name (i := 5) scRows.nd rfl (Or.inl rfl))
        (pss_cons (ps_if (pt_cmpR op_in_seq (pv 4) (pe_tup (pa_cons pe_str (pa_cons pe_str pa_nil))) rfl)
            (pss_cons (ps_set (i := 6) scRows.nd rfl (Or.inl rfl) (pe_call GH hr (by rfl) mH kH bH .nil pass0 (pa_cons (pv 5) pa_nil)))
            (pss_cons (ps_if (pt_cmpR op_isN (pv 6) pe_non rfl) (pss_one (ps_ret pe_non)) pss_nil)
            (pss_one (append_rule (pv 2) (pa_cons (pe_tup (pa_cons (pv 3) (StX.pa_star (pv 6) pa_nil))) pa_nil)))))
            (pss_one (ps_if (PW.pt (pw_and (pt_cmpR op_eq (pv 5) pe_str rfl) (pw_and1 (pt_cmpR op_ne (pv 4) pe_str rfl)))) (pss_one (ps_aug (i := 3) scRows.nd rfl (Or.inl rfl) pe_int iop_add))
            (pss_one (ps_if (PW.pt (pw_and (pt_cmpR op_eq (pv 5) pe_str rfl) (pw_and1 (pt_cmpR op_gt (pv 3) pe_int rfl)))) (pss_one (ps_aug (i := 3) scRows.nd rfl (Or.inl rfl) pe_int iop_sub))
            (pss_one (ps_if (PW.pt (pw_or (pt_cmpR op_ne (pv 5) pe_str rfl) (pw_or1 (pt_cmpR op_eq (pv 3) pe_int rfl)))) (pss_one (ps_ret pe_non)) pss_nil)))))))
        (pss_one (ps_set (i := 4) scRows.nd rfl (Or.inl rfl) (pv 5)))))
      (pss_cons (ps_if (PW.pt (pw_or (pt_cmpR op_gt (pv 3) pe_int rfl) (pw_or1 (pt_cmpR op_in_seq (pv 4) (pe_tup (pa_cons pe_str (pa_cons pe_str pa_nil))) rfl)))) (pss_one (ps_ret pe_non)) pss_nil)
      (pss_one (ps_ret (pv 2))))))))), ?_⟩
    have B := big
    have e1 : tl (toS lets ++ ".") = LD := by decide +kernel
    have e2 : tl ("(),") = SG := by decide +kernel
    refine ⟨_, rfl, _, _, rfl, rfl, by decide +kernel, t, _, _, rfl, len, ?_, ?_⟩
    · rw [e1, e2]
      intro e H1 s1
      rw [e] at no
      refine ⟨_, rfl, rfl, true, rfl, iteT ?_⟩
      exact no rfl _ s1
    rw [e1, e2]
    intro ps p H1 e hp s1 m1
    rw [e] at no yes
    obtain ⟨cs1, cs2⟩ := cut_small e
    refine ⟨_, rfl, rfl, false, rfl, iteF ?_⟩
    refine ⟨by show 0 ≤ sizeLine; decide, fun r hr0 => ?_⟩
    generalize g2 : upd H1 r _ = H2
    have s2 : Same H1 H2 := g2 ▸ same_new hr0
    have m2 : H2 r = some (.lst []) := g2 ▸ upd_same
    have pp : H2 p = some (.lst (ps.map sv)) := s2 _ _ m1
    refine ⟨_, rfl, p, rfl, ⟨_, SqL.of pp⟩, for_it (walk_list (K := K) (a := p) (xs := ps.map sv)) (fun i σ H' => ∃ d b rs vs o6 o7, (ps.take i).foldl (readStep srt) (some (0, [44], [])) = some (d, b, rs) ∧
        σ = [some (.str t), some (.ref p), some (.ref r), some (.int (d : Nat)), some (sv b), o6, o7] ∧ Same H1 H' ∧ H' r = some (.lst vs) ∧ RowsAt H' vs rs ∧ rs.length ≤ i ∧ d ≤ i)
      ⟨0, [44], [], [], none, none, rfl, rfl, s2, m2, .nil, Nat.le_refl _, Nat.le_refl _⟩ ?_ ?_ ?_⟩
    · rintro i σ H' _ ⟨_, _, _, _, _, _, _, _, s, _⟩
      exact s.seq (SqL.of m1)
    · rintro i x σ H0 H3 hi ⟨d, b, rs, vs, o6, o7, ef, rfl, s3, m3, ra, l1, l2⟩ ⟨rfl, hx⟩
      rw [List.getElem?_map] at hx
      obtain ⟨u, hu, rfl⟩ := Option.map_eq_some_iff.mp hx
      rw [List.length_map] at hi
      have st : (ps.take (i + 1)).foldl (readStep srt) (some (0, [44], [])) = readStep srt (some (d, b, rs)) u := by
        rw [List.take_succ, hu, List.foldl_append, ef]
        rfl
      have mu := List.mem_of_getElem? hu
      have bad : readStep srt (some (d, b, rs)) u = none → readM srt ps = none := fun z => by
        have : ps.foldl (readStep srt) (some (0, [44], [])) = none := by
          rw [← List.take_append_drop (i + 1) ps, List.foldl_append, st, z, read_none]
        unfold readM
        rw [this]
      refine ⟨_, rfl, by show 2 ≤ sizeLine; decide, fun q hq => ?_⟩
      generalize g4 : upd H3 q _ = H4
      have s4 : Same H3 H4 := g4 ▸ same_new hq
      have m4 : H4 q = some (.tup [.str "(", .str ","]) := g4 ▸ upd_same
      have r4 := s4 _ _ m3
      have a4 := ra.same s4
      refine ⟨q, _, rfl, .inr (.inl (.inl m4)), rfl, rfl, _, congrArg V.bl (in_two b), ?_⟩
      refine ite2 (fun c1 => ?_) (fun c1 => ?_)
      · -- a node is asked for
        have c1' := of_decide_eq_true c1
        have rs1 : readStep srt (some (d, b, rs)) u = match headM srt u with | none => none | some (k, ms) => some (d, u, rs ++ [(d, k, ms)]) := if_pos c1'
        refine ⟨_, rfl, toS u, rfl, Nat.le_trans (cs1 u mu) len, few _ e u mu, fun z H5 s5 => ?_, fun k ms p5 m5 H5 z n5 s5 t5 k5 => ?_⟩
        · refine ⟨_, rfl, rfl, true, rfl, iteT ?_⟩
          exact no (bad (by rw [rs1, show headM srt u = none from z])) _ (s1.trans (s3.trans (s4.trans s5)))
        · refine ⟨_, rfl, rfl, false, rfl, iteF ?_⟩
          refine ⟨_, rfl, .inl ⟨rfl, _, .inl (.inl (s5 _ _ r4))⟩, _, rfl, _, rfl, p5, _, rfl, .inl (.inl (.inl t5)), by show 3 ≤ sizeLine; decide, fun p6 n6 => ?_⟩
          generalize g6 : upd H5 p6 _ = H6
          have s6 : Same H5 H6 := g6 ▸ same_new n6
          have m6 : H6 p6 = some (.tup [.int (d : Nat), sv k, .ref m5]) := g6 ▸ upd_same
          have r6 := s6 _ _ (s5 _ _ r4)
          refine ⟨r, _, _, rfl, rfl, r6, ?_, ?_⟩
          · rw [a4.length]
            omega
          · refine ⟨_, rfl, ?_⟩
            refine ⟨d, u, rs ++ [(d, k, ms)], vs ++ [.ref p6], some (sv u), some (.ref p5), ?_, rfl, ?_, upd_same, ?_, ?_, by omega⟩
            · rw [st, rs1, show headM srt u = some (k, ms) from z]
            · exact same_put (s3.trans (s4.trans (s5.trans s6))) hr0
            · refine RowsAt.put r6 (Paired.snoc ((a4.same s5).same s6) ⟨p6, m5, rfl, m6, s6 _ _ k5⟩)
            · rw [List.length_append]
              show rs.length + 1 ≤ _
              omega
      · have c1' : ¬ (b = [40] ∨ b = [44]) := fun z => c1 (decide_eq_true z)
        have rs1 : readStep srt (some (d, b, rs)) u = if u = [40] ∧ b ≠ [41] then some (d + 1, u, rs) else if u = [41] ∧ 0 < d then some (d - 1, u, rs) else if u ≠ [44] ∨ d = 0 then none else some (d, u, rs) := if_neg c1'
        have q40 : decide (sv u = V.str "(") = decide (u = [40]) := by rw [s_open, sv_is]
        have q41 : decide (sv u = V.str ")") = decide (u = [41]) := by rw [s_shut, sv_is]
        have q44 : (!decide (sv u = V.str ",")) = !decide (u = [44]) := by rw [s_comma, sv_is]
        have b41 : (!decide (sv b = V.str ")")) = !decide (b = [41]) := by rw [s_shut, sv_is]
        have s14 := s3.trans s4
        have stop : readStep srt (some (d, b, rs)) u = none → Q .non H4 := fun z => no (bad z) _ (s1.trans s14)
        have nx : ∀ d', d' ≤ i + 1 → readStep srt (some (d, b, rs)) u = some (d', u, rs) → ∃ d1 b1 rs1 vs1 o61 o71, (ps.take (i + 1)).foldl (readStep srt) (some (0, [44], [])) = some (d1, b1, rs1) ∧
            [some (V.str t), some (V.ref p), some (V.ref r), some (V.int (d' : Nat)), some (sv u), some (sv u), o7] = [some (V.str t), some (V.ref p), some (V.ref r), some (V.int (d1 : Nat)), some (sv b1), o61, o71] ∧ Same H1 H4 ∧ H4 r = some (.lst vs1) ∧ RowsAt H4 vs1 rs1 ∧ rs1.length ≤ i + 1 ∧ d1 ≤ i + 1 :=
          fun d' l z => ⟨d', u, rs, vs, _, _, st.trans z, rfl, s14, r4, a4, by omega, l⟩
        refine ⟨_, rfl, rfl, _, congrArg V.bl q40, ?_⟩
        by_cases u40 : u = [40]
        · rw [decide_eq_true u40]
          refine iteT ⟨_, rfl, rfl, _, congrArg V.bl b41, ?_⟩
          by_cases bb : b = [41]
          · rw [decide_eq_true bb]
            refine iteF ⟨_, rfl, rfl, _, congrArg V.bl q41, ?_⟩
            rw [decide_eq_false (fun z => by rw [u40] at z; exact absurd z (by decide) : ¬ u = [41])]
            refine iteF (iteF ⟨_, rfl, rfl, _, congrArg V.bl q44, ?_⟩)
            have u44 : ¬ u = [44] := fun z => by rw [u40] at z; exact absurd z (by decide)
            rw [decide_eq_false u44]
            refine iteT (iteT (stop ?_))
            rw [rs1, if_neg (fun z => z.2 bb), if_neg (fun z => by rw [u40] at z; exact absurd z.1 (by decide)), if_pos (.inl u44)]
          · rw [decide_eq_false bb]
            refine iteT ⟨_, rfl, _, _, rfl, rfl, ⟨_, rfl, ?_⟩⟩
            exact nx (d + 1) (by omega) (by rw [rs1, if_pos ⟨u40, bb⟩])
        · rw [decide_eq_false u40]
          refine iteF (iteF ⟨_, rfl, rfl, _, congrArg V.bl q41, ?_⟩)
          have n1 : ¬ (u = [40] ∧ b ≠ [41]) := fun z => u40 z.1
          by_cases u41 : u = [41]
          · rw [decide_eq_true u41]
            refine iteT ⟨_, rfl, _, _, rfl, rfl, _, rfl, ?_⟩
            by_cases d0 : 0 < d
            · have d0' : (0 : Int) < ((d : Nat) : Int) := by omega
              rw [decide_eq_true d0']
              have e3 : ((d : Nat) : Int) - 1 = ((d - 1 : Nat) : Int) := by omega
              refine iteT ⟨_, rfl, _, _, rfl, rfl, ⟨_, rfl, ?_⟩⟩
              show ∃ d1 b1 rs1 vs1 o61 o71, _ ∧ [some (V.str t), some (V.ref p), some (V.ref r), some (V.int (((d : Nat) : Int) - 1)), some (sv u), some (sv u), o7] = _ ∧ _
              rw [e3]
              exact nx (d - 1) (by omega) (by rw [rs1, if_neg n1, if_pos ⟨u41, d0⟩])
            · have d0' : ¬ (0 : Int) < ((d : Nat) : Int) := by omega
              rw [decide_eq_false d0']
              refine iteF ⟨_, rfl, rfl, _, congrArg V.bl q44, ?_⟩
              have u44 : ¬ u = [44] := fun z => by rw [u41] at z; exact absurd z (by decide)
              rw [decide_eq_false u44]
              refine iteT (iteT (stop ?_))
              rw [rs1, if_neg n1, if_neg (fun z => d0 z.2), if_pos (.inl u44)]
          · rw [decide_eq_false u41]
            refine iteF (iteF ⟨_, rfl, rfl, _, congrArg V.bl q44, ?_⟩)
            by_cases u44 : u = [44]
            · rw [decide_eq_true u44]
              refine iteF ⟨_, rfl, rfl, _, rfl, ?_⟩
              by_cases d0 : d = 0
              · subst d0
                refine iteT (stop ?_)
                rw [rs1, if_neg n1, if_neg (fun z => u41 z.1), if_pos (.inr rfl)]
              · have d0' : ¬ V.int ((d : Nat) : Int) = V.int 0 := fun z => by injection z with z; omega
                rw [decide_eq_false d0']
                refine iteF ⟨_, rfl, ?_⟩
                exact nx d (by omega) (by rw [rs1, if_neg n1, if_neg (fun z => u41 z.1), if_neg (fun z => z.elim (fun z => z u44) d0)])
            · rw [decide_eq_false u44]
              refine iteT (iteT (stop ?_))
              rw [rs1, if_neg n1, if_neg (fun z => u41 z.1), if_pos (.inl u44)]
    · rintro σ H3 ⟨d, b, rs, vs, o6, o7, ef, rfl, s3, m3, ra, l1, l2⟩
      rw [List.length_map] at ef l1 l2
      have full : ps.foldl (readStep srt) (some (0, [44], [])) = some (d, b, rs) := by
        rw [List.take_length] at ef
        exact ef
      have hM : readM srt ps = if 0 < d ∨ b = [40] ∨ b = [44] then none else some rs := by
        unfold readM
        rw [full]
      refine ⟨_, rfl, _, _, rfl, rfl, _, rfl, ?_⟩
      by_cases d0 : 0 < d
      · have d0' : (0 : Int) < ((d : Nat) : Int) := by omega
        rw [decide_eq_true d0']
        refine iteT (iteT ?_)
        exact no (show readM srt ps = none by rw [hM, if_pos (.inl d0)]) _ (s1.trans s3)
      · have d0' : ¬ (0 : Int) < ((d : Nat) : Int) := by omega
        rw [decide_eq_false d0']
        refine iteF ⟨_, rfl, by show 2 ≤ sizeLine; decide, fun q hq => ?_⟩
        generalize g4 : upd H3 q _ = H4
        have s4 : Same H3 H4 := g4 ▸ same_new hq
        have m4 : H4 q = some (.tup [.str "(", .str ","]) := g4 ▸ upd_same
        refine ⟨q, _, rfl, .inr (.inl (.inl m4)), rfl, rfl, _, congrArg V.bl (in_two b), ?_⟩
        refine ite2 (fun c1 => ?_) (fun c1 => ?_)
        · exact no (show readM srt ps = none by rw [hM, if_pos (.inr (of_decide_eq_true c1))]) _ (s1.trans (s3.trans s4))
        · refine ⟨_, rfl, ?_⟩
          refine yes rs r vs _ (show readM srt ps = some rs by rw [hM, if_neg (fun z => z.elim d0 fun z => c1 (decide_eq_true z))]) (by omega) (s1.free hr0) (s1.trans (s3.trans s4)) (s4 _ _ m3) (ra.same s4)
end
end K04

namespace K04
open PySem L2 DR DM TL
theorem fold_cat (c : Nat) : ∀ (k : Nat) (a : Array Nat), ((List.replicate k (#[c] : Array Nat)).foldl (· ++ ·) a).toList = a.toList ++ List.replicate k c
  | 0, a => by simp
  | k + 1, a => by
    rw [List.replicate_succ, List.foldl_cons, fold_cat c k, List.replicate_succ]
    simp
theorem mul_one_sign (c : Nat) (n : Int) : Txt.mul ⟨#[c]⟩ n = toS (List.replicate n.toNat c) := by
  refine ext_tl ?_
  rw [tl_toS]
  unfold Txt.mul
  by_cases h : n < 1
  · rw [if_pos h, show n.toNat = 0 by omega]
    rfl
  · rw [if_neg h]
    by_cases h1 : n = 1
    · subst h1
      rfl
    · have : (n == 1 || (⟨#[c]⟩ : Str).length == 0) = false := by
        rw [beq_eq_false_iff_ne.mpr h1]
        rfl
      rw [if_neg (by rw [this]; decide)]
      show ((List.replicate n.toNat (#[c] : Array Nat)).foldl (· ++ ·) #[]).toList = _
      rw [fold_cat]
      simp
section
variable {X : Cx}
theorem op_mul_sign : OpR X (binaryOp .Mult) (fun x y H Q => ∃ (c : Nat) (n : Int), x = .str ⟨#[c]⟩ ∧ y = .int n ∧ n ≤ 1000 ∧ -1000 ≤ n ∧ Q (.str (toS (List.replicate n.toNat c))) H) := by
  intro pins s σ H x y v u Q I rx ry h
  obtain ⟨c, n, rfl, rfl, h1, h2, q⟩ := h
  obtain ⟨t, rfl⟩ := rx
  obtain ⟨t', rfl⟩ := ry
  refine SB.mul ⟨by simp; omega, fun g _ => ?_, fun g _ => ?_⟩ fun t' k => ⟨.str (toS (List.replicate n.toNat c)), H, I.tok _, ⟨_, by rw [mul_one_sign]⟩, q⟩
  · show ¬ (((1 : Nat) : Int) > (2 ^ 63 - 1) / n)
    have : 1 ≤ (2 ^ 63 - 1) / n := (Int.le_ediv_iff_mul_le (by omega)).mpr (by omega)
    omega
  · have : (⟨#[c]⟩ : Str).length * n.toNat ≤ 1000 := by
      show 1 * n.toNat ≤ 1000
      omega
    have B := big
    unfold Builtin.Str.tooLong
    simp
    omega
end
theorem join_head (k : W) : ∀ ms : List W, joinL [46] (k :: ms) = headL k ms
  | [] => by simp [joinL, headL]
  | m :: ms => by
    have ih := join_head m ms
    show k ++ ([46] ++ joinL [46] (m :: ms)) = _
    rw [ih]
    simp [headL]
theorem join_nil : ∀ l : List W, joinL [] l = l.flatten
  | [] => rfl
  | [p] => by simp [joinL]
  | p :: q :: r => by
    show p ++ ([] ++ joinL [] (q :: r)) = _
    rw [join_nil (q :: r)]
    simp
theorem sum_len : ∀ l : List W, ((l.map toS).map (·.length)).sum = l.flatten.length
  | [] => rfl
  | p :: l => by
    have ih := sum_len l
    rw [List.map_cons, List.map_cons, List.sum_cons, ih, toS_len]
    simp
theorem head_len (k : W) (ms : List W) : (headL k ms).length = (k :: ms).flatten.length + ms.length := by
  unfold headL
  induction ms generalizing k with
  | nil => simp
  | cons m ms ih =>
    have := ih k
    simp at this ⊢
    omega
theorem join_text (y : W) (l : List W) : Txt.join (toS y) (l.map toS) = toS (joinL y l) := by
  rw [join_eq]
  refine ext_tl ?_
  rw [tl_join, tl_toS, tl_toS, List.map_map]
  congr 1
  exact (List.map_congr_left fun x _ => tl_toS x).trans (List.map_id _)
theorem row_get {H : Hp} : ∀ {us : List V} {rs : List Row}, RowsAt H us rs → ∀ {i : Nat} {x : V}, us[i]? = some x → ∃ r, rs[i]? = some r ∧ RowAt H x r
  | _, _, .cons r _, 0, x, h => by
    injection h with h
    exact ⟨_, rfl, h ▸ r⟩
  | _, _, .cons _ t, i + 1, x, h => row_get t (i := i) h
  | _, _, .nil, i, x, h => by simp at h
abbrev sText : Stmt := top 21
/-- bounds that each row keeps -/
def Few (rs : List Row) : Prop := rs.length ≤ 200 ∧ ∀ r ∈ rs, r.1 ≤ 200 ∧ (headL r.2.1 r.2.2).length ≤ 5000
def spText : Sp := fun vs H Q _ => ∃ (p : Addr) (us : List V) (rs : List Row), vs = [.ref p] ∧ H p = some (.tup us) ∧ RowsAt H us rs ∧ Few rs ∧ ∀ H', Same H H' → Q (sv (outM rs)) H'
section
variable {P : Program} {w : World} {K : PySem.W.Frag} {mg : Str → Option Value} {base : Heap}
theorem scText : FnScope ["rows", "pieces", "before", "depth", "kind", "marks"] ["rows"] (defScope sText) := ⟨rfl, rfl, rfl, by decide +kernel, rfl, by decide +kernel, by decide +kernel⟩
theorem ok_text {f : Addr} {fd : FuncData} (F : Fun K "text_of" "text_of" sText f fd) : FnOk P w K mg base CX0 1 f fd ["rows"] spText := by
  refine F.ok scText (fun vs H Q E h => ?_) (fun cdv A outer s H vs Q E hr h => ?_)
  · obtain ⟨_, _, _, rfl, _⟩ := h
    rfl
  · obtain ⟨p, us, rs, rfl, hp, ra, ⟨few, small⟩, fin⟩ := h
    refine ⟨_, pss_cons (ps_set (i := 1) scText.nd rfl (Or.inl rfl) (pe_lst pa_nil))
      (pss_cons (ps_set (i := 2) scText.nd rfl (Or.inl rfl) (pe_un un_neg pe_int))
      (pss_cons (ps_for PassesOwn.never rfl (pi_tup (pv 0)) (pg_tup rfl (pgs_cons (pg_name (i := 3) scText.nd rfl (Or.inl rfl)) (pgs_cons (pg_name (i := 4) scText.nd rfl (Or.inl rfl)) (pgs_cons (pg_name (i := 5) scText.nd rfl (Or.inl rfl)) pgs_nil))))
        (pss_cons (ps_if (pt_chain op_gt op_gt (pv 3) (pv 2) (pe_un un_neg pe_int)) (pss_one (append_rule (pv 1) (pa_cons pe_str pa_nil)))
          (pss_one (ps_if (pt_cmpR op_le (pv 3) (pv 2) rfl) (pss_one (append_rule (pv 1) (pa_cons (pe_op op_add_str (pe_op op_mul_sign pe_str (pe_op op_sub (pv 2) (pv 3))) pe_str) pa_nil))) pss_nil)))
        (pss_cons (append_rule (pv 1) (pa_cons (pe_join pe_str (pe_lst (pa_cons (pv 4) (StX.pa_star (pv 5) pa_nil)))) pa_nil))
        (pss_one (ps_set (i := 2) scText.nd rfl (Or.inl rfl) (pv 3))))))
      (pss_cons (append_rule (pv 1) (pa_cons (pe_op op_mul_sign pe_str (pv 2)) pa_nil))
      (pss_one (ps_ret (pe_join pe_str (pv 1))))))), ?_⟩
    have B := big
    refine ⟨by show 0 ≤ sizeLine; decide, fun q hq => ?_⟩
    generalize g1 : upd H q _ = H1
    have s1 : Same H H1 := g1 ▸ same_new hq
    have m1 : H1 q = some (.lst []) := g1 ▸ upd_same
    refine ⟨_, rfl, _, rfl, p, rfl, ⟨_, .inl (.inl (s1 _ _ hp))⟩, for_it (walk_tup (K := K) (a := p) (xs := us)) (fun i σ H' => ∃ (b : Int) (o3 o4 o5 : Option V) (ys : List W), σ = [some (.ref p), some (.ref q), some (.int b), o3, o4, o5] ∧ Same H H' ∧ H' q = some (.lst (ys.map sv)) ∧
        (rs.take i).foldl outStep ([], -1) = (ys.flatten, b) ∧ ys.length ≤ 2 * i ∧ ys.flatten.length ≤ 5300 * i ∧ b ≤ 200 ∧ -1 ≤ b) ⟨-1, none, none, none, [], rfl, s1, m1, rfl, Nat.le_refl _, Nat.le_refl _, by decide, by decide⟩ ?_ ?_ ?_⟩
    · rintro i σ H' _ ⟨_, _, _, _, _, _, s, _⟩
      exact .inl (.inl (s _ _ hp))
    · rintro i x σ H0 H2 hi ⟨b, o3, o4, o5, ys, rfl, s2, m2, ef, l1, l2, b1, b2⟩ ⟨rfl, hx⟩
      have hi' : i < 200 := by
        have := ra.length
        omega
      obtain ⟨r, hr1, a, m, rfl, ha, hm⟩ : ∃ r, rs[i]? = some r ∧ RowAt H x r := by
        have hl : i < rs.length := by
          have := ra.length
          omega
        obtain ⟨y, hy, z⟩ := row_get ra hx
        exact ⟨y, hy, z⟩
      obtain ⟨d, k, ms⟩ := r
      obtain ⟨d1, lenH⟩ := small _ (List.mem_of_getElem? hr1)
      have hl := head_len k ms
      have st : (rs.take (i + 1)).foldl outStep ([], -1) = outStep ((rs.take i).foldl outStep ([], -1)) (d, k, ms) := by
        rw [List.take_succ, hr1, List.foldl_append]
        rfl
      have mk : H2 m = some (.tup (ms.map sv)) := s2 _ _ hm
      have lenk : ((sv k) :: (ms.map sv ++ [])).length ≤ sizeLine := by
        simp
        have : (headL k ms).length ≤ 5000 := lenH
        omega
      have lenH' : (headL k ms).length ≤ 5000 := lenH
      have lenj : (((k :: ms).map toS).map (·.length)).sum + ((k :: ms).map toS).length * Str.length "." = (headL k ms).length + 1 := by
        rw [sum_len, hl, List.length_map]
        show _ + (ms.length + 1) * 1 = _
        omega
      have headj : V.str (Txt.join "." ((k :: ms).map toS)) = sv (headL k ms) := by
        rw [show (("." : Str)) = toS [46] by decide +kernel, join_text, join_head]
        rfl
      refine ⟨a, _, rfl, .inl (.inl (s2 _ _ ha)), rfl, _, _, rfl, _, _, rfl, _, _, rfl, rfl, ?_⟩
      refine ⟨_, rfl, _, rfl, _, _, rfl, rfl, _, rfl, ?_⟩
      by_cases h1 : b < (d : Int)
      · rw [decide_eq_true h1]
        refine iteT ⟨_, rfl, _, _, rfl, rfl, _, rfl, ?_⟩
        by_cases h2 : -1 < b
        · rw [decide_eq_true h2]
          refine iteT ?_
          refine ⟨_, rfl, .inl ⟨rfl, _, .inl (.inl m2)⟩, q, _, _, rfl, rfl, m2, by rw [List.length_map]; omega, ?_⟩
          generalize g3 : upd H2 q _ = H3
          have s3 : Same H H3 := g3 ▸ same_put s2 hq
          have m3 : H3 q = some (.lst ((ys ++ [[40]]).map sv)) := g3 ▸ (upd_same.trans (by rw [List.map_append, s_open]; rfl))
          have pd : pad b d = [40] := if_pos ⟨by omega, by omega⟩
          have ly : (ys ++ [[40]]).length ≤ 2 * i + 1 := by simp; omega
          have lf : (ys ++ [[40]]).flatten.length ≤ 5300 * i + 1 := by simp at l2 ⊢; omega
          refine ⟨_, rfl, .inl ⟨rfl, _, .inl (.inl m3)⟩, ⟨".", rfl⟩, _, rfl, _, rfl, m, _, rfl, .inl (.inl (.inl (s3 _ _ hm))), lenk, fun j hj => ?_⟩
          generalize gj : upd H3 j _ = Hj
          have sj : Same H3 Hj := gj ▸ same_new hj
          have mj : Hj j = some (.lst ((k :: ms).map sv)) := gj ▸ (upd_same.trans (by rw [List.append_nil]; rfl))
          have lj := sj _ _ m3
          refine ⟨".", j, (k :: ms).map toS, rfl, rfl, .inl (SqL.of (by rw [mj, List.map_map]; rfl)), by rw [lenj]; omega, q, _, _, rfl, rfl, lj, by rw [List.length_map]; omega, ⟨_, rfl, ?_⟩⟩
          rw [headj]
          refine ⟨(d : Nat), _, _, _, (ys ++ [[40]]) ++ [headL k ms], rfl, ?_, ?_, ?_, ?_, ?_, by omega, by omega⟩
          · exact same_put (s3.trans sj) hq
          · rw [upd_same, List.map_append (l₁ := (ys ++ [[40]]))]
            rfl
          · rw [st, ef]
            show (ys.flatten ++ (pad b d ++ headL k ms), ((d : Nat) : Int)) = _
            rw [pd]
            simp
          · rw [List.length_append]
            show _ + 1 ≤ _
            omega
          · rw [List.flatten_append, List.length_append]
            simp only [List.flatten_cons, List.flatten_nil, List.append_nil]
            omega
        · rw [decide_eq_false h2]
          have pd : pad b d = [] := by
            unfold pad
            rw [if_neg (fun z => h2 (by omega)), if_neg (by omega)]
          have ly : ys.length ≤ 2 * i + 1 := by omega
          have lf : ys.flatten.length ≤ 5300 * i + 1 := by omega
          refine iteF ?_
          refine ⟨_, rfl, _, rfl, _, _, rfl, rfl, _, rfl, ?_⟩
          rw [decide_eq_false (show ¬ ((d : Nat) : Int) ≤ b by omega)]
          refine iteF ?_
          refine ⟨_, rfl, .inl ⟨rfl, _, .inl (.inl m2)⟩, ⟨".", rfl⟩, _, rfl, _, rfl, m, _, rfl, .inl (.inl (.inl (s2 _ _ hm))), lenk, fun j hj => ?_⟩
          generalize gj : upd H2 j _ = Hj
          have sj : Same H2 Hj := gj ▸ same_new hj
          have mj : Hj j = some (.lst ((k :: ms).map sv)) := gj ▸ (upd_same.trans (by rw [List.append_nil]; rfl))
          have lj := sj _ _ m2
          refine ⟨".", j, (k :: ms).map toS, rfl, rfl, .inl (SqL.of (by rw [mj, List.map_map]; rfl)), by rw [lenj]; omega, q, _, _, rfl, rfl, lj, by rw [List.length_map]; omega, ⟨_, rfl, ?_⟩⟩
          rw [headj]
          refine ⟨(d : Nat), _, _, _, ys ++ [headL k ms], rfl, ?_, ?_, ?_, ?_, ?_, by omega, by omega⟩
          · exact same_put (s2.trans sj) hq
          · rw [upd_same, List.map_append (l₁ := ys)]
            rfl
          · rw [st, ef]
            show (ys.flatten ++ (pad b d ++ headL k ms), ((d : Nat) : Int)) = _
            rw [pd]
            simp
          · rw [List.length_append]
            show _ + 1 ≤ _
            omega
          · rw [List.flatten_append, List.length_append]
            simp only [List.flatten_cons, List.flatten_nil, List.append_nil]
            omega
      · rw [decide_eq_false h1]
        refine iteF ⟨_, rfl, ?_⟩
        refine iteF ?_
        refine ⟨_, rfl, _, rfl, _, _, rfl, rfl, _, rfl, ?_⟩
        rw [decide_eq_true (show ((d : Nat) : Int) ≤ b by omega)]
        have cnt : (b - ((d : Nat) : Int)).toNat ≤ 200 := by omega
        refine iteT ⟨_, rfl, .inl ⟨rfl, _, .inl (.inl m2)⟩, _, rfl, _, rfl, _, _, rfl, rfl, 41, _, s_shut, rfl, by omega, by omega, _, _, rfl, rfl, ?_, q, _, _, rfl, rfl, m2, by rw [List.length_map]; omega, ?_⟩
        · rw [toS_len, List.length_replicate]
          show _ + 1 ≤ _
          omega
        generalize g3 : upd H2 q _ = H3
        have s3 : Same H H3 := g3 ▸ same_put s2 hq
        have e3 : toS (List.replicate (b - ((d : Nat) : Int)).toNat 41) ++ "," = toS (List.replicate (b - ((d : Nat) : Int)).toNat 41 ++ [44]) := by
          rw [show (("," : Str)) = toS [44] by decide +kernel, toS_app]
        have m3 : H3 q = some (.lst ((ys ++ [List.replicate (b - ((d : Nat) : Int)).toNat 41 ++ [44]]).map sv)) := g3 ▸ (upd_same.trans (by rw [List.map_append, e3]; rfl))
        have pd : pad b d = List.replicate (b - ((d : Nat) : Int)).toNat 41 ++ [44] := by
          unfold pad
          rw [if_neg (fun z => h1 (by omega)), if_pos (by omega)]
        have ly : (ys ++ [List.replicate (b - ((d : Nat) : Int)).toNat 41 ++ [44]]).length ≤ 2 * i + 1 := by simp; omega
        have lf : (ys ++ [List.replicate (b - ((d : Nat) : Int)).toNat 41 ++ [44]]).flatten.length ≤ 5300 * i + 201 := by
          simp at l2 ⊢
          omega
        refine ⟨_, rfl, .inl ⟨rfl, _, .inl (.inl m3)⟩, ⟨".", rfl⟩, _, rfl, _, rfl, m, _, rfl, .inl (.inl (.inl (s3 _ _ hm))), lenk, fun j hj => ?_⟩
        generalize gj : upd H3 j _ = Hj
        have sj : Same H3 Hj := gj ▸ same_new hj
        have mj : Hj j = some (.lst ((k :: ms).map sv)) := gj ▸ (upd_same.trans (by rw [List.append_nil]; rfl))
        have lj := sj _ _ m3
        refine ⟨".", j, (k :: ms).map toS, rfl, rfl, .inl (SqL.of (by rw [mj, List.map_map]; rfl)), by rw [lenj]; omega, q, _, _, rfl, rfl, lj, by rw [List.length_map]; omega, ⟨_, rfl, ?_⟩⟩
        rw [headj]
        refine ⟨(d : Nat), _, _, _, (ys ++ [List.replicate (b - ((d : Nat) : Int)).toNat 41 ++ [44]]) ++ [headL k ms], rfl, ?_, ?_, ?_, ?_, ?_, by omega, by omega⟩
        · exact same_put (s3.trans sj) hq
        · rw [upd_same, List.map_append (l₁ := (ys ++ [List.replicate (b - ((d : Nat) : Int)).toNat 41 ++ [44]]))]
          rfl
        · rw [st, ef]
          show (ys.flatten ++ (pad b d ++ headL k ms), ((d : Nat) : Int)) = _
          rw [pd]
          simp
        · rw [List.length_append]
          show _ + 1 ≤ _
          omega
        · rw [List.flatten_append, List.length_append]
          simp only [List.flatten_cons, List.flatten_nil, List.append_nil]
          omega

    · rintro σ H2 ⟨b, o3, o4, o5, ys, rfl, s2, m2, ef, l1, l2, b1, b2⟩
      have ul := ra.length
      rw [ul, List.take_length] at ef
      rw [ul] at l1 l2
      refine ⟨_, rfl, .inl ⟨rfl, _, .inl (.inl m2)⟩, _, rfl, 41, _, s_shut, rfl, by omega, by omega, q, _, _, rfl, rfl, m2, by rw [List.length_map]; omega, ?_⟩
      generalize g3 : upd H2 q _ = H3
      have s3 : Same H H3 := g3 ▸ same_put s2 hq
      have m3 : H3 q = some (.lst ((ys ++ [List.replicate b.toNat 41]).map sv)) := g3 ▸ (upd_same.trans (by rw [List.map_append]; rfl))
      refine ⟨⟨"", rfl⟩, _, rfl, "", q, (ys ++ [List.replicate b.toNat 41]).map toS, rfl, rfl, .inl (SqL.of (by rw [m3, List.map_map]; rfl)), ?_, ?_⟩
      · rw [sum_len, List.flatten_append, List.length_append]
        show _ + _ * 0 ≤ _
        simp only [List.flatten_cons, List.flatten_nil, List.append_nil, List.length_replicate]
        omega
      · rw [show (("" : Str)) = toS [] by decide +kernel, join_text, join_nil]
        have e : outM rs = (ys ++ [List.replicate b.toNat 41]).flatten := by
          unfold outM shut
          rw [ef]
          simp
        rw [e] at fin
        exact fin _ s3
end
end K04

namespace K04
open PySem L2 DR DM TL
def nv (n : Nat) : V := .int (n : Int)
def PthAt (H : Hp) (v : V) (q : Pth) : Prop := ∃ a, v = .ref a ∧ H a = some (.tup (q.map nv))
theorem PthAt.same {H H' : Hp} {v : V} {q : Pth} (s : Same H H') (h : PthAt H v q) : PthAt H' v q :=
  let ⟨a, e, h1⟩ := h
  ⟨a, e, s _ _ h1⟩
theorem PthAt.put {H : Hp} {k : Addr} {xs : List V} {o : HO} {v : V} {q : Pth} (hk : H k = some (.lst xs)) (h : PthAt H v q) : PthAt (upd H k o) v q :=
  let ⟨a, e, h1⟩ := h
  ⟨a, e, by rw [upd_ne (ne_of h1 hk (fun z => by cases z))]; exact h1⟩
abbrev PthsAt (H : Hp) (vs : List V) (qs : List Pth) : Prop := Paired (PthAt H) vs qs
theorem PthsAt.same {H H' : Hp} {vs : List V} {qs : List Pth} (s : Same H H') (h : PthsAt H vs qs) : PthsAt H' vs qs := Paired.mapP h fun _ _ q => q.same s
theorem PthsAt.put {H : Hp} {k : Addr} {xs : List V} {o : HO} {vs : List V} {qs : List Pth} (hk : H k = some (.lst xs)) (h : PthsAt H vs qs) : PthsAt (upd H k o) vs qs := Paired.mapP h fun _ _ q => q.put hk
theorem cut_to (xs : List V) (k : Nat) : cutV xs none (some (k : Int)) = xs.take k := by
  unfold cutV
  rw [HT.sIx_nat, HT.sIx_none, List.drop_zero, Nat.sub_zero]
  by_cases h : k ≤ xs.length
  · rw [Nat.min_eq_left h]
  · rw [Nat.min_eq_right (by omega), List.take_length, List.take_of_length_le (by omega)]
abbrev sPaths : Stmt := top 22
abbrev sMoved : Stmt := top 23
def spPaths : Sp := fun vs H Q _ => ∃ (p : Addr) (us : List V) (rs : List Row), vs = [.ref p] ∧ H p = some (.tup us) ∧ RowsAt H us rs ∧ rs.length ≤ 200 ∧
  ∀ q ws H', H q = none → Same H H' → H' q = some (.lst ws) → PthsAt H' ws (pathsM rs) → Q (.ref q) H'
def up (by_ : Int) (r : Row) : Row := (((r.1 : Int) + by_).toNat, r.2)
def pthInv (H : Hp) (p l : Addr) (rs : List Row) (i : Nat) (σ : L2.St) (H' : Hp) : Prop := ∃ (o3 o4 : Option V) (a : Addr) (ws : List V) (pl : List Pth) (q : Pth), σ = [some (.ref p), some (.ref l), some (.ref a), o3, o4] ∧ Same H H' ∧ H' l = some (.lst ws) ∧ PthsAt H' ws pl ∧ H' a = some (.tup (q.map nv)) ∧ (rs.take i).foldl pathStep ([], []) = (pl, q) ∧ q.length ≤ i ∧ pl.length ≤ i
def spMoved : Sp := fun vs H Q _ => ∃ (p : Addr) (us : List V) (rs : List Row) (b : Int), vs = [.ref p, .int b] ∧ H p = some (.tup us) ∧ RowsAt H us rs ∧ rs.length ≤ 200 ∧ (∀ r ∈ rs, 0 ≤ (r.1 : Int) + b) ∧
  ∀ q ws H', H q = none → Same H H' → H' q = some (.tup ws) → RowsAt H' ws (rs.map (up b)) → Q (.ref q) H'
def intV : V → Bool
  | .int _ => true
  | _ => false
def plainV : V → Bool
  | .int _ => true
  | .bl _ => true
  | .non => true
  | .str _ => true
  | _ => false
def spIsPath (K : PySem.W.Frag) : Sp := fun vs H Q _ => ∃ x : V, vs = [x] ∧ ((∃ t, TyX K H x t ∧ PySem.W.kitOne K t (.type "tuple") = some false ∧ ∀ H', Same H H' → Q (.bl false) H') ∨
  ∃ a us, x = .ref a ∧ H a = some (.tup us) ∧ us.all plainV = true ∧ us.length ≤ 1000 ∧ ∀ H', Same H H' → Q (.bl (us.all intV)) H')
section
variable {P : Program} {w : World} {K : PySem.W.Frag} {mg : Str → Option Value} {base : Heap}
theorem scPaths : FnScope ["rows", "paths", "path", "row", "depth"] ["rows"] (defScope sPaths) := ⟨rfl, rfl, rfl, by decide +kernel, rfl, by decide +kernel, by decide +kernel⟩
theorem ok_paths {f : Addr} {fd : FuncData} (F : Fun K "paths_of" "paths_of" sPaths f fd) (T : Txt mg) : FnOk P w K mg base CX0 1 f fd ["rows"] spPaths := by
  refine F.ok scPaths (fun vs H Q E h => ?_) (fun cdv A outer s H vs Q E hr h => ?_)
  · obtain ⟨_, _, _, rfl, _⟩ := h
    rfl
  · obtain ⟨p, us, rs, rfl, hp, ra, few, fin⟩ := h
    refine ⟨_, pss_cons (ps_set (i := 1) scPaths.nd rfl (Or.inl rfl) (pe_lst pa_nil))
      (pss_cons (ps_set (i := 2) scPaths.nd rfl (Or.inl rfl) (pe_tup pa_nil))
      (pss_cons (ps_for PassesOwn.never rfl (pi_tup (pv 0)) (pg_name (i := 3) scPaths.nd rfl (Or.inl rfl))
        (pss_cons (ps_set (i := 4) scPaths.nd rfl (Or.inl rfl) (pe_ix ix_tup (pv 3) pe_int (fun _ _ => rfl)))
        (pss_cons (ps_if (pt_cmpR op_gt (pv 4) (pe_callB call_len_seq (by rfl) T.len PySem.boot_len (pa_cons (pv 2) pa_nil)) rfl) (pss_one (ps_set (i := 2) scPaths.nd rfl (Or.inl rfl) (pe_tup (StX.pa_star (pv 2) (pa_cons pe_int pa_nil)))))
          (pss_one (ps_if (pt_cmpR op_gt (pv 4) pe_int rfl) (pss_one (ps_set (i := 2) scPaths.nd rfl (Or.inl rfl) (pe_tup (StX.pa_star (pe_slice sl_tupA (pv 2) po_none (po_some (pe_op op_sub (pv 4) pe_int)))
            (pa_cons (pe_op op_add (pe_ix ix_tup (pv 2) (pe_op op_sub (pv 4) pe_int) (fun _ _ => rfl)) pe_int) pa_nil))))) pss_nil)))
        (pss_one (append_rule (pv 1) (pa_cons (pv 2) pa_nil))))))
      (pss_one (ps_ret (pv 1))))), ?_⟩
    have B := big
    refine ⟨by show 0 ≤ sizeLine; decide, fun l hl => ?_⟩
    generalize g1 : upd H l _ = H1
    have s1 : Same H H1 := g1 ▸ same_new hl
    have m1 : H1 l = some (.lst []) := g1 ▸ upd_same
    refine ⟨by show 0 ≤ sizeLine; decide, fun a0 ha0 => ?_⟩
    generalize g2 : upd H1 a0 _ = H2
    have s2 : Same H1 H2 := g2 ▸ same_new ha0
    have m2 : H2 a0 = some (.tup []) := g2 ▸ upd_same
    refine ⟨_, rfl, p, rfl, ⟨_, .inl (.inl (s2 _ _ (s1 _ _ hp)))⟩, for_it (walk_tup (K := K) (a := p) (xs := us)) (pthInv H p l rs) ⟨none, none, a0, [], [], [], rfl, s1.trans s2, s2 _ _ m1, .nil, m2, rfl, Nat.le_refl _, Nat.le_refl _⟩ ?_ ?_ ?_⟩
    · rintro i σ H' _ ⟨_, _, _, _, _, _, _, s, _⟩
      exact .inl (.inl (s _ _ hp))
    · rintro i x σ H0 H3 hi ⟨o3, o4, a, ws, pl, q, rfl, s3, m3, pa, ma, ef, l1, l2⟩ ⟨rfl, hx⟩
      obtain ⟨r, hr1, ra1, rm, rfl, hra, hrm⟩ := row_get ra hx
      have ul := ra.length
      have st : (rs.take (i + 1)).foldl pathStep ([], []) = (pl ++ [next q r.1], next q r.1) := by
        rw [List.take_succ, hr1, List.foldl_append, ef]
        rfl
      have fl : H3 ra1 = some (.tup [.int (r.1 : Nat), sv r.2.1, .ref rm]) := s3 _ _ hra
      have fin1 : ∀ (D : Ends) (H4 : Hp) (b : Addr), (∀ σ H', pthInv H p l rs (i + 1) σ H' → D.nx σ H') → Same H3 H4 → H4 b = some (.tup ((next q r.1).map nv)) → (next q r.1).length ≤ i + 1 →
          tDrop (tBM K "list" rAppend (tVar 1) (tCons (tVar 2) tNil)) D [some (.ref p), some (.ref l), some (.ref b), some (.ref ra1), some (.int (r.1 : Nat))] H4 := fun D H4 b dn s4 mb lq => by
        have ml := s4 _ _ m3
        refine ⟨_, rfl, .inl ⟨rfl, _, .inl (.inl ml)⟩, _, rfl, l, _, _, rfl, rfl, ml, ?_, ?_⟩
        · rw [pa.length]
          omega
        · refine dn _ _ ⟨_, _, b, _, pl ++ [next q r.1], next q r.1, rfl, same_put (s3.trans s4) hl, upd_same, ?_, ?_, st, lq, ?_⟩
          · exact PthsAt.put ml (Paired.snoc (pa.same s4) ⟨b, rfl, mb⟩)
          · rw [upd_ne (ne_of mb ml (fun z => by cases z))]
            exact mb
          · rw [List.length_append]
            show _ + 1 ≤ _
            omega
      refine ⟨_, rfl, ra1, _, 0, _, rfl, rfl, .inl (.inl fl), atI_nat (j := 0) rfl, _, rfl, _, rfl, a, _, rfl, .inr (.inl (.inl ma)), _, _, rfl, rfl, _, rfl, ?_⟩
      rw [List.length_map]
      by_cases h1 : ((q.length : Nat) : Int) < ((r.1 : Nat) : Int)
      · rw [decide_eq_true h1]
        have nx : next q r.1 = q ++ [0] := if_pos (by omega)
        refine iteT ?_
        refine ⟨_, rfl, a, _, rfl, .inl (.inl (.inl ma)), ?_, fun b hb => ?_⟩
        · simp
          omega
        · refine fin1 _ _ b (fun _ _ z => z) (same_new hb) ?_ ?_
          · rw [upd_same, nx, List.map_append]
            rfl
          · rw [nx, List.length_append]
            show _ + 1 ≤ _
            omega
      · rw [decide_eq_false h1]
        refine iteF ?_
        refine ⟨_, rfl, _, _, rfl, rfl, _, rfl, ?_⟩
        by_cases h2 : (0 : Int) < ((r.1 : Nat) : Int)
        · rw [decide_eq_true h2]
          have nx : next q r.1 = q.take (r.1 - 1) ++ [q.getD (r.1 - 1) 0 + 1] := by
            unfold next
            rw [if_neg (by omega), if_pos (by omega)]
          have e3 : ((r.1 : Nat) : Int) - 1 = ((r.1 - 1 : Nat) : Int) := by omega
          refine iteT ?_
          have lq : (q.map nv).length = q.length := List.length_map ..
          refine ⟨_, rfl, _, rfl, _, _, rfl, rfl, _, rfl, a, _, rfl, .inl (.inl ma), fun z => ?_, fun _ b hb => ?_⟩
          · have z2 := z.2
            rw [e3, HT.sIx_nat, lq] at z2
            omega
          · rw [e3, cut_to]
            generalize g4 : upd H3 b _ = H4
            have s4 : Same H3 H4 := g4 ▸ same_new hb
            have m4 : H4 b = some (.tup ((q.map nv).take (r.1 - 1))) := g4 ▸ upd_same
            have hlt : r.1 - 1 < q.length := by omega
            refine ⟨b, _, rfl, .inl (.inl (.inl m4)), _, rfl, _, rfl, _, _, rfl, rfl, a, _, _, nv (q.getD (r.1 - 1) 0), rfl, rfl, .inl (.inl (s4 _ _ ma)), ?_, _, _, rfl, rfl, ?_, fun c hc => ?_⟩
            · rw [e3]
              refine atI_nat ?_
              rw [List.getElem?_map, List.getD_eq_getElem?_getD, List.getElem?_eq_getElem hlt]
              rfl
            · simp
              omega
            · refine fin1 _ _ c (fun _ _ z => z) (s4.trans (same_new hc)) ?_ ?_
              · rw [upd_same, nx, List.map_append, List.map_take]
                rfl
              · rw [nx, List.length_append, List.length_take]
                show _ + 1 ≤ _
                omega
        · rw [decide_eq_false h2]
          refine iteF ?_
          have nx : next q r.1 = q := by
            unfold next
            rw [if_neg (by omega), if_neg (by omega)]
          refine fin1 _ _ a (fun _ _ z => z) (Same.refl _) ?_ ?_
          · rw [nx]
            exact ma
          · rw [nx]
            omega
    · rintro σ H3 ⟨o3, o4, a, ws, pl, q, rfl, s3, m3, pa, ma, ef, l1, l2⟩
      have ul := ra.length
      rw [ul, List.take_length] at ef
      refine ⟨_, rfl, fin l ws _ hl s3 m3 ?_⟩
      unfold pathsM
      rw [ef]
      exact pa
theorem scMoved : FnScope ["rows", "by", "depth", "kind", "marks"] ["rows", "by"] (defScope sMoved) := ⟨rfl, rfl, rfl, by decide +kernel, rfl, by decide +kernel, by decide +kernel⟩
theorem ok_moved {f : Addr} {fd : FuncData} (F : Fun K "moved" "moved" sMoved f fd) (T : Txt mg) : FnOk P w K mg base CX0 1 f fd ["rows", "by"] spMoved := by
  refine F.ok scMoved (fun vs H Q E h => ?_) (fun cdv A outer s H vs Q E hr h => ?_)
  · obtain ⟨_, _, _, _, rfl, _⟩ := h
    rfl
  · obtain ⟨p, us, rs, b, rfl, hp, ra, few, pos, fin⟩ := h
    refine ⟨_, pss_one (ps_ret (pe_callTy call_tuple_of (by rfl) T.tuple (by decide +kernel) (pa_cons (pe_lc (own := [("depth", 2), ("kind", 3), ("marks", 4)]) (g := gTup K 3 (gCons (gName 2) (gCons (gName 3) (gCons (gName 4) gNil)))) (tt := tYes) rfl scMoved.nd (pi_tup (pv 0))
      (blkOk_by (N := ["rows", "by", "depth", "kind", "marks"]) (sc := defScope sMoved) (by decide +kernel)) (fun _ _ _ _ _ => pg_tup rfl (pgs_cons (pg_name (i := 2) scMoved.nd rfl (Or.inl rfl)) (pgs_cons (pg_name (i := 3) scMoved.nd rfl (Or.inl rfl)) (pgs_cons (pg_name (i := 4) scMoved.nd rfl (Or.inl rfl)) pgs_nil))))
      (fun _ _ _ _ _ => pts_nil) (fun _ _ _ _ _ => pe_tup (pa_cons (pe_op op_add (pv 2) (pv 1)) (pa_cons (pv 3) (pa_cons (pv 4) pa_nil))))) pa_nil))), ?_⟩
    have B := big
    have ul := ra.length
    refine ⟨_, rfl, p, rfl, ⟨_, .inl (.inl hp)⟩, fun D hD => lc_it (walk_tup (K := K) (a := p) (xs := us)) (fun i H' => ∃ ws, Same H H' ∧ H' D = some (.lst ws) ∧ RowsAt H' ws ((rs.take i).map (up b)))
      ⟨[], same_new hD, upd_same, .nil⟩ (fun i H' _ ⟨_, s, _⟩ => .inl (.inl (s _ _ hp))) ?_ ?_⟩
    · rintro i x H0 H1 hi ⟨ws, s1, m1, wa⟩ ⟨rfl, hx⟩
      obtain ⟨r, hr1, a, m, rfl, ha, hm⟩ := row_get ra hx
      refine ⟨a, _, rfl, .inl (.inl (s1 _ _ ha)), rfl, _, _, rfl, _, _, rfl, _, _, rfl, rfl, rfl, ?_⟩
      unfold tYes
      refine iteT ⟨_, rfl, _, rfl, _, _, rfl, rfl, _, rfl, _, rfl, by show 3 ≤ sizeLine; decide, fun c hc => ?_⟩
      generalize g2 : upd H1 c _ = H2
      have s2 : Same H1 H2 := g2 ▸ same_new hc
      have m2 : H2 c = some (.tup [.int ((r.1 : Int) + b), sv r.2.1, .ref m]) := g2 ▸ upd_same
      have md := s2 _ _ m1
      have wl := wa.length
      rw [List.length_map, List.length_take] at wl
      refine ⟨_, md, by omega, ws ++ [.ref c], same_put (s1.trans s2) hD, upd_same, ?_⟩
      rw [List.take_succ, hr1, List.map_append]
      refine RowsAt.put md (Paired.snoc (wa.same s2) ⟨c, m, rfl, ?_, s2 _ _ (s1 _ _ hm)⟩)
      rw [m2]
      have := pos r (List.mem_of_getElem? hr1)
      have e : (((r.1 : Int) + b).toNat : Int) = (r.1 : Int) + b := by omega
      show _ = some (HO.tup [.int ((((r.1 : Int) + b).toNat : Nat) : Int), sv r.2.1, .ref m])
      rw [e]
    · rintro H1 ⟨ws, s1, m1, wa⟩
      rw [ul, List.take_length] at wa
      refine ⟨D, ws, rfl, .inl ⟨SqL.of m1, fun q hq => ?_⟩⟩
      exact fin q ws _ (s1.free hq) (s1.trans (same_new hq)) upd_same (wa.same (same_new hq))
theorem scIsPath : FnScope ["value", "index"] ["value"] (defScope sIsPath) := ⟨rfl, rfl, rfl, by decide +kernel, rfl, by decide +kernel, by decide +kernel⟩
theorem kit_plain {H : Hp} {x : V} (h : plainV x = true) : ∃ t b1 b2, TyX K H x t ∧ PySem.W.kitOne K t (.type "int") = some b1 ∧ PySem.W.kitOne K t (.type "bool") = some b2 ∧ (b1 && !b2) = intV x := by
  cases x with
  | int i => exact ⟨_, true, false, .base (.int i), by rfl, by rfl, rfl⟩
  | bl i => exact ⟨_, true, true, .base (.bl i), by rfl, by rfl, rfl⟩
  | non => exact ⟨_, false, false, .base .non, by rfl, by rfl, rfl⟩
  | str i => exact ⟨_, false, false, .base (.str i), by rfl, by rfl, rfl⟩
  | _ => exact absurd h (by simp [plainV])
theorem ok_isPath {f : Addr} {fd : FuncData} (F : Fun K "is_path" "is_path" sIsPath f fd) (T : Txt mg) (D1 : Has P w K mg base 1 "is_integer" ["value"] (spInt K)) : FnOk P w K mg base CX0 2 f fd ["value"] (spIsPath K) := by
  obtain ⟨fI, fdI, GI, mI, kI, bI⟩ := D1
  refine F.ok scIsPath (fun vs H Q E h => ?_) (fun cdv A outer s H vs Q E hr h => ?_)
  · obtain ⟨_, rfl, _⟩ := h
    rfl
  · obtain ⟨x, rfl, h⟩ := h
    refine ⟨_, pss_one (ps_ret (pe_and (pe_callB call_isi (by rfl) T.isi PyProof.Rows.boot_isinstance (pa_cons (pv 0) (pa_cons (pe_bltn (v := .ty "tuple") (by rfl) T.tuple (by decide +kernel) rfl) pa_nil)))
      (pe_one (pe_callB (cr_all rfl) (by rfl) T.all PyProof.Rows.boot_all (pa_cons (pe_lc (own := [("index", 1)]) (g := gName 1) (tt := tYes) rfl scIsPath.nd (pi_tup (pv 0))
        (blkOk_by (N := ["value", "index"]) (sc := defScope sIsPath) (by decide +kernel)) (fun _ _ _ _ _ => pg_name (i := 1) scIsPath.nd rfl (Or.inl rfl)) (fun _ _ _ _ _ => pts_nil)
        (fun _ _ _ _ _ => pe_call GI hr (by rfl) mI kI bI .nil pass0 (pa_cons (pv 1) pa_nil))) pa_nil))))), ?_⟩
    rcases h with ⟨t, ty, kt, fin⟩ | ⟨a, us, rfl, ha, pl, few, fin⟩
    · exact ⟨_, rfl, x, _, t, _, false, rfl, .ty _, ty, kt, false, rfl, iteF (fin _ (Same.refl _))⟩
    · have B := big
      refine ⟨_, rfl, .ref a, _, .type "tuple", _, true, rfl, .ty _, .base (.tup ha), by rfl, true, rfl, iteT ?_⟩
      refine ⟨_, rfl, a, rfl, ⟨_, .inl (.inl ha)⟩, fun D hD => lc_it (walk_tup (K := K) (a := a) (xs := us)) (fun i H' => Same H H' ∧ H' D = some (.lst ((us.take i).map fun u => V.bl (intV u))))
        ⟨same_new hD, upd_same⟩ (fun i H' _ ⟨s, _⟩ => .inl (.inl (s _ _ ha))) ?_ ?_⟩
      · rintro i u H0 H1 hi ⟨s1, m1⟩ ⟨rfl, hx⟩
        refine ⟨rfl, ?_⟩
        unfold tYes
        obtain ⟨t, b1, b2, ty, k1, k2, e⟩ := kit_plain (K := K) (H := H1) (List.all_eq_true.mp pl u (List.mem_of_getElem? hx))
        refine iteT ⟨_, rfl, u, t, b1, b2, rfl, ty, k1, k2, _, m1, ?_, same_put s1 hD, ?_⟩
        · rw [List.length_map, List.length_take]
          omega
        · rw [upd_same, List.take_succ, hx, List.map_append, e]
          rfl
      · rintro H1 ⟨s1, m1⟩
        rw [List.take_length] at m1
        refine ⟨D, us.map intV, rfl, SqL.of (by rw [m1, List.map_map]; rfl), ?_⟩
        rw [List.all_map]
        exact fin _ s1
end
end K04

namespace K04
open PySem L2 DR DM TL
def pk (q : Pth) : List Key := q.map fun (n : Nat) => (Sum.inl (n : Int) : Key)
theorem pk_v (q : Pth) : (pk q).map kV = q.map nv := by
  unfold pk
  rw [List.map_map]
  rfl
theorem pk_inj {p q : Pth} (h : pk p = pk q) : p = q := by
  unfold pk at h
  induction p generalizing q with
  | nil =>
    cases q with
    | nil => rfl
    | cons b q => cases h
  | cons a p ih =>
    cases q with
    | nil => cases h
    | cons b q =>
      rw [List.map_cons, List.map_cons] at h
      injection h with h1 h2
      injection h1 with h1
      rw [ih h2, show a = b by omega]
/-- the dict of the places of the first i paths -/
def plc : List Pth → Nat → List (List Key × V)
  | _, 0 => []
  | qs, i + 1 => match qs[i]? with
    | some q => putK (plc qs i) (pk q) (nv i)
    | none => plc qs i
theorem putK_len {κ : Type} [DecidableEq κ] (kvs : List (κ × V)) (k : κ) (v : V) : (putK kvs k v).length ≤ kvs.length + 1 := length_putK kvs k v
theorem plc_len (qs : List Pth) : ∀ i, (plc qs i).length ≤ i
  | 0 => Nat.le_refl _
  | i + 1 => by
    have ih := plc_len qs i
    show (match qs[i]? with | some q => putK (plc qs i) (pk q) (nv i) | none => plc qs i).length ≤ _
    split
    · have := putK_len (plc qs i) (pk ‹Pth›) (nv i)
      omega
    · omega
abbrev cDoc (i : Nat) : Stmt := inClass (top 25) i
/-- a document that lies at a -/
def DocAt (C : Addr) (H : Hp) (a : Addr) (rs : List Row) : Prop := ∃ dx r p d us ws, H a = some (.ins C dx [("_rows", .ref r), ("_paths", .ref p), ("_places", .ref d), ("_text", sv (outM rs))]) ∧ H r = some (.tup us) ∧ RowsAt H us rs ∧
  H p = some (.tup ws) ∧ PthsAt H ws (pathsM rs) ∧ H d = some (.dT (plc (pathsM rs) rs.length)) ∧ Few rs
theorem DocAt.same {C a : Addr} {H H' : Hp} {rs : List Row} (s : Same H H') (h : DocAt C H a rs) : DocAt C H' a rs :=
  let ⟨dx, r, p, d, us, ws, h1, h2, h3, h4, h5, h6, h7⟩ := h
  ⟨dx, r, p, d, us, ws, s _ _ h1, s _ _ h2, h3.same s, s _ _ h4, h5.same s, s _ _ h6, h7⟩
theorem paths_len (rs : List Row) : (pathsM rs).length = rs.length := by
  have gen : ∀ (rs : List Row) (x : List Pth × Pth), (rs.foldl pathStep x).1.length = x.1.length + rs.length := fun rs => by
    induction rs with
    | nil => exact fun _ => rfl
    | cons r rs ih =>
      intro x
      rw [List.foldl_cons, ih]
      unfold pathStep
      simp
      omega
  unfold pathsM
  rw [gen]
  simp
/-- all but a stays -/
def Off (a : Addr) (H H' : Hp) : Prop := ∀ b u, b ≠ a → H b = some u → H' b = some u
theorem Off.put {a : Addr} {H : Hp} {o : HO} : Off a H (upd H a o) := fun b u n e => by rw [upd_ne n]; exact e
theorem apart_ins {H : Hp} {a b C dx : Addr} {xs : List V} {fs : List (Str × V)} (hb : H b = some (.tup xs)) (ha : H a = some (.ins C dx fs)) : b ≠ a := fun z => by
  rw [z, ha] at hb
  cases hb
theorem _root_.K04.RowAt.off {H H' : Hp} {a C dx : Addr} {fs : List (Str × V)} {v : V} {r : Row} (ha : H a = some (.ins C dx fs)) (o : Off a H H') (h : RowAt H v r) : RowAt H' v r :=
  let ⟨b, m, e, h1, h2⟩ := h
  ⟨b, m, e, o _ _ (apart_ins h1 ha) h1, o _ _ (apart_ins h2 ha) h2⟩
theorem RowsAt.off {H H' : Hp} {a C dx : Addr} {fs : List (Str × V)} {vs : List V} {rs : List Row} (h : RowsAt H vs rs) (ha : H a = some (.ins C dx fs)) (o : Off a H H') : RowsAt H' vs rs := Paired.mapP h fun _ _ q => q.off ha o
theorem PthsAt.off {H H' : Hp} {a C dx : Addr} {fs : List (Str × V)} {vs : List V} {qs : List Pth} (h : PthsAt H vs qs) (ha : H a = some (.ins C dx fs)) (o : Off a H H') : PthsAt H' vs qs :=
  Paired.mapP h fun _ _ ⟨b, e, h1⟩ => ⟨b, e, o _ _ (apart_ins h1 ha) h1⟩
theorem pth_get {H : Hp} : ∀ {us : List V} {qs : List Pth}, PthsAt H us qs → ∀ {i : Nat} {x : V}, us[i]? = some x → ∃ q, qs[i]? = some q ∧ PthAt H x q
  | _, _, .cons r _, 0, x, h => by
    injection h with h
    exact ⟨_, rfl, h ▸ r⟩
  | _, _, .cons _ t, i + 1, x, h => pth_get t (i := i) h
  | _, _, .nil, i, x, h => by simp at h
/-- what is known of the class -/
structure DCls (K : PySem.W.Frag) (mg : Str → Option Value) (C : Addr) : Prop where
  cls : Cls K C
  rows : NoAttr K C "_rows"
  paths : NoAttr K C "_paths"
  places : NoAttr K C "_places"
  text : NoAttr K C "_text"
def spInit (C : Addr) : Sp := fun vs H Q _ => ∃ (a dx p : Addr) (us : List V) (rs : List Row), vs = [.ref a, .ref p] ∧ H a = some (.ins C dx []) ∧ (H p = some (.tup us) ∨ H p = some (.lst us)) ∧ RowsAt H us rs ∧ Few rs ∧
  ∀ H', (∀ b u, b ≠ a → H b = some u → H' b = some u) → DocAt C H' a rs → Q .non H'
section
variable {P : Program} {w : World} {K : PySem.W.Frag} {mg : Str → Option Value} {base : Heap}
theorem scInit : FnScope ["self", "rows", "at", "path"] ["self", "rows"] (defScope (cDoc 0)) := ⟨rfl, rfl, rfl, by decide +kernel, rfl, by decide +kernel, by decide +kernel⟩
theorem ok_init {f C : Addr} {fd : FuncData} (F : Fun K "__init__" "Document.__init__" (cDoc 0) f fd) (T : Txt mg) (DC : DCls K mg C) (D1 : Has P w K mg base 1 "paths_of" ["rows"] spPaths) (D2 : Has P w K mg base 1 "text_of" ["rows"] spText) :
    FnOk P w K mg base CX0 2 f fd ["self", "rows"] (spInit C) := by
  obtain ⟨fP, fdP, GP, mP, kP, bP⟩ := D1
  obtain ⟨fT, fdT, GT, mT, kT, bT⟩ := D2
  refine F.ok scInit (fun vs H Q E h => ?_) (fun cdv A outer s H vs Q E hr h => ?_)
  · obtain ⟨_, _, _, _, _, rfl, _⟩ := h
    rfl
  · obtain ⟨a, dx, p, us, rs, rfl, ha, hp, ra, few, fin⟩ := h
    have hu := hr.units0
    have B := big
    refine ⟨_, pss_cons (ps_fld (pv 0) (pe_callTy call_tuple_of (by rfl) T.tuple (by decide +kernel) (pa_cons (pv 1) pa_nil)) rfl)
      (pss_cons (ps_fld (pv 0) (pe_callTy call_tuple_of (by rfl) T.tuple (by decide +kernel) (pa_cons (pe_call GP hr (by rfl) mP kP bP .nil pass0 (pa_cons (pe_fld (pv 0) rfl) pa_nil)) pa_nil)) rfl)
      (pss_cons (ps_fld (pv 0) (pe_dcT (own := [("at", 2), ("path", 3)]) (g := gTup K 2 (gCons (gName 2) (gCons (gName 3) gNil))) (tt := tYes) hu rfl scInit.nd (pi_enumT (by rfl) T.enum (pa_cons (pe_fld (pv 0) rfl) pa_nil))
          (blkOk_by (N := ["self", "rows", "at", "path"]) (sc := defScope (cDoc 0)) (by decide +kernel)) (fun _ _ _ _ _ => pg_tup rfl (pgs_cons (pg_name (i := 2) scInit.nd rfl (Or.inl rfl)) (pgs_cons (pg_name (i := 3) scInit.nd rfl (Or.inl rfl)) pgs_nil)))
          (fun _ _ _ _ _ => pts_nil) (fun _ _ _ _ _ => pv 3) (fun _ _ _ _ _ => pv 2)) rfl)
      (pss_one (ps_fld (pv 0) (pe_call GT hr (by rfl) mT kT bT .nil pass0 (pa_cons (pe_fld (pv 0) rfl) pa_nil)) rfl)))), ?_⟩
    refine ⟨_, rfl, p, us, rfl, ?_⟩
    rcases hp with m1 | hl1
    · refine .inr ⟨.inl (.inl m1), ?_⟩
      have s1 : Same H H := Same.refl H
      have a1 := s1 _ _ ha
      refine ⟨_, rfl, a, C, dx, [], rfl, a1, DC.cls, DC.rows, by simp, ?_⟩
      generalize g2 : upd H a _ = H2
      have o2 : Off a H H2 := g2 ▸ Off.put
      have a2 : H2 a = some (.ins C dx [("_rows", .ref p)]) := g2 ▸ upd_same
      have r2 : H2 p = some (.tup us) := o2 _ _ (apart_ins m1 a1) m1
      have ra2 := (ra.same s1).off a1 o2
      -- _paths
      refine ⟨_, rfl, a, C, dx, _, _, rfl, a2, DC.cls, DC.rows, rfl, p, us, rs, rfl, r2, ra2, few.1, fun q ws H3 n3 s3 t3 pa3 => ?_⟩
      refine ⟨q, ws, rfl, .inl ⟨SqL.of t3, fun l hl => ?_⟩⟩
      generalize g4 : upd H3 l _ = H4
      have s4 : Same H3 H4 := g4 ▸ same_new hl
      have l4 : H4 l = some (.tup ws) := g4 ▸ upd_same
      have s24 := s3.trans s4
      have a4 := s24 _ _ a2
      refine ⟨_, rfl, a, C, dx, _, rfl, a4, DC.cls, DC.paths, by simp, ?_⟩
      generalize g5 : upd H4 a _ = H5
      have o5 : Off a H4 H5 := g5 ▸ Off.put
      have a5 : H5 a = some (.ins C dx [("_rows", .ref p), ("_paths", .ref l)]) := g5 ▸ (upd_same.trans rfl)
      have r5 : H5 p = some (.tup us) := o5 _ _ (apart_ins (s24 _ _ r2) a4) (s24 _ _ r2)
      have ra5 := (ra2.same s24).off a4 o5
      have l5 : H5 l = some (.tup ws) := o5 _ _ (apart_ins l4 a4) l4
      have pa5 := (pa3.same s4).off a4 o5
      have pl := pa5.length
      have rl := paths_len rs
      -- _places
      refine ⟨_, rfl, a, C, dx, _, _, rfl, a5, DC.cls, DC.paths, rfl, l, ws, rfl, .inl (.inl l5), fun D hD => dcT_it (walk_enumT (K := K) (a := l) (xs := ws)) (fun i H' => Same H5 H' ∧ H' D = some (.dT (plc (pathsM rs) i)))
        ⟨same_new hD, upd_same⟩ (fun i H' _ ⟨s, _⟩ => .inl (.inl (s _ _ l5))) ?_ ?_⟩
      · rintro i x H6 H7 hi ⟨s6, m6⟩ ⟨t, x1, x2, rfl, ht, rfl, e1, e2⟩
        obtain rfl := Option.some.inj e1
        obtain ⟨y, hy, b, rfl, hb⟩ := pth_get pa5 e2
        refine ⟨t, _, rfl, .inl (.inl upd_same), rfl, _, _, rfl, _, _, rfl, rfl, rfl, ?_⟩
        unfold tYes
        have s7 : Same H6 (upd H6 t (.tup [.int (i : Nat), .ref b])) := same_new ht
        have len := plc_len (pathsM rs) i
        refine iteT ⟨_, rfl, _, rfl, b, plc (pathsM rs) i, pk y, rfl, ?_, s7 _ _ m6, ?_, same_put (s6.trans s7) hD, ?_⟩
        · rw [pk_v]
          exact s7 _ _ (s6 _ _ hb)
        · have := few.1
          omega
        · rw [upd_same, show plc (pathsM rs) (i + 1) = putK (plc (pathsM rs) i) (pk y) (nv i) by
            show (match (pathsM rs)[i]? with | some q => _ | none => _) = _
            rw [hy]]
          rfl
      · rintro H6 ⟨s6, m6⟩
        rw [pl, rl] at m6
        have a6 := s6 _ _ a5
        refine ⟨_, rfl, a, C, dx, _, rfl, a6, DC.cls, DC.places, by simp, ?_⟩
        generalize g7 : upd H6 a _ = H7
        have o7 : Off a H6 H7 := g7 ▸ Off.put
        have a7 : H7 a = some (.ins C dx [("_rows", .ref p), ("_paths", .ref l), ("_places", .ref D)]) := g7 ▸ (upd_same.trans rfl)
        have r7 : H7 p = some (.tup us) := o7 _ _ (apart_ins (s6 _ _ r5) a6) (s6 _ _ r5)
        have ra7 := (ra5.same s6).off a6 o7
        have l7 : H7 l = some (.tup ws) := o7 _ _ (apart_ins (s6 _ _ l5) a6) (s6 _ _ l5)
        have pa7 := (pa5.same s6).off a6 o7
        have d7 : H7 D = some (.dT (plc (pathsM rs) rs.length)) := o7 _ _ (fun z => by rw [z, a6] at m6; cases m6) m6
        -- _text
        refine ⟨_, rfl, a, C, dx, _, _, rfl, a7, DC.cls, DC.rows, rfl, p, us, rs, rfl, r7, ra7, few, fun H8 s8 => ?_⟩
        have a8 := s8 _ _ a7
        refine ⟨_, rfl, a, C, dx, _, rfl, a8, DC.cls, DC.text, by simp, ?_⟩
        generalize g9 : upd H8 a _ = H9
        have o9 : Off a H8 H9 := g9 ▸ Off.put
        have a9 : H9 a = some (.ins C dx [("_rows", .ref p), ("_paths", .ref l), ("_places", .ref D), ("_text", sv (outM rs))]) := g9 ▸ (upd_same.trans rfl)
        refine fin _ (fun b u nb hb => ?_) ⟨dx, p, l, D, us, ws, a9, o9 _ _ (apart_ins (s8 _ _ r7) a8) (s8 _ _ r7), (ra7.same s8).off a8 o9, o9 _ _ (apart_ins (s8 _ _ l7) a8) (s8 _ _ l7), (pa7.same s8).off a8 o9, o9 _ _ (fun z => by rw [z] at d7; rw [a7] at d7; cases d7) (s8 _ _ d7), few⟩
        exact o9 _ _ nb (s8 _ _ (o7 _ _ nb (s6 _ _ (o5 _ _ nb (s24 _ _ (o2 _ _ nb (s1 _ _ hb)))))))
    · refine .inl ⟨SqL.of hl1, fun r hr1 => ?_⟩
      generalize g1 : upd H r _ = H1
      have s1 : Same H H1 := g1 ▸ same_new hr1
      have m1 : H1 r = some (.tup us) := g1 ▸ upd_same
      have a1 := s1 _ _ ha
      refine ⟨_, rfl, a, C, dx, [], rfl, a1, DC.cls, DC.rows, by simp, ?_⟩
      generalize g2 : upd H1 a _ = H2
      have o2 : Off a H1 H2 := g2 ▸ Off.put
      have a2 : H2 a = some (.ins C dx [("_rows", .ref r)]) := g2 ▸ upd_same
      have r2 : H2 r = some (.tup us) := o2 _ _ (apart_ins m1 a1) m1
      have ra2 := (ra.same s1).off a1 o2
      -- _paths
      refine ⟨_, rfl, a, C, dx, _, _, rfl, a2, DC.cls, DC.rows, rfl, r, us, rs, rfl, r2, ra2, few.1, fun q ws H3 n3 s3 t3 pa3 => ?_⟩
      refine ⟨q, ws, rfl, .inl ⟨SqL.of t3, fun l hl => ?_⟩⟩
      generalize g4 : upd H3 l _ = H4
      have s4 : Same H3 H4 := g4 ▸ same_new hl
      have l4 : H4 l = some (.tup ws) := g4 ▸ upd_same
      have s24 := s3.trans s4
      have a4 := s24 _ _ a2
      refine ⟨_, rfl, a, C, dx, _, rfl, a4, DC.cls, DC.paths, by simp, ?_⟩
      generalize g5 : upd H4 a _ = H5
      have o5 : Off a H4 H5 := g5 ▸ Off.put
      have a5 : H5 a = some (.ins C dx [("_rows", .ref r), ("_paths", .ref l)]) := g5 ▸ (upd_same.trans rfl)
      have r5 : H5 r = some (.tup us) := o5 _ _ (apart_ins (s24 _ _ r2) a4) (s24 _ _ r2)
      have ra5 := (ra2.same s24).off a4 o5
      have l5 : H5 l = some (.tup ws) := o5 _ _ (apart_ins l4 a4) l4
      have pa5 := (pa3.same s4).off a4 o5
      have pl := pa5.length
      have rl := paths_len rs
      -- _places
      refine ⟨_, rfl, a, C, dx, _, _, rfl, a5, DC.cls, DC.paths, rfl, l, ws, rfl, .inl (.inl l5), fun D hD => dcT_it (walk_enumT (K := K) (a := l) (xs := ws)) (fun i H' => Same H5 H' ∧ H' D = some (.dT (plc (pathsM rs) i)))
        ⟨same_new hD, upd_same⟩ (fun i H' _ ⟨s, _⟩ => .inl (.inl (s _ _ l5))) ?_ ?_⟩
      · rintro i x H6 H7 hi ⟨s6, m6⟩ ⟨t, x1, x2, rfl, ht, rfl, e1, e2⟩
        obtain rfl := Option.some.inj e1
        obtain ⟨y, hy, b, rfl, hb⟩ := pth_get pa5 e2
        refine ⟨t, _, rfl, .inl (.inl upd_same), rfl, _, _, rfl, _, _, rfl, rfl, rfl, ?_⟩
        unfold tYes
        have s7 : Same H6 (upd H6 t (.tup [.int (i : Nat), .ref b])) := same_new ht
        have len := plc_len (pathsM rs) i
        refine iteT ⟨_, rfl, _, rfl, b, plc (pathsM rs) i, pk y, rfl, ?_, s7 _ _ m6, ?_, same_put (s6.trans s7) hD, ?_⟩
        · rw [pk_v]
          exact s7 _ _ (s6 _ _ hb)
        · have := few.1
          omega
        · rw [upd_same, show plc (pathsM rs) (i + 1) = putK (plc (pathsM rs) i) (pk y) (nv i) by
            show (match (pathsM rs)[i]? with | some q => _ | none => _) = _
            rw [hy]]
          rfl
      · rintro H6 ⟨s6, m6⟩
        rw [pl, rl] at m6
        have a6 := s6 _ _ a5
        refine ⟨_, rfl, a, C, dx, _, rfl, a6, DC.cls, DC.places, by simp, ?_⟩
        generalize g7 : upd H6 a _ = H7
        have o7 : Off a H6 H7 := g7 ▸ Off.put
        have a7 : H7 a = some (.ins C dx [("_rows", .ref r), ("_paths", .ref l), ("_places", .ref D)]) := g7 ▸ (upd_same.trans rfl)
        have r7 : H7 r = some (.tup us) := o7 _ _ (apart_ins (s6 _ _ r5) a6) (s6 _ _ r5)
        have ra7 := (ra5.same s6).off a6 o7
        have l7 : H7 l = some (.tup ws) := o7 _ _ (apart_ins (s6 _ _ l5) a6) (s6 _ _ l5)
        have pa7 := (pa5.same s6).off a6 o7
        have d7 : H7 D = some (.dT (plc (pathsM rs) rs.length)) := o7 _ _ (fun z => by rw [z, a6] at m6; cases m6) m6
        -- _text
        refine ⟨_, rfl, a, C, dx, _, _, rfl, a7, DC.cls, DC.rows, rfl, r, us, rs, rfl, r7, ra7, few, fun H8 s8 => ?_⟩
        have a8 := s8 _ _ a7
        refine ⟨_, rfl, a, C, dx, _, rfl, a8, DC.cls, DC.text, by simp, ?_⟩
        generalize g9 : upd H8 a _ = H9
        have o9 : Off a H8 H9 := g9 ▸ Off.put
        have a9 : H9 a = some (.ins C dx [("_rows", .ref r), ("_paths", .ref l), ("_places", .ref D), ("_text", sv (outM rs))]) := g9 ▸ (upd_same.trans rfl)
        refine fin _ (fun b u nb hb => ?_) ⟨dx, r, l, D, us, ws, a9, o9 _ _ (apart_ins (s8 _ _ r7) a8) (s8 _ _ r7), (ra7.same s8).off a8 o9, o9 _ _ (apart_ins (s8 _ _ l7) a8) (s8 _ _ l7), (pa7.same s8).off a8 o9, o9 _ _ (fun z => by rw [z] at d7; rw [a7] at d7; cases d7) (s8 _ _ d7), few⟩
        exact o9 _ _ nb (s8 _ _ (o7 _ _ nb (s6 _ _ (o5 _ _ nb (s24 _ _ (o2 _ _ nb (s1 _ _ hb)))))))
end
end K04

namespace K04
open PySem L2 DR DM TL
theorem ri {v : V} (h : v = v) : v = v := h
/-- the place behind a node and all below it -/
def endM (rs : List Row) (i : Nat) : Nat := i + 1 + ((rs.drop (i + 1)).takeWhile fun r => decide ((rs.getD i (0, [], [])).1 < r.1)).length
def depM (rs : List Row) (i : Nat) : Nat := (rs.getD i (0, [], [])).1
theorem row_at {H : Hp} : ∀ {us : List V} {rs : List Row}, RowsAt H us rs → ∀ {i : Nat}, i < rs.length → ∃ x r, us[i]? = some x ∧ rs[i]? = some r ∧ rs.getD i (0, [], []) = r ∧ RowAt H x r
  | _, _, .cons r _, 0, _ => ⟨_, _, rfl, rfl, rfl, r⟩
  | _, _, .cons _ t, i + 1, h => by
    obtain ⟨x, r, h1, h2, h3, h4⟩ := row_at t (i := i) (Nat.lt_of_succ_lt_succ h)
    exact ⟨x, r, h1, h2, h3, h4⟩
def spTextP (C : Addr) : Sp := fun vs H Q _ => ∃ a rs, vs = [.ref a] ∧ DocAt C H a rs ∧ Q (sv (outM rs)) H
def spSizeP (C : Addr) : Sp := fun vs H Q _ => ∃ a rs, vs = [.ref a] ∧ DocAt C H a rs ∧ Q (nv rs.length) H
def spHasP (K : PySem.W.Frag) (C : Addr) : Sp := fun vs H Q _ => ∃ (a : Addr) (rs : List Row) (x : V), vs = [.ref a, x] ∧ DocAt C H a rs ∧
  ((∃ t, TyX K H x t ∧ PySem.W.kitOne K t (.type "tuple") = some false ∧ ∀ H', Same H H' → Q (.bl false) H') ∨
   (∃ b us, x = .ref b ∧ H b = some (.tup us) ∧ us.all plainV = true ∧ us.length ≤ 1000 ∧ us.all intV = false ∧ ∀ H', Same H H' → Q (.bl false) H') ∨
   ∃ (b : Addr) (ks : List Int), x = .ref b ∧ H b = some (.tup (ks.map V.int)) ∧ ks.length ≤ 1000 ∧ ∀ H', Same H H' → Q (.bl (valV (plc (pathsM rs) rs.length) (ks.map fun i => (Sum.inl i : Key))).isSome) H')
def spEqP (K : PySem.W.Frag) (C : Addr) : Sp := fun vs H Q _ => ∃ (a : Addr) (rs : List Row) (x : V), vs = [.ref a, x] ∧ DocAt C H a rs ∧
  ((∃ t, TyX K H x t ∧ PySem.W.kitOne K t (.ref C) = some false ∧ Q (.bl false) H) ∨ ∃ b rs', x = .ref b ∧ DocAt C H b rs' ∧ TyX K H (.ref b) (.ref C) ∧ Q (.bl (decide (outM rs = outM rs'))) H)
def spPlaceP (C : Addr) : Sp := fun vs H Q _ => ∃ (a : Addr) (rs : List Row) (x : V) (q : Pth) (i : Nat), vs = [.ref a, x] ∧ DocAt C H a rs ∧ PthAt H x q ∧ q.length ≤ 1000 ∧ valV (plc (pathsM rs) rs.length) (pk q) = some (nv i) ∧ ∀ H', Same H H' → Q (nv i) H'
def spEndP (C : Addr) : Sp := fun vs H Q _ => ∃ (a : Addr) (rs : List Row) (i : Nat), vs = [.ref a, nv i] ∧ DocAt C H a rs ∧ i < rs.length ∧ Q (nv (endM rs i)) H
theorem all_int (ks : List Int) : (ks.map V.int).all plainV = true ∧ (ks.map V.int).all intV = true := by
  constructor <;>
  · rw [List.all_map, List.all_eq_true]
    intro k _
    rfl
section
variable {P : Program} {w : World} {K : PySem.W.Frag} {mg : Str → Option Value} {base : Heap}
theorem scTextP : FnScope ["self"] ["self"] (defScope (cDoc 1)) := ⟨rfl, rfl, rfl, by decide +kernel, rfl, by decide +kernel, by decide +kernel⟩
theorem ok_textP {f C : Addr} {fd : FuncData} (F : Fun K "text" "Document.text" (cDoc 1) f fd) (DC : DCls K mg C) : FnOk P w K mg base CX0 1 f fd ["self"] (spTextP C) := by
  refine F.ok scTextP (fun vs H Q E h => ?_) (fun cdv A outer s H vs Q E hr h => ?_)
  · obtain ⟨_, _, rfl, _⟩ := h
    rfl
  · obtain ⟨a, rs, rfl, ⟨dx, r, p, d, us, ws, h1, _⟩, fin⟩ := h
    exact ⟨_, pss_one (ps_ret (pe_fld (pv 0) rfl)), _, rfl, a, C, dx, _, _, rfl, h1, DC.cls, DC.text, rfl, fin⟩
theorem scSizeP : FnScope ["self"] ["self"] (defScope (cDoc 2)) := ⟨rfl, rfl, rfl, by decide +kernel, rfl, by decide +kernel, by decide +kernel⟩
theorem ok_sizeP {f C : Addr} {fd : FuncData} (F : Fun K "size" "Document.size" (cDoc 2) f fd) (T : Txt mg) (DC : DCls K mg C) : FnOk P w K mg base CX0 1 f fd ["self"] (spSizeP C) := by
  refine F.ok scSizeP (fun vs H Q E h => ?_) (fun cdv A outer s H vs Q E hr h => ?_)
  · obtain ⟨_, _, rfl, _⟩ := h
    rfl
  · obtain ⟨a, rs, rfl, ⟨dx, r, p, d, us, ws, h1, h2, h3, _⟩, fin⟩ := h
    refine ⟨_, pss_one (ps_ret (pe_callB call_len_seq (by rfl) T.len PySem.boot_len (pa_cons (pe_fld (pv 0) rfl) pa_nil))), _, rfl, a, C, dx, _, _, rfl, h1, DC.cls, DC.rows, rfl, r, us, rfl, .inr (.inl (.inl h2)), ?_⟩
    rw [h3.length]
    exact fin
theorem scHasP : FnScope ["self", "path"] ["self", "path"] (defScope (cDoc 4)) := ⟨rfl, rfl, rfl, by decide +kernel, rfl, by decide +kernel, by decide +kernel⟩
theorem ok_hasP {f C : Addr} {fd : FuncData} (F : Fun K "__contains__" "Document.__contains__" (cDoc 4) f fd) (DC : DCls K mg C) (D1 : Has P w K mg base 2 "is_path" ["value"] (spIsPath K)) : FnOk P w K mg base CX0 3 f fd ["self", "path"] (spHasP K C) := by
  obtain ⟨fP, fdP, GP, mP, kP, bP⟩ := D1
  refine F.ok scHasP (fun vs H Q E h => ?_) (fun cdv A outer s H vs Q E hr h => ?_)
  · obtain ⟨_, _, _, rfl, _⟩ := h
    rfl
  · obtain ⟨a, rs, x, rfl, dc, h⟩ := h
    have hu : (A.deeper (PyProof.Rows.envOfC "Document.__contains__" (defScope (cDoc 4)) s.heap.objs.size f cdv)).units + 1 < cLine := by
      have := hr.units
      omega
    refine ⟨_, pss_one (ps_ret (pe_and (pe_call GP hr (by rfl) mP kP bP .nil pass0 (pa_cons (pv 1) pa_nil)) (pe_one (pe_cmp (pc_din hu (pv 1) (pe_fld (pv 0) rfl)) rfl)))), ?_⟩
    rcases h with ⟨t, ty, kt, fin⟩ | ⟨b, us, rfl, hb, pl, few, ni, fin⟩ | ⟨b, ks, rfl, hb, few, fin⟩
    · exact ⟨_, rfl, x, rfl, .inl ⟨t, ty, kt, fun H' s1 => ⟨_, rfl, iteF (fin _ s1)⟩⟩⟩
    · refine ⟨_, rfl, _, rfl, .inr ⟨b, us, rfl, hb, pl, few, fun H' s1 => ⟨_, rfl, ?_⟩⟩⟩
      rw [ni]
      exact iteF (fin _ s1)
    · refine ⟨_, rfl, _, rfl, .inr ⟨b, _, rfl, hb, (all_int ks).1, by rw [List.length_map]; exact few, fun H' s1 => ⟨_, rfl, ?_⟩⟩⟩
      rw [(all_int ks).2]
      obtain ⟨dx, r, p, d, us, ws, h1, h2, h3, h4, h5, h6, _⟩ := dc.same s1
      have e : ks.map V.int = (ks.map fun i => (Sum.inl i : Key)).map kV := by
        rw [List.map_map]
        rfl
      refine iteT ⟨_, rfl, _, rfl, a, C, dx, _, _, rfl, h1, DC.cls, DC.places, rfl, d, _, rfl, DGet.t h6 (by rw [← e]; exact s1 _ _ hb), fin _ s1⟩
theorem scPlaceP : FnScope ["self", "path"] ["self", "path"] (defScope (cDoc 17)) := ⟨rfl, rfl, rfl, by decide +kernel, rfl, by decide +kernel, by decide +kernel⟩
/-- __contains__ as the class has it -/
structure HasIn (P : Program) (w : World) (K : PySem.W.Frag) (mg : Str → Option Value) (base : Heap) (C : Addr) : Prop where
  ex : ∃ f fd, FnOk P w K mg base CX0 3 f fd ["self", "path"] (spHasP K C) ∧ Binds K fd ["self", "path"] [] ∧ PySem.W.findIn K (.ref C) "__contains__" = some (some (.ref f)) ∧ PySem.W.isFn K (.ref f) = true
theorem ok_placeP {f C : Addr} {fd : FuncData} (F : Fun K "number_of" "Document.number_of" (cDoc 17) f fd) (DC : DCls K mg C) (D1 : HasIn P w K mg base C) : FnOk P w K mg base CX0 4 f fd ["self", "path"] (spPlaceP C) := by
  obtain ⟨fP, fdP, GP, bP, sP, iP⟩ := D1.ex
  refine F.ok scPlaceP (fun vs H Q E h => ?_) (fun cdv A outer s H vs Q E hr h => ?_)
  · obtain ⟨_, _, _, _, _, rfl, _⟩ := h
    rfl
  · obtain ⟨a, rs, x, q, i, rfl, dc, ⟨b, rfl, hb⟩, few, at_, fin⟩ := h
    have hu : (A.deeper (PyProof.Rows.envOfC "Document.number_of" (defScope (cDoc 17)) s.heap.objs.size f cdv)).units + 1 < cLine := by
      have := hr.units
      omega
    refine ⟨_, pss_cons (ps_if (pt_cmpR (op_notInM GP hr bP sP iP pass0) (pv 1) (pv 0) rfl) (pss_one ps_never) pss_nil)
      (pss_one (ps_ret (pe_dget hu (pe_fld (pv 0) rfl) (pv 1) (by intro _ _; rfl)))), ?_⟩
    obtain ⟨dx, r, p, d, us, ws, h1, _⟩ := id dc
    have e : (q.map nv) = (q.map fun (n : Nat) => ((n : Int))).map V.int := by
      rw [List.map_map]
      rfl
    have ek : (q.map fun (n : Nat) => ((n : Int))).map (fun i => (Sum.inl i : Key)) = pk q := by
      rw [List.map_map]
      rfl
    refine ⟨_, rfl, _, rfl, a, dx, _, rfl, h1, a, rs, _, rfl, dc, .inr (.inr ⟨b, q.map fun (n : Nat) => ((n : Int)), rfl, by rw [hb, e], by rw [List.length_map]; exact few, fun H' s1 => ⟨_, rfl, ?_⟩⟩)⟩
    rw [ek, at_]
    refine ⟨_, rfl, iteF ?_⟩
    obtain ⟨dx, r, p, d, us, ws, h1, h2, h3, h4, h5, h6, _⟩ := dc.same s1
    refine ⟨_, rfl, a, C, dx, _, _, rfl, h1, DC.cls, DC.places, rfl, _, rfl, d, nv i, rfl, ?_, fin _ s1⟩
    rw [← at_]
    exact DGet.t h6 (by rw [pk_v]; exact s1 _ _ hb)
end
end K04

namespace K04
open PySem L2 DR DM TL
theorem tw_len {α : Type} {p : α → Bool} : ∀ (l : List α) (k : Nat), (∀ j, j < k → ∃ x, l[j]? = some x ∧ p x = true) → (∀ x, l[k]? = some x → p x = false) → (l.takeWhile p).length = k
  | [], 0, _, _ => rfl
  | [], k + 1, h, _ => by
    obtain ⟨x, h1, _⟩ := h 0 (Nat.succ_pos k)
    cases h1
  | x :: l, 0, _, h => by
    have := h x rfl
    rw [List.takeWhile_cons, this]
    rfl
  | x :: l, k + 1, h1, h2 => by
    obtain ⟨y, e, px⟩ := h1 0 (Nat.succ_pos k)
    injection e with e
    subst e
    rw [List.takeWhile_cons, px, if_pos rfl, List.length_cons, tw_len l k (fun j hj => h1 (j + 1) (by omega)) fun y hy => h2 y hy]
theorem end_is {rs : List Row} {i e : Nat} (h0 : i + 1 ≤ e) (h1 : e ≤ rs.length) (h2 : ∀ j, i < j → j < e → depM rs i < depM rs j) (h3 : e < rs.length → ¬ depM rs i < depM rs e) : endM rs i = e := by
  have get : ∀ j, j < rs.length → rs[j]? = some (rs.getD j (0, [], [])) := fun j hj => by
    rw [List.getD_eq_getElem?_getD, List.getElem?_eq_getElem hj]
    rfl
  have t := tw_len (p := fun r : Row => decide ((rs.getD i (0, [], [])).1 < r.1)) (rs.drop (i + 1)) (e - (i + 1)) (fun j hj => ⟨_, by rw [List.getElem?_drop]; exact get _ (by omega), decide_eq_true (h2 _ (by omega) (by omega))⟩) fun x hx => by
    rw [List.getElem?_drop, show i + 1 + (e - (i + 1)) = e by omega] at hx
    have lt : e < rs.length := (List.getElem?_eq_some_iff.mp hx).1
    rw [get e lt] at hx
    injection hx with hx
    rw [← hx]
    exact decide_eq_false (h3 lt)
  unfold endM
  omega
def kidsM (rs : List Row) (i : Nat) : List Nat := ((List.range (endM rs i - (i + 1))).map (i + 1 + ·)).filter fun j => decide (depM rs j = depM rs i + 1)
theorem end_le (rs : List Row) (i : Nat) (h : i < rs.length) : i + 1 ≤ endM rs i ∧ endM rs i ≤ rs.length := by
  unfold endM
  have := (List.takeWhile_sublist (fun r : Row => decide ((rs.getD i (0, [], [])).1 < r.1)) (l := rs.drop (i + 1))).length_le
  rw [List.length_drop] at this
  omega
def spKidsP (C : Addr) : Sp := fun vs H Q _ => ∃ (a : Addr) (rs : List Row) (i : Nat), vs = [.ref a, nv i] ∧ DocAt C H a rs ∧ i < rs.length ∧ ∀ D H', H D = none → Same H H' → H' D = some (.lst ((kidsM rs i).map nv)) → Q (.ref D) H'
def spKindP (C : Addr) : Sp := fun vs H Q _ => ∃ (a : Addr) (rs : List Row) (x : V) (q : Pth) (i : Nat), vs = [.ref a, x] ∧ DocAt C H a rs ∧ PthAt H x q ∧ q.length ≤ 1000 ∧ i < rs.length ∧ valV (plc (pathsM rs) rs.length) (pk q) = some (nv i) ∧
  ∀ H', Same H H' → Q (sv (rs.getD i (0, [], [])).2.1) H'
def spMarksP (C : Addr) : Sp := fun vs H Q _ => ∃ (a : Addr) (rs : List Row) (x : V) (q : Pth) (i : Nat), vs = [.ref a, x] ∧ DocAt C H a rs ∧ PthAt H x q ∧ q.length ≤ 1000 ∧ i < rs.length ∧ valV (plc (pathsM rs) rs.length) (pk q) = some (nv i) ∧
  ∀ m H', Same H H' → H' m = some (.tup ((rs.getD i (0, [], [])).2.2.map sv)) → Q (.ref m) H'
def spWidthP (C : Addr) : Sp := fun vs H Q _ => ∃ (a : Addr) (rs : List Row) (x : V) (q : Pth) (i : Nat), vs = [.ref a, x] ∧ DocAt C H a rs ∧ PthAt H x q ∧ q.length ≤ 1000 ∧ i < rs.length ∧ valV (plc (pathsM rs) rs.length) (pk q) = some (nv i) ∧
  ∀ H', Same H H' → Q (nv (kidsM rs i).length) H'
section
variable {P : Program} {w : World} {K : PySem.W.Frag} {mg : Str → Option Value} {base : Heap}
theorem scEndP : FnScope ["self", "at", "end"] ["self", "at"] (defScope (cDoc 18)) := ⟨rfl, rfl, rfl, by decide +kernel, rfl, by decide +kernel, by decide +kernel⟩
theorem ok_endP {f C : Addr} {fd : FuncData} (F : Fun K "_end" "Document._end" (cDoc 18) f fd) (T : Txt mg) (DC : DCls K mg C) : FnOk P w K mg base CX0 1 f fd ["self", "at"] (spEndP C) := by
  refine F.ok scEndP (fun vs H Q E h => ?_) (fun cdv A outer s H vs Q E hr h => ?_)
  · obtain ⟨_, _, _, rfl, _⟩ := h
    rfl
  · obtain ⟨a, rs, i, rfl, ⟨dx, r, p, d, us, ws, h1, h2, h3, _⟩, hi, fin⟩ := h
    refine ⟨_, pss_cons (ps_set (i := 2) scEndP.nd rfl (Or.inl rfl) (pe_op op_add (pv 1) pe_int))
      (pss_cons (ps_while PassesOwn.never (PW.pt (pw_and (pt_cmpR op_lt (pv 2) (pe_callB call_len_seq (by rfl) T.len PySem.boot_len (pa_cons (pe_fld (pv 0) rfl) pa_nil)) rfl)
          (pw_and1 (pt_cmpR op_gt (pe_ix ix_tup (pe_ix ix_tup (pe_fld (pv 0) rfl) (pv 2) (fun _ _ => rfl)) pe_int (fun _ _ => rfl)) (pe_ix ix_tup (pe_ix ix_tup (pe_fld (pv 0) rfl) (pv 1) (fun _ _ => rfl)) pe_int (fun _ _ => rfl)) rfl))))
        (pss_one (ps_aug (i := 2) scEndP.nd rfl (Or.inl rfl) pe_int iop_add)))
      (pss_one (ps_ret (pv 2)))), ?_⟩
    have ul := h3.length
    obtain ⟨x0, r0, ux0, rx0, g0, a0, m0, rfl, ha0, _⟩ := row_at h3 hi
    have dep0 : depM rs i = r0.1 := congrArg Prod.fst g0
    refine ⟨_, rfl, _, _, rfl, rfl, fun m σ H' => ∃ e, σ = [some (.ref a), some (nv i), some (nv e)] ∧ H = H' ∧ m + e = rs.length ∧ i + 1 ≤ e ∧ ∀ j, i < j → j < e → depM rs i < depM rs j, ⟨rs.length - (i + 1), i + 1, rfl, rfl, by omega, Nat.le_refl _, fun j h1 h2 => by omega⟩, ?_⟩
    rintro m σ H' ⟨e, rfl, rfl, em, le, all⟩
    refine ⟨_, rfl, _, rfl, a, C, dx, _, _, rfl, h1, DC.cls, DC.rows, rfl, r, us, rfl, .inr (.inl (.inl h2)), _, _, rfl, rfl, _, rfl, ?_⟩
    rw [ul]
    by_cases c1 : e < rs.length
    · rw [decide_eq_true (show ((e : Nat) : Int) < ((rs.length : Nat) : Int) by omega)]
      obtain ⟨x1, r1, ux1, rx1, g1, a1, m1, rfl, ha1, _⟩ := row_at h3 c1
      have dep1 : depM rs e = r1.1 := congrArg Prod.fst g1
      refine iteT ⟨_, rfl, a, C, dx, _, _, rfl, h1, DC.cls, DC.rows, rfl, _, rfl, r, us, _, _, rfl, rfl, .inl (.inl h2), atI_nat ux1, a1, _, 0, _, rfl, rfl, .inl (.inl ha1), atI_nat (j := 0) rfl,
        _, rfl, a, C, dx, _, _, rfl, h1, DC.cls, DC.rows, rfl, _, rfl, r, us, _, _, rfl, rfl, .inl (.inl h2), atI_nat ux0, a0, _, 0, _, rfl, rfl, .inl (.inl ha0), atI_nat (j := 0) rfl, _, _, rfl, rfl, _, rfl, ?_⟩
      by_cases c2 : depM rs i < depM rs e
      · rw [decide_eq_true (show ((r0.1 : Nat) : Int) < ((r1.1 : Nat) : Int) by omega)]
        refine iteT ⟨fun σ H' => ∃ e', σ = [some (.ref a), some (nv i), some (nv e')] ∧ H = H' ∧ e' = e + 1, ?_, ⟨_, rfl, _, _, rfl, rfl, e + 1, rfl, rfl, rfl⟩⟩
        rintro σ' H'' ⟨_, rfl, rfl, rfl⟩
        refine ⟨m - 1, by omega, e + 1, rfl, rfl, by omega, by omega, fun j h1 h2 => ?_⟩
        rcases Nat.lt_or_ge j e with q | q
        · exact all j h1 q
        · have : j = e := by omega
          rw [this]
          exact c2
      · rw [decide_eq_false (show ¬ ((r0.1 : Nat) : Int) < ((r1.1 : Nat) : Int) by omega)]
        refine iteF ⟨_, rfl, ?_⟩
        rw [← end_is le (by omega) all fun _ => c2]
        exact fin
    · rw [decide_eq_false (show ¬ ((e : Nat) : Int) < ((rs.length : Nat) : Int) by omega)]
      refine iteF (iteF ⟨_, rfl, ?_⟩)
      rw [← end_is le (by omega) all fun z => absurd z c1]
      exact fin
theorem scKidsP : FnScope ["self", "at", "depth", "place"] ["self", "at"] (defScope (cDoc 19)) := ⟨rfl, rfl, rfl, by decide +kernel, rfl, by decide +kernel, by decide +kernel⟩
theorem ok_kidsP {f C : Addr} {fd : FuncData} (F : Fun K "_children" "Document._children" (cDoc 19) f fd) (T : Txt mg) (DC : DCls K mg C) (D1 : C8.Met P w K mg base 1 C "_end" (spEndP C) []) : FnOk P w K mg base CX0 2 f fd ["self", "at"] (spKidsP C) := by
  refine F.ok scKidsP (fun vs H Q E h => ?_) (fun cdv A outer s H vs Q E hr h => ?_)
  · obtain ⟨_, _, _, rfl, _⟩ := h
    rfl
  · obtain ⟨a, rs, i, rfl, dc, hi, fin⟩ := h
    refine ⟨_, pss_cons (ps_set (i := 2) scKidsP.nd rfl (Or.inr rfl) (pe_op op_add (pe_ix ix_tup (pe_ix ix_tup (pe_fld (pv 0) rfl) (pv 1) (fun _ _ => rfl)) pe_int (fun _ _ => rfl)) pe_int))
      (pss_one (ps_ret (pe_lc (own := [("place", 3)]) (g := gName 3) (tt := tTest (tOp rEq (tOp (rIxT K) (tOp (rIxT K) (tFld K (tVar 0) "_rows") (tVar 3)) (tC (.int 0))) (tVar 2))) rfl scKidsP.nd
        (pi_range2 (by rfl) T.range (pa_cons (pe_op op_add (pv 1) pe_int) (pa_cons (C8.pe_mt D1 hr (Nat.le_refl _) (pv 0) (pa_cons (pv 1) pa_nil)) pa_nil)))
        (blkOk_by (N := ["self", "at", "depth", "place"]) (sc := defScope (cDoc 19)) (by decide +kernel)) (fun _ _ _ _ _ => pg_name (i := 3) scKidsP.nd rfl (Or.inl rfl))
        (fun _ _ _ _ _ => pts_one (pt_cmpR op_eq (pe_ix ix_tup (pe_ix ix_tup (pe_fld (pv 0) rfl) (pv 3) (fun _ _ => rfl)) pe_int (fun _ _ => rfl)) (pv 2) rfl)) (fun _ _ _ _ _ => pv 3)))), ?_⟩
    obtain ⟨dx, r, p, d, us, ws, h1, h2, h3, _⟩ := id dc
    obtain ⟨x0, r0, ux0, rx0, g0, a0, m0, rfl, ha0, _⟩ := row_at h3 hi
    have dep0 : depM rs i = r0.1 := congrArg Prod.fst g0
    obtain ⟨el, eu⟩ := end_le rs i hi
    have B := big
    obtain ⟨_, _, _, _, _, _, _, _, _, _, _, _, few⟩ := id dc
    refine ⟨_, rfl, a, C, dx, _, _, rfl, h1, DC.cls, DC.rows, rfl, _, rfl, r, us, _, _, rfl, rfl, .inl (.inl h2), atI_nat ux0, a0, _, 0, _, rfl, rfl, .inl (.inl ha0), atI_nat (j := 0) rfl, _, _, rfl, rfl, ?_⟩
    refine ⟨_, rfl, _, _, rfl, rfl, _, rfl, a, dx, _, rfl, h1, rfl, _, rfl, a, rs, i, rfl, dc, hi, ?_⟩
    have f1 := few.1
    have en : ((((endM rs i : Nat) : Int)) - (((i : Nat) : Int) + 1)).toNat = endM rs i - (i + 1) := by omega
    refine ⟨_, _, rfl, ⟨by omega, by omega, by omega, by omega⟩, fun D hD => ?_⟩
    rw [en]
    refine lc_it (walk_range (lo := ((i : Nat) : Int) + 1) (n := endM rs i - (i + 1))) (fun j H' => Same H H' ∧ H' D = some (.lst ((((List.range j).map (i + 1 + ·)).filter fun j => decide (depM rs j = depM rs i + 1)).map nv)))
      ⟨same_new hD, upd_same⟩ (fun _ _ _ _ => trivial) ?_ ?_
    · rintro j x H6 H7 hj ⟨s6, m6⟩ ⟨rfl, rfl⟩
      have ij : ((i : Nat) : Int) + 1 + ((j : Nat) : Int) = ((i + 1 + j : Nat) : Int) := by omega
      show gName 3 (V.int (((i : Nat) : Int) + 1 + ((j : Nat) : Int))) _ _ _
      rw [ij]
      obtain ⟨x1, r1, ux1, rx1, g1, a1, m1, rfl, ha1, _⟩ := row_at h3 (show i + 1 + j < rs.length by omega)
      have dep1 : depM rs (i + 1 + j) = r1.1 := congrArg Prod.fst g1
      refine ⟨rfl, ?_⟩
      refine ⟨_, rfl, a, C, dx, _, _, rfl, s6 _ _ h1, DC.cls, DC.rows, rfl, _, rfl, r, us, _, _, rfl, rfl, .inl (.inl (s6 _ _ h2)), atI_nat ux1, a1, _, 0, _, rfl, rfl, .inl (.inl (s6 _ _ ha1)), atI_nat (j := 0) rfl, _, rfl, rfl, _, rfl, ?_⟩
      have same_test : decide (V.int ((r1.1 : Nat) : Int) = V.int (((r0.1 : Nat) : Int) + 1)) = decide (depM rs (i + 1 + j) = depM rs i + 1) := by
        rw [decide_eq_decide, dep0, dep1]
        exact ⟨fun z => by injection z with z; omega, fun z => by rw [z]; rfl⟩
      have next : ((List.range (j + 1)).map (i + 1 + ·)).filter (fun j => decide (depM rs j = depM rs i + 1)) = ((List.range j).map (i + 1 + ·)).filter (fun j => decide (depM rs j = depM rs i + 1)) ++ (if depM rs (i + 1 + j) = depM rs i + 1 then [i + 1 + j] else []) := by
        rw [List.range_succ, List.map_append, List.filter_append]
        congr 1
        by_cases c : depM rs (i + 1 + j) = depM rs i + 1
        · simp [c]
        · simp [c]
      show if decide (V.int ((r1.1 : Nat) : Int) = V.int (((r0.1 : Nat) : Int) + 1)) = true then _ else _
      rw [same_test]
      by_cases c : depM rs (i + 1 + j) = depM rs i + 1
      · rw [decide_eq_true c]
        refine iteT ⟨_, rfl, _, m6, ?_, same_put s6 hD, ?_⟩
        · rw [List.length_map]
          have := List.length_filter_le (fun j => decide (depM rs j = depM rs i + 1)) ((List.range j).map (i + 1 + ·))
          rw [List.length_map, List.length_range] at this
          omega
        · rw [upd_same, next, if_pos c, List.map_append]
          rfl
      · rw [decide_eq_false c]
        refine iteF ⟨s6, ?_⟩
        rw [next, if_neg c, List.append_nil]
        exact m6
    · rintro H6 ⟨s6, m6⟩
      exact fin D _ hD s6 m6
end
end K04

namespace K04
open PySem L2 DR DM TL
/-- the rows of a part, as they stand by themselves -/
def partM (rs : List Row) (i : Nat) : List Row := (((rs.drop i).take (endM rs i - i)).map (up (-(depM rs i : Int))))
def spPartP (C : Addr) : Sp := fun vs H Q _ => ∃ (a : Addr) (rs : List Row) (x : V) (q : Pth) (i : Nat), vs = [.ref a, x] ∧ DocAt C H a rs ∧ PthAt H x q ∧ q.length ≤ 1000 ∧ i < rs.length ∧ valV (plc (pathsM rs) rs.length) (pk q) = some (nv i) ∧
  ∀ b H', Same H H' → DocAt C H' b (partM rs i) → Q (.ref b) H'
def spParse (C : Addr) : Sp := fun vs H Q _ => ∃ (t : Str) (rs : List Row), vs = [.str t] ∧ (tl t).length ≤ 30000 ∧ (∀ ps, cutM LD SG (tl t) = some ps → ∀ p ∈ ps, (spl [46] 0 [] p).length < 64) ∧ (cutM LD SG (tl t)).bind (readM srt) = some rs ∧ Few rs ∧
  ∀ b H', Same H H' → DocAt C H' b rs → Q (.ref b) H'
theorem paired_take {α β : Type} {F : α → β → Prop} : ∀ {xs : List α} {ys : List β}, Paired F xs ys → ∀ n, Paired F (xs.take n) (ys.take n)
  | _, _, .nil, n => by
    rw [List.take_nil, List.take_nil]
    exact .nil
  | _, _, .cons _ _, 0 => .nil
  | _, _, .cons h t, n + 1 => .cons h (paired_take t n)
theorem paired_drop {α β : Type} {F : α → β → Prop} : ∀ {xs : List α} {ys : List β}, Paired F xs ys → ∀ n, Paired F (xs.drop n) (ys.drop n)
  | _, _, .nil, n => by
    rw [List.drop_nil, List.drop_nil]
    exact .nil
  | _, _, .cons h t, 0 => .cons h t
  | _, _, .cons _ t, n + 1 => paired_drop t n
abbrev nvi (n : Nat) : Int := (n : Int)
theorem few_part {rs : List Row} (f : Few rs) (i : Nat) : Few (partM rs i) := by
  obtain ⟨h1, h2⟩ := f
  unfold partM
  refine ⟨?_, fun r hr => ?_⟩
  · rw [List.length_map, List.length_take, List.length_drop]
    omega
  · obtain ⟨r', m, rfl⟩ := List.mem_map.mp hr
    obtain ⟨g1, g2⟩ := h2 r' (List.mem_of_mem_drop (List.mem_of_mem_take m))
    refine ⟨?_, g2⟩
    show ((r'.1 : Int) + -(depM rs i : Int)).toNat ≤ 200
    omega
theorem part_deep {rs : List Row} {i : Nat} (hi : i < rs.length) : ∀ r ∈ (rs.drop i).take (endM rs i - i), depM rs i ≤ r.1 := by
  have hd : rs.drop i = rs.getD i (0, [], []) :: rs.drop (i + 1) := by
    rw [List.drop_eq_getElem_cons hi, List.getD_eq_getElem?_getD, List.getElem?_eq_getElem hi]
    rfl
  have len : endM rs i - i = ((rs.drop (i + 1)).takeWhile fun r => decide (depM rs i < r.1)).length + 1 := by
    show i + 1 + ((rs.drop (i + 1)).takeWhile fun r => decide (depM rs i < r.1)).length - i = _
    omega
  intro r hr
  rw [len, hd, List.take_succ_cons] at hr
  rcases List.mem_cons.mp hr with e | hr
  · exact Nat.le_of_eq (congrArg Prod.fst e).symm
  · have tk : (rs.drop (i + 1)).take ((rs.drop (i + 1)).takeWhile fun r => decide (depM rs i < r.1)).length = (rs.drop (i + 1)).takeWhile fun r => decide (depM rs i < r.1) := by
      exact (List.prefix_iff_eq_take.mp (List.takeWhile_prefix _)).symm
    rw [tk] at hr
    have := List.all_eq_true.mp (List.all_takeWhile (p := fun r : Row => decide (depM rs i < r.1)) (l := rs.drop (i + 1))) r hr
    exact Nat.le_of_lt (of_decide_eq_true this)
section
variable {P : Program} {w : World} {K : PySem.W.Frag} {mg : Str → Option Value} {base : Heap}
theorem scKindP : FnScope ["self", "path"] ["self", "path"] (defScope (cDoc 8)) := ⟨rfl, rfl, rfl, by decide +kernel, rfl, by decide +kernel, by decide +kernel⟩
theorem ok_kindP {f C : Addr} {fd : FuncData} (F : Fun K "kind" "Document.kind" (cDoc 8) f fd) (DC : DCls K mg C) (D1 : C8.Met P w K mg base 4 C "number_of" (spPlaceP C) []) : FnOk P w K mg base CX0 5 f fd ["self", "path"] (spKindP C) := by
  refine F.ok scKindP (fun vs H Q E h => ?_) (fun cdv A outer s H vs Q E hr h => ?_)
  · obtain ⟨_, _, _, _, _, rfl, _⟩ := h
    rfl
  · obtain ⟨a, rs, x, q, i, rfl, dc, px, few, hi, at_, fin⟩ := h
    refine ⟨_, pss_one (ps_ret (pe_ix ix_tup (pe_ix ix_tup (pe_fld (pv 0) rfl) (C8.pe_mt D1 hr (Nat.le_refl _) (pv 0) (pa_cons (pv 1) pa_nil)) (fun _ _ => rfl)) pe_int (fun _ _ => rfl))), ?_⟩
    obtain ⟨dx, r, p, d, us, ws, h1, h2, h3, _⟩ := id dc
    obtain ⟨x1, r1, ux1, rx1, g1, a1, m1, rfl, ha1, hm1⟩ := row_at h3 hi
    refine ⟨_, rfl, a, C, dx, _, _, rfl, h1, DC.cls, DC.rows, rfl, _, rfl, a, dx, _, rfl, h1, rfl, _, rfl, a, rs, x, q, i, rfl, dc, px, few, at_, fun H' s1 => ?_⟩
    refine ⟨r, us, _, _, rfl, rfl, .inl (.inl (s1 _ _ h2)), atI_nat ux1, a1, _, 1, _, rfl, rfl, .inl (.inl (s1 _ _ ha1)), atI_nat (j := 1) rfl, ?_⟩
    have := fin _ s1
    rw [g1] at this
    exact this
theorem scMarksP : FnScope ["self", "path"] ["self", "path"] (defScope (cDoc 9)) := ⟨rfl, rfl, rfl, by decide +kernel, rfl, by decide +kernel, by decide +kernel⟩
theorem ok_marksP {f C : Addr} {fd : FuncData} (F : Fun K "marks" "Document.marks" (cDoc 9) f fd) (DC : DCls K mg C) (D1 : C8.Met P w K mg base 4 C "number_of" (spPlaceP C) []) : FnOk P w K mg base CX0 5 f fd ["self", "path"] (spMarksP C) := by
  refine F.ok scMarksP (fun vs H Q E h => ?_) (fun cdv A outer s H vs Q E hr h => ?_)
  · obtain ⟨_, _, _, _, _, rfl, _⟩ := h
    rfl
  · obtain ⟨a, rs, x, q, i, rfl, dc, px, few, hi, at_, fin⟩ := h
    refine ⟨_, pss_one (ps_ret (pe_ix ix_tup (pe_ix ix_tup (pe_fld (pv 0) rfl) (C8.pe_mt D1 hr (Nat.le_refl _) (pv 0) (pa_cons (pv 1) pa_nil)) (fun _ _ => rfl)) pe_int (fun _ _ => rfl))), ?_⟩
    obtain ⟨dx, r, p, d, us, ws, h1, h2, h3, _⟩ := id dc
    obtain ⟨x1, r1, ux1, rx1, g1, a1, m1, rfl, ha1, hm1⟩ := row_at h3 hi
    refine ⟨_, rfl, a, C, dx, _, _, rfl, h1, DC.cls, DC.rows, rfl, _, rfl, a, dx, _, rfl, h1, rfl, _, rfl, a, rs, x, q, i, rfl, dc, px, few, at_, fun H' s1 => ?_⟩
    refine ⟨r, us, _, _, rfl, rfl, .inl (.inl (s1 _ _ h2)), atI_nat ux1, a1, _, 2, _, rfl, rfl, .inl (.inl (s1 _ _ ha1)), atI_nat (j := 2) rfl, ?_⟩
    exact fin m1 _ s1 (by rw [g1]; exact s1 _ _ hm1)
theorem scWidthP : FnScope ["self", "path"] ["self", "path"] (defScope (cDoc 10)) := ⟨rfl, rfl, rfl, by decide +kernel, rfl, by decide +kernel, by decide +kernel⟩
theorem ok_widthP {f C : Addr} {fd : FuncData} (F : Fun K "width" "Document.width" (cDoc 10) f fd) (T : Txt mg) (DC : DCls K mg C) (D1 : C8.Met P w K mg base 4 C "number_of" (spPlaceP C) []) (D2 : C8.Met P w K mg base 2 C "_children" (spKidsP C) []) : FnOk P w K mg base CX0 5 f fd ["self", "path"] (spWidthP C) := by
  refine F.ok scWidthP (fun vs H Q E h => ?_) (fun cdv A outer s H vs Q E hr h => ?_)
  · obtain ⟨_, _, _, _, _, rfl, _⟩ := h
    rfl
  · obtain ⟨a, rs, x, q, i, rfl, dc, px, few, hi, at_, fin⟩ := h
    refine ⟨_, pss_one (ps_ret (pe_callB call_len_seq (by rfl) T.len PySem.boot_len (pa_cons (C8.pe_mt D2 hr (by decide) (pv 0) (pa_cons (C8.pe_mt D1 hr (Nat.le_refl _) (pv 0) (pa_cons (pv 1) pa_nil)) pa_nil)) pa_nil))), ?_⟩
    obtain ⟨dx, r, p, d, us, ws, h1, h2, h3, _⟩ := id dc
    refine ⟨_, rfl, a, dx, _, rfl, h1, rfl, _, rfl, a, dx, _, rfl, h1, rfl, _, rfl, a, rs, x, q, i, rfl, dc, px, few, at_, fun H' s1 => ?_⟩
    refine ⟨a, rs, i, rfl, dc.same s1, hi, fun D H2 _ s2 m2 => ⟨D, _, rfl, .inl (SqL.of m2), ?_⟩⟩
    rw [List.length_map]
    exact fin _ (s1.trans s2)
theorem scPartP : FnScope ["self", "path", "at"] ["self", "path"] (defScope (cDoc 11)) := ⟨rfl, rfl, rfl, by decide +kernel, rfl, by decide +kernel, by decide +kernel⟩
theorem same_make {H H2 : Hp} {x dx C : Addr} (hx : H x = none) (hd : H dx = none) (o : Off x (upd (upd H dx (.own x)) x (.ins C dx [])) H2) : Same H H2 := fun b u e => by
  refine o b u (ne_of_none e hx) ?_
  rw [upd_ne (ne_of_none e hx), upd_ne (ne_of_none e hd)]
  exact e
theorem same_up {H : Hp} {x dx C : Addr} (hx : H x = none) (hd : H dx = none) : Same H (upd (upd H dx (.own x)) x (.ins C dx [])) := fun b u e => by
  rw [upd_ne (ne_of_none e hx), upd_ne (ne_of_none e hd)]
  exact e
theorem ok_partP {f C : Addr} {fd : FuncData} (F : Fun K "part" "Document.part" (cDoc 11) f fd) (DC : DCls K mg C) (D1 : C8.Met P w K mg base 4 C "number_of" (spPlaceP C) []) (D2 : C8.Met P w K mg base 1 C "_end" (spEndP C) [])
    (D3 : Has P w K mg base 1 "moved" ["rows", "by"] spMoved) (D4 : C8.Mak P w K mg base 2 "Document" C (spInit C) []) : FnOk P w K mg base CX0 5 f fd ["self", "path"] (spPartP C) := by
  obtain ⟨fM, fdM, GM, mM, kM, bM⟩ := D3
  refine F.ok scPartP (fun vs H Q E h => ?_) (fun cdv A outer s H vs Q E hr h => ?_)
  · obtain ⟨_, _, _, _, _, rfl, _⟩ := h
    rfl
  · obtain ⟨a, rs, x, q, i, rfl, dc, px, few, hi, at_, fin⟩ := h
    have hr1 : Room 1 _ := hr.mono (by decide)
    refine ⟨_, pss_cons (ps_set (i := 2) scPartP.nd rfl (Or.inl rfl) (C8.pe_mt D1 hr (Nat.le_refl _) (pv 0) (pa_cons (pv 1) pa_nil)))
      (pss_one (ps_ret (C8.pe_mk D4 hr (by decide) (by rfl) (pa_cons (pe_call GM hr1 (by rfl) mM kM bM .nil pass0 (pa_cons (pe_slice sl_tupA (pe_fld (pv 0) rfl) (po_some (pv 2)) (po_some (C8.pe_mt D2 hr (by decide) (pv 0) (pa_cons (pv 2) pa_nil))))
        (pa_cons (pe_un un_neg (pe_ix ix_tup (pe_ix ix_tup (pe_fld (pv 0) rfl) (pv 2) (fun _ _ => rfl)) pe_int (fun _ _ => rfl))) pa_nil))) pa_nil)))), ?_⟩
    refine ⟨_, rfl, a, _, _, rfl, dc.choose_spec.choose_spec.choose_spec.choose_spec.choose_spec.choose_spec.1, rfl, _, rfl, a, rs, x, q, i, rfl, dc, px, few, at_, fun H1 s1 => ?_⟩
    obtain ⟨dx, r, p, d, us, ws, h1, h2, h3, h4, h5, h6, fw⟩ := dc.same s1
    obtain ⟨el, eu⟩ := end_le rs i hi
    have ul := h3.length
    obtain ⟨x1, r1, ux1, rx1, g1, a1, m1, rfl, ha1, hm1⟩ := row_at h3 hi
    have dep1 : depM rs i = r1.1 := congrArg Prod.fst g1
    have hcut : cutV us (some ((i : Nat) : Int)) (some ((endM rs i : Nat) : Int)) = (us.drop i).take (endM rs i - i) := by
      unfold cutV
      rw [HT.sIx_nat, HT.sIx_nat, Nat.min_eq_left (by omega), Nat.min_eq_left (by omega)]
    have prt : RowsAt H1 ((us.drop i).take (endM rs i - i)) ((rs.drop i).take (endM rs i - i)) := paired_take (paired_drop h3 i) _
    refine ⟨_, rfl, a, C, dx, _, _, rfl, h1, DC.cls, DC.rows, rfl, _, rfl, _, rfl, _, rfl, a, dx, _, rfl, h1, rfl, _, rfl, a, rs, i, rfl, dc.same s1, hi, _, rfl, r, us, rfl, .inl (.inl h2), fun z => ?_, fun _ b hb => ?_⟩
    · have whole : (us.drop i).take (endM rs i - i) = us := by
        obtain ⟨z1, z2⟩ := z
        have z1 : HT.sIx us.length 0 (some ((i : Nat) : Int)) = 0 := z1
        have z2 : HT.sIx us.length us.length (some ((endM rs i : Nat) : Int)) = us.length := z2
        rw [HT.sIx_nat] at z1 z2
        have i0 : i = 0 := by omega
        rw [i0, List.drop_zero, List.take_of_length_le (by rw [i0] at z2; omega)]
      have s2 : Same H1 H1 := Same.refl H1
      have m2 : H1 r = some (.tup ((us.drop i).take (endM rs i - i))) := by
        rw [whole]
        exact h2
      refine ⟨_, rfl, a, C, dx, _, _, rfl, s2 _ _ h1, DC.cls, DC.rows, rfl, _, rfl, r, us, _, _, rfl, rfl, .inl (.inl (s2 _ _ h2)), atI_nat ux1, a1, _, 0, _, rfl, rfl, .inl (.inl (s2 _ _ ha1)), atI_nat (j := 0) rfl, _, rfl, ?_⟩
      refine ⟨r, (us.drop i).take (endM rs i - i), (rs.drop i).take (endM rs i - i), _, rfl, m2, prt.same s2, ?_, ?_, fun q2 w3 H3 n3 s3 t3 ra3 => ?_⟩
      · rw [List.length_take, List.length_drop]
        have := fw.1
        omega
      · intro r' hr'
        have := part_deep hi r' hr'
        show 0 ≤ ((r'.1 : Nat) : Int) + -((r1.1 : Nat) : Int)
        omega
      · intro y dy hy hdy ne
        have s4 := same_up (C := C) hy hdy
        refine ⟨y, dy, q2, w3, partM rs i, rfl, upd_same, .inl (s4 _ _ t3), ?_, few_part fw i, fun H4 o4 d4 => ⟨rfl, fin y _ ((s1.trans s2).trans (s3.trans (same_make hy hdy o4))) d4⟩⟩
        have e : partM rs i = ((rs.drop i).take (endM rs i - i)).map (up (-((r1.1 : Nat) : Int))) := by
          unfold partM
          rw [dep1]
        rw [e]
        exact ra3.same s4
    · rw [show cutV us (some (nvi i)) (some (nvi (endM rs i))) = (us.drop i).take (endM rs i - i) from hcut]
      generalize g2 : upd H1 b _ = H2
      have s2 : Same H1 H2 := g2 ▸ same_new hb
      have m2 : H2 b = some (.tup ((us.drop i).take (endM rs i - i))) := g2 ▸ upd_same
      refine ⟨_, rfl, a, C, dx, _, _, rfl, s2 _ _ h1, DC.cls, DC.rows, rfl, _, rfl, r, us, _, _, rfl, rfl, .inl (.inl (s2 _ _ h2)), atI_nat ux1, a1, _, 0, _, rfl, rfl, .inl (.inl (s2 _ _ ha1)), atI_nat (j := 0) rfl, _, rfl, ?_⟩
      refine ⟨b, (us.drop i).take (endM rs i - i), (rs.drop i).take (endM rs i - i), _, rfl, m2, prt.same s2, ?_, ?_, fun q2 w3 H3 n3 s3 t3 ra3 => ?_⟩
      · rw [List.length_take, List.length_drop]
        have := fw.1
        omega
      · intro r' hr'
        have := part_deep hi r' hr'
        show 0 ≤ ((r'.1 : Nat) : Int) + -((r1.1 : Nat) : Int)
        omega
      · intro y dy hy hdy ne
        have s4 := same_up (C := C) hy hdy
        refine ⟨y, dy, q2, w3, partM rs i, rfl, upd_same, .inl (s4 _ _ t3), ?_, few_part fw i, fun H4 o4 d4 => ⟨rfl, fin y _ ((s1.trans s2).trans (s3.trans (same_make hy hdy o4))) d4⟩⟩
        have e : partM rs i = ((rs.drop i).take (endM rs i - i)).map (up (-((r1.1 : Nat) : Int))) := by
          unfold partM
          rw [dep1]
        rw [e]
        exact ra3.same s4
end
end K04

namespace K04
open PySem L2 DR DM TL
abbrev sParse : Stmt := top 18
section
variable {P : Program} {w : World} {K : PySem.W.Frag} {mg : Str → Option Value} {base : Heap}
theorem scEqP : FnScope ["self", "other"] ["self", "other"] (defScope (cDoc 5)) := ⟨rfl, rfl, rfl, by decide +kernel, rfl, by decide +kernel, by decide +kernel⟩
theorem ok_eqP {f C : Addr} {fd : FuncData} (F : Fun K "__eq__" "Document.__eq__" (cDoc 5) f fd) (T : Txt mg) (DC : DCls K mg C) (hm : mg "Document" = some (.ref C)) (hk : PySem.W.kitOne K (.ref C) (.ref C) = some true) : FnOk P w K mg base CX0 1 f fd ["self", "other"] (spEqP K C) := by
  refine F.ok scEqP (fun vs H Q E h => ?_) (fun cdv A outer s H vs Q E hr h => ?_)
  · obtain ⟨_, _, _, rfl, _⟩ := h
    rfl
  · obtain ⟨a, rs, x, rfl, ⟨dx, r, p, d, us, ws, h1, _⟩, h⟩ := h
    refine ⟨_, pss_one (ps_ret (pe_and (pe_callB call_isi (by rfl) T.isi PyProof.Rows.boot_isinstance (pa_cons (pv 1) (pa_cons (pe_glob (v := .ref C) (by rfl) hm rfl) pa_nil)))
      (pe_one (pe_cmpR op_eq (pe_fld (pv 0) rfl) (pe_fld (pv 1) rfl) rfl)))), ?_⟩
    rcases h with ⟨t, ty, kt, fin⟩ | ⟨b, rs', rfl, ⟨dx', r', p', d', us', ws', h1', _⟩, ty, fin⟩
    · exact ⟨_, rfl, x, .ref C, t, _, false, rfl, .own C, ty, kt, false, rfl, iteF fin⟩
    · refine ⟨_, rfl, .ref b, .ref C, .ref C, _, true, rfl, .own C, ty, hk, true, rfl, iteT ?_⟩
      refine ⟨_, rfl, a, C, dx, _, _, rfl, h1, DC.cls, DC.text, rfl, _, rfl, b, C, dx', _, _, rfl, h1', DC.cls, DC.text, rfl, rfl, ?_⟩
      rw [sv_is]
      exact fin
theorem scParse : FnScope ["text", "rows"] ["text"] (defScope sParse) := ⟨rfl, rfl, rfl, by decide +kernel, rfl, by decide +kernel, by decide +kernel⟩
theorem ok_parse {f C : Addr} {fd : FuncData} (F : Fun K "parse_document" "parse_document" sParse f fd) (T : Txt mg) (D1 : Has P w K mg base 4 "read_rows" ["text"] spRows) (D2 : C8.Mak P w K mg base 2 "Document" C (spInit C) []) :
    FnOk P w K mg base CX0 5 f fd ["text"] (spParse C) := by
  obtain ⟨fR, fdR, GR, mR, kR, bR⟩ := D1
  obtain ⟨uM, mM, rM⟩ := T.most
  refine F.ok scParse (fun vs H Q E h => ?_) (fun cdv A outer s H vs Q E hr h => ?_)
  · obtain ⟨_, _, rfl, _⟩ := h
    rfl
  · obtain ⟨t, rs, rfl, len, small, rd, few, fin⟩ := h
    refine ⟨_, pss_cons (ps_set (i := 1) scParse.nd rfl (Or.inl rfl) pe_non)
      (pss_cons (ps_if (pt_val (pe_callB call_isi (by rfl) T.isi PyProof.Rows.boot_isinstance (pa_cons (pv 0) (pa_cons (pe_bltn (v := .ty "str") (by rfl) T.str (by decide +kernel) rfl) pa_nil)))) (pss_one (ps_set (i := 1) scParse.nd rfl (Or.inl rfl) (pe_call GR hr (by rfl) mR kR bR .nil pass0 (pa_cons (pv 0) pa_nil)))) pss_nil)
      (pss_cons (ps_if (pt_cmpR op_isN (pv 1) pe_non rfl) (pss_one ps_never) pss_nil)
      (pss_cons (ps_if (pt_cmpR op_gt (pe_callB call_len_seq (by rfl) T.len PySem.boot_len (pa_cons (pv 1) pa_nil)) (pe_glob (v := .int 200) (by rfl) mM rM) rfl) (pss_one ps_never) pss_nil)
      (pss_one (ps_ret (C8.pe_mk D2 hr (by decide) (by rfl) (pa_cons (pv 1) pa_nil))))))), ?_⟩
    refine ⟨_, rfl, .str t, _, .type "str", _, true, rfl, .ty _, .base (.str t), by rfl, true, rfl, iteT ?_⟩
    refine ⟨_, rfl, t, rfl, len, small, fun z => by rw [rd] at z; (cases z), fun rs2 p vs H1 e2 _ n1 s1 m1 ra => ?_⟩
    obtain rfl : rs = rs2 := by
      rw [rd] at e2
      exact Option.some.inj e2
    refine ⟨_, rfl, rfl, false, rfl, iteF ⟨_, rfl, p, vs, rfl, .inl (SqL.of m1), _, _, rfl, rfl, _, rfl, ?_⟩⟩
    rw [ra.length]
    rw [decide_eq_false (show ¬ (200 : Int) < ((rs.length : Nat) : Int) by have := few.1; omega)]
    refine iteF ⟨_, rfl, fun y dy hy hdy ne => ?_⟩
    have s4 := same_up (C := C) hy hdy
    exact ⟨y, dy, p, vs, rs, rfl, upd_same, .inr (s4 _ _ m1), ra.same s4, few, fun H4 o4 d4 => ⟨rfl, fin y _ (s1.trans (same_make hy hdy o4)) d4⟩⟩
end
end K04

namespace K04
open PySem L2 DR DM TL
abbrev sPool : Stmt := top 27
abbrev sTake : Stmt := top 28
def M31 : Int := 2147483647
/-- a drawn pool -/
def Pool (H : Hp) (p : Addr) (a b : Int) : Prop := H p = some (.lst [.int a, .int b]) ∧ 0 ≤ a ∧ 0 ≤ b ∧ b < M31
def spPool (K : PySem.W.Frag) : Sp := fun vs H Q _ => ∃ (sc : Addr) (ns : List Int) (k : Int), vs = [.ref sc, .int k] ∧ SqL K H sc (ns.map V.int) ∧ ns.length ≤ 63 ∧ 0 ≤ k ∧ k ≤ 100 ∧
  ∀ (p : Addr) (a b : Int) (H' : Hp), H p = none → Same H H' → Pool H' p a b → Q (.ref p) H'
def spTake : Sp := fun vs H Q _ => ∃ (p : Addr) (n a b : Int), vs = [.ref p, .int n] ∧ Pool H p a b ∧ 1 ≤ n ∧ n < 1000000 ∧
  ∀ (d a' b' : Int), 0 ≤ d → d < n → 0 ≤ a' → 0 ≤ b' → b' < M31 → Q (.int d) (upd H p (.lst [.int a', .int b']))
/-- the second half of _law_pool: from the number on -/
def tMixed : TS := tAsg (tOp (rI (fun _ j => 0 < j) fun i j => V.int (i % j)) (tOp (rI CMul fun i j => V.int (i * j)) (tCB (fun xs H Q => (∃ i, xs = [V.int i] ∧ Q (V.int i) H) ∨ ∃ k, xs = [V.bl k] ∧ Q (V.int (if k then 1 else 0)) H)
  (tCons (tOp (rI0 fun i j => V.int (i + j)) (tOp (rI0 fun i j => V.int (i + j)) (tOp (rI0 fun i j => V.int (i + j)) (tOp (rI (fun _ j => 0 < j) fun i j => V.int (i % j)) (tVar 3) (tC (V.int 2147483629)))
    (tOp (rI CMul fun i j => V.int (i * j)) (tOp (rI CMul fun i j => V.int (i * j)) (tC (V.int 7919)) (tVar 1)) (tVar 1))) (tOp (rI CMul fun i j => V.int (i * j)) (tC (V.int 31)) (tVar 1))) (tC (V.int 17))) tNil)) (tC (V.int 48271))) (tC (V.int 2147483647))) (gName 4)
def tTwo : TS := tRet (tLst (tCons (tOp (rI CMul fun i j => V.int (i * j)) (tVar 3) (tCB (fun xs H Q => (∃ i, xs = [V.int i] ∧ Q (V.int i) H) ∨ ∃ k, xs = [V.bl k] ∧ Q (V.int (if k then 1 else 0)) H)
  (tCons (tOp (rI0 fun i j => V.bl (decide (j ≤ i))) (tVar 3) (tOp (rI CPow fun i j => V.int (i ^ j.toNat)) (tC (V.int 10)) (tC (V.int 18)))) tNil))) (tCons (tOp (rI (fun _ j => 0 < j) fun i j => V.int (i % j)) (tOp (rI CMul fun i j => V.int (i * j)) (tVar 4) (tVar 4)) (tC (V.int 2147483629))) tNil)))
theorem pool_rest {K : PySem.W.Frag} {H H1 : Hp} {Q : VK} {sc : Addr} {ns : List Int} {k num : Int} {cell : Option V} (hS : SqL K H sc (ns.map V.int)) (k0 : 0 ≤ k) (k1 : k ≤ 100) (n0 : 0 ≤ num) (e1 : Same H H1)
    (fin : ∀ (p : Addr) (a b : Int) (H' : Hp), H p = none → Same H H' → Pool H' p a b → Q (V.ref p) H') {nx : L2.St → Hp → Prop} :
    tSeq tMixed tTwo { nx := nx, rt := Q } [some (.ref sc), some (.int k), cell, some (.int num), none] H1 := by
  refine ⟨_, rfl, _, _, rfl, rfl, (by show (0 : Int) < 2147483629; decide), _, rfl, _, _, rfl, rfl, .inl ⟨by decide, by decide⟩, _, rfl, _, _, rfl, rfl, .inr ⟨by omega, by omega⟩, _, _, rfl, rfl, _, rfl, _, _, rfl, rfl, .inl ⟨by decide, by decide⟩, _, _, rfl, rfl,
    _, _, rfl, rfl, .inl ⟨_, rfl, _, _, rfl, rfl, .inr ⟨by decide, by decide⟩, _, _, rfl, rfl, (by show (0 : Int) < 2147483647; decide), ?_⟩⟩
  generalize hm : (num % 2147483629 + 7919 * k * k + 31 * k + 17) * 48271 % 2147483647 = m
  have m0 : 0 ≤ m := by rw [← hm]; exact Int.emod_nonneg _ (by decide)
  have m1 : m < 2147483647 := by rw [← hm]; exact Int.emod_lt_of_pos _ (by decide)
  refine ⟨_, rfl, _, rfl, _, _, rfl, rfl, ⟨by decide, by decide, by decide⟩, _, _, rfl, rfl, .inr ⟨_, rfl, _, _, rfl, rfl, .inr ?_, _, rfl, _, rfl, _, _, rfl, rfl, .inl ⟨by omega, by omega⟩, _, _, rfl, rfl, (by show (0 : Int) < 2147483629; decide), (by show 2 ≤ sizeLine; decide), fun p hp => ?_⟩⟩
  · split <;> exact ⟨by decide, by decide⟩
  refine fin p _ _ _ (e1.free hp) (e1.trans (same_new hp)) ⟨upd_same, ?_, Int.emod_nonneg _ (by decide), Int.lt_trans (Int.emod_lt_of_pos _ (by decide)) (by decide)⟩
  split
  · omega
  · omega
section
variable {P : Program} {w : World} {K : PySem.W.Frag} {mg : Str → Option Value} {base : Heap}
theorem scPool : FnScope ["_law_script", "_law_k", "_law_cell", "_law_number", "_law_mixed"] ["_law_script", "_law_k"] (defScope sPool) := ⟨rfl, rfl, rfl, by decide +kernel, rfl, by decide +kernel, by decide +kernel⟩
theorem ok_pool {f : Addr} {fd : FuncData} (F : Fun K "_law_pool" "_law_pool" sPool f fd) (T : Txt mg) : FnOk P w K mg base CX0 1 f fd ["_law_script", "_law_k"] (spPool K) := by
  refine F.ok scPool (fun vs H Q E h => ?_) (fun cdv A outer s H vs Q E hr h => ?_)
  · obtain ⟨_, _, _, rfl, _⟩ := h
    rfl
  · obtain ⟨sc, ns, k, rfl, hS, hl, k0, k1, fin⟩ := h
    refine ⟨_, pss_cons (ps_set (i := 2) scPool.nd rfl (Or.inl rfl) (pe_ix ix_list (pe_op op_cat (pe_slice sl_list (pv 0) (po_some (pv 1)) (po_some (pe_op op_add (pv 1) pe_int))) (pe_lst (pa_cons pe_int pa_nil))) pe_int (fun _ _ => rfl)))
      (pss_cons (ps_set (i := 3) scPool.nd rfl (Or.inl rfl) (pe_ifExp (pt_cmpR op_ge (pv 2) pe_int (nomark _)) (pv 2) (pe_op op_sub (pe_un un_neg pe_int) (pv 2))))
      (pss_cons (ps_set (i := 4) scPool.nd rfl (Or.inl rfl) (pe_op op_mod (pe_op op_mul (pe_callTy call_int1 (by rfl) T.int (by decide +kernel)
        (pa_cons (pe_op op_add (pe_op op_add (pe_op op_add (pe_op op_mod (pv 3) pe_int) (pe_op op_mul (pe_op op_mul pe_int (pv 1)) (pv 1))) (pe_op op_mul pe_int (pv 1))) pe_int) pa_nil)) pe_int) pe_int))
      (pss_one (ps_ret (pe_lst (pa_cons (pe_op op_mul (pv 3) (pe_callTy call_int1 (by rfl) T.int (by decide +kernel) (pa_cons (pe_cmpR op_ge (pv 3) (pe_op op_pow pe_int pe_int) (nomark _)) pa_nil)))
        (pa_cons (pe_op op_mod (pe_op op_mul (pv 4) (pv 4)) pe_int) pa_nil))))))), ?_⟩
    -- the cell: the script's item at k, or 0
    refine ⟨_, rfl, _, rfl, _, rfl, ?_⟩
    refine ⟨_, rfl, _, _, rfl, rfl, _, rfl, sc, ns.map V.int, rfl, hS, fun c hc => ⟨by show 1 ≤ sizeLine; decide, fun z hz => ?_⟩⟩
    have cz : c ≠ z := fun e => by
      rw [e, upd_same] at hz
      cases hz
    have lc := cutV_length (ns.map V.int) (some k) (some (k + 1))
    rw [List.length_map] at lc
    refine ⟨c, z, _, _, rfl, rfl, (by rw [upd_ne cz, upd_same]), upd_same, (by show _ + 1 ≤ sizeLine; exact Nat.le_trans (Nat.succ_le_succ (Nat.le_trans lc hl)) (by decide)), fun y hy => ?_⟩
    obtain ⟨cell, hcell⟩ : ∃ n : Int, (cutV (ns.map V.int) (some k) (some (k + 1)) ++ [V.int 0])[0]? = some (V.int n) := by
      unfold cutV
      cases e : ((ns.map V.int).drop (HT.sIx (ns.map V.int).length 0 (some k))).take (HT.sIx (ns.map V.int).length (ns.map V.int).length (some (k + 1)) - HT.sIx (ns.map V.int).length 0 (some k)) with
      | nil => exact ⟨0, rfl⟩
      | cons v r =>
        have m : v ∈ ns.map V.int := List.mem_of_mem_drop (List.mem_of_mem_take (e ▸ List.mem_cons_self ..))
        obtain ⟨n, _, rfl⟩ := List.mem_map.mp m
        exact ⟨n, rfl⟩
    refine ⟨y, _, 0, _, rfl, rfl, SqL.of upd_same, atI_nat hcell, ?_⟩
    -- the number: the cell, or what lies below nought from the other side
    refine ⟨_, rfl, _, _, rfl, rfl, _, rfl, ?_⟩
    have e1 : Same H (upd (upd (upd H c (HO.lst (cutV (List.map V.int ns) (some k) (some (k + 1))))) z (HO.lst [V.int 0])) y (HO.lst (cutV (List.map V.int ns) (some k) (some (k + 1)) ++ [V.int 0]))) :=
      ((same_new hc).trans (same_new hz)).trans (same_new hy)
    refine ite2 (fun c1 => ?_) (fun c1 => ?_)
    · have h0 := of_decide_eq_true c1
      refine ⟨_, rfl, ?_⟩
      exact pool_rest hS k0 k1 h0 e1 fin
    · have h0 : ¬ 0 ≤ cell := fun q => c1 (decide_eq_true q)
      refine ⟨_, rfl, _, rfl, _, _, rfl, rfl, ?_⟩
      exact pool_rest hS k0 k1 (by omega) e1 fin
theorem scTake : FnScope ["_law_pool_here", "_law_many", "_law_digit"] ["_law_pool_here", "_law_many"] (defScope sTake) := ⟨rfl, rfl, rfl, by decide +kernel, rfl, by decide +kernel, by decide +kernel⟩
theorem ok_take {f : Addr} {fd : FuncData} (F : Fun K "_law_take" "_law_take" sTake f fd) (T : Txt mg) : FnOk P w K mg base CX0 1 f fd ["_law_pool_here", "_law_many"] spTake := by
  refine F.ok scTake (fun vs H Q E h => ?_) (fun cdv A outer s H vs Q E hr h => ?_)
  · obtain ⟨_, _, _, _, rfl, _⟩ := h
    rfl
  · obtain ⟨p, n, a, b, rfl, ⟨hp, a0, b0, b1⟩, n1, n2, fin⟩ := h
    refine ⟨_, pss_cons (ps_if (pt_cmpR op_gt (pe_ix ix_list (pv 0) pe_int (fun _ _ => rfl)) pe_int (nomark _))
        (pss_cons (ps_set (i := 2) scTake.nd rfl (Or.inl rfl) (pe_op op_mod (pe_callTy call_int1 (by rfl) T.int (by decide +kernel) (pa_cons (pe_ix ix_list (pv 0) pe_int (fun _ _ => rfl)) pa_nil)) (pv 1)))
        (pss_cons (ps_asg (pe_op op_fdiv (pe_ix ix_list (pv 0) pe_int (fun _ _ => rfl)) (pv 1)) (pg_sub (pv 0) pe_int set_list))
        (pss_one (ps_ret (pv 2))))) pss_nil)
      (pss_cons (ps_asg (pe_op op_mod (pe_callTy call_int1 (by rfl) T.int (by decide +kernel) (pa_cons (pe_op op_add (pe_op op_mul (pe_ix ix_list (pv 0) pe_int (fun _ _ => rfl)) pe_int) pe_int) pa_nil)) pe_int) (pg_sub (pv 0) pe_int set_list))
      (pss_one (ps_ret (pe_op op_mod (pe_op op_fdiv (pe_op op_mod (pe_callTy call_int1 (by rfl) T.int (by decide +kernel)
        (pa_cons (pe_op op_mul (pe_ix ix_list (pv 0) pe_int (fun _ _ => rfl)) (pe_ix ix_list (pv 0) pe_int (fun _ _ => rfl))) pa_nil)) pe_int) pe_int) (pv 1))))), ?_⟩
    have m31 : M31 = 2147483647 := rfl
    refine ⟨_, rfl, p, _, 0, _, rfl, rfl, SqL.of hp, rfl, _, _, rfl, rfl, _, rfl, ?_⟩
    refine ite2 (fun c1 => ?_) (fun c1 => ?_)
    · refine ⟨_, rfl, p, _, 0, _, rfl, rfl, SqL.of hp, rfl, .inl ⟨_, rfl, _, rfl, _, _, rfl, rfl, (by show (0 : Int) < n; omega), ?_⟩⟩
      refine ⟨_, rfl, p, _, 0, _, rfl, rfl, SqL.of hp, rfl, _, rfl, _, _, rfl, rfl, ⟨by omega, by omega⟩, _, rfl, p, _, 0, 0, rfl, rfl, hp, rfl, _, rfl, ?_⟩
      exact fin _ _ _ (Int.emod_nonneg _ (by omega)) (Int.emod_lt_of_pos _ (by omega)) (Int.ediv_nonneg a0 (by omega)) b0 b1
    · have hb := Int.emod_lt_of_pos (b * 48271 + 12345) (show (0 : Int) < 2147483647 by decide)
      have hb0 := Int.emod_nonneg (b * 48271 + 12345) (show (2147483647 : Int) ≠ 0 by decide)
      refine ⟨_, rfl, p, _, 1, _, rfl, rfl, SqL.of hp, rfl, _, _, rfl, rfl, .inl ⟨by omega, by omega⟩, _, _, rfl, rfl, .inl ⟨_, rfl, _, _, rfl, rfl, (by show (0 : Int) < 2147483647; decide), ?_⟩⟩
      refine ⟨_, rfl, p, _, 1, 1, rfl, rfl, hp, rfl, ?_⟩
      refine ⟨_, rfl, p, _, 1, _, rfl, rfl, SqL.of upd_same, rfl, _, rfl, p, _, 1, _, rfl, rfl, SqL.of upd_same, rfl, _, _, rfl, rfl, .inl ⟨by omega, by omega⟩, .inl ⟨_, rfl, _, _, rfl, rfl, (by show (0 : Int) < 2147483629; decide), _, _, rfl, rfl, ⟨by decide, by decide⟩, _, rfl, _, _, rfl, rfl, (by show (0 : Int) < n; omega), ?_⟩⟩
      exact fin _ _ _ (Int.emod_nonneg _ (by omega)) (Int.emod_lt_of_pos _ (by omega)) a0 hb0 (by rw [m31]; exact hb)
end
end K04

namespace K04
open PySem L2 DR DM TL
mutual
/-- the law's own node: lists at addresses that N allows -/
def NodeAt (N : Addr → Prop) (H : Hp) : V → Tr → Prop
  | v, .nd k ms ks => ∃ a m b vs, v = .ref a ∧ N a ∧ N m ∧ N b ∧ H a = some (.lst [sv k, .ref m, .ref b]) ∧ H m = some (.lst (ms.map sv)) ∧ H b = some (.lst vs) ∧ NodesAt N H vs ks
def NodesAt (N : Addr → Prop) (H : Hp) : List V → Trs → Prop
  | vs, .nil => vs = []
  | vs, .cons t ts => ∃ v r, vs = v :: r ∧ NodeAt N H v t ∧ NodesAt N H r ts
end
mutual
theorem NodeAt.move {N N' : Addr → Prop} {H H' : Hp} (hN : ∀ c, N c → N' c) (o : ∀ c u, N c → H c = some u → H' c = some u) : ∀ (t : Tr) (v : V), NodeAt N H v t → NodeAt N' H' v t
  | .nd k ms ks, v, h => by
    rw [NodeAt] at h ⊢
    obtain ⟨a, m, b, vs, e, na, nm, nb, h1, h2, h3, h4⟩ := h
    exact ⟨a, m, b, vs, e, hN _ na, hN _ nm, hN _ nb, o _ _ na h1, o _ _ nm h2, o _ _ nb h3, NodesAt.move hN o ks vs h4⟩
theorem NodesAt.move {N N' : Addr → Prop} {H H' : Hp} (hN : ∀ c, N c → N' c) (o : ∀ c u, N c → H c = some u → H' c = some u) : ∀ (ts : Trs) (vs : List V), NodesAt N H vs ts → NodesAt N' H' vs ts
  | .nil, vs, h => by
    rw [NodesAt] at h ⊢
    exact h
  | .cons t ts, vs, h => by
    rw [NodesAt] at h ⊢
    obtain ⟨v, r, e, h1, h2⟩ := h
    exact ⟨v, r, e, NodeAt.move hN o t v h1, NodesAt.move hN o ts r h2⟩
end
def ofL : List Tr → Trs
  | [] => .nil
  | t :: ts => .cons t (ofL ts)
theorem ofL_len : ∀ ts, (ofL ts).len = ts.length
  | [] => rfl
  | t :: ts => congrArg (· + 1) (ofL_len ts)
theorem nodes_of {N : Addr → Prop} {H : Hp} : ∀ {vs : List V} {ts : List Tr}, Paired (NodeAt N H) vs ts → NodesAt N H vs (ofL ts)
  | _, _, .nil => by
    rw [ofL, NodesAt]
  | _, _, .cons h t => by
    rw [ofL, NodesAt]
    exact ⟨_, _, rfl, h, nodes_of t⟩
mutual
/-- what is drawn -/
def _root_.DM.Tr.fits (Ks Ms : List W) : Nat → Tr → Prop
  | d, .nd k ms ks => k ∈ Ks ∧ ms.Sublist Ms ∧ ks.len ≤ 3 ∧ (d = 0 → ks = .nil) ∧ ks.fits Ks Ms (d - 1)
def _root_.DM.Trs.fits (Ks Ms : List W) : Nat → Trs → Prop
  | _, .nil => True
  | d, .cons t ts => t.fits Ks Ms d ∧ ts.fits Ks Ms d
end
theorem fits_of {Ks Ms : List W} {d : Nat} : ∀ {ts : List Tr}, (∀ t ∈ ts, t.fits Ks Ms d) → (ofL ts).fits Ks Ms d
  | [], _ => by
    rw [ofL, Trs.fits]
    trivial
  | t :: ts, h => by
    rw [ofL, Trs.fits]
    exact ⟨h t (List.mem_cons_self ..), fits_of fun x hx => h x (List.mem_cons_of_mem _ hx)⟩
theorem Off.trans {p : Addr} {H H1 H2 : Hp} (a : Off p H H1) (b : Off p H1 H2) : Off p H H2 := fun c u n e => b c u n (a c u n e)
theorem Off.same {p : Addr} {H H1 : Hp} (s : Same H H1) : Off p H H1 := fun c u _ e => s c u e
theorem Off.refl {p : Addr} {H : Hp} : Off p H H := fun _ _ _ e => e
theorem Off.free {p c : Addr} {H H1 : Hp} (o : Off p H H1) (hc : H1 c = none) (np : H1 p ≠ none) : H c = none := by
  cases e : H c with
  | none => rfl
  | some u =>
    have n : c ≠ p := fun z => np (z ▸ hc)
    rw [o c u n e] at hc
    cases hc
/-- a write at what was free -/
theorem Off.new {p c : Addr} {H H1 : Hp} {o : HO} (h : Off p H H1) (hc : H c = none) : Off p H (upd H1 c o) := fun b u n e => by
  rw [upd_ne (ne_of_none e hc)]
  exact h b u n e
abbrev sNode : Stmt := top 29
def spNode (Ks Ms : List W) (d : Nat) : Sp := fun vs H Q _ => ∃ (p ka ma : Addr) (a b : Int), vs = [.ref p, nv d, .ref ka, .ref ma] ∧ Pool H p a b ∧ H ka = some (.lst (Ks.map sv)) ∧ H ma = some (.lst (Ms.map sv)) ∧
  ∀ v t H' a' b', Off p H H' → Pool H' p a' b' → NodeAt (fun c => H c = none) H' v t → t.fits Ks Ms d → Q v H'
theorem Pool.at_ {H : Hp} {p : Addr} {a b : Int} (h : Pool H p a b) : H p ≠ none := fun z => by
  rw [h.1] at z
  cases z
theorem pool_ne {H : Hp} {p c : Addr} {a b : Int} {o : HO} (h : Pool H p a b) (hc : H c = some o) (ho : o ≠ .lst [.int a, .int b]) : c ≠ p := fun z => by
  rw [z, h.1] at hc
  exact ho (Option.some.inj hc).symm
theorem strs_ne {ws : List W} {a b : Int} : HO.lst (ws.map sv) ≠ .lst [.int a, .int b] := fun z => by
  injection z with z
  cases ws with
  | nil => cases z
  | cons w ws =>
    rw [List.map_cons] at z
    injection z with z
    cases z
theorem cond_true {c : Bool} {F : Bool → Prop} (h : c = true) (p : F true) : F c := h ▸ p
theorem cond_false {c : Bool} {F : Bool → Prop} (h : c = false) (p : F false) : F c := h ▸ p
def tLast (spR : Sp) : TS := tRet (tLst (tCons (tVar 4) (tCons (tVar 5) (tCons (tLc (iRng1 (tCons (tVar 6) tNil)) (gName 8) tYes (tCall spR [] E0 (tCons (tVar 0) (tCons (tOp (rI0 fun i j => V.int (i - j)) (tVar 1) (tC (V.int 1))) (tCons (tVar 2) (tCons (tVar 3) tNil))))) [8]) tNil))))
section
variable {P : Program} {w : World} {K : PySem.W.Frag} {mg : Str → Option Value} {base : Heap}
theorem scNode : FnScope ["_law_pool_here", "_law_depth", "_law_kinds", "_law_marks", "_law_kind", "_law_own", "_law_many", "_law_mark", "_law_turn"] ["_law_pool_here", "_law_depth", "_law_kinds", "_law_marks"] (defScope sNode) := ⟨rfl, rfl, rfl, by decide +kernel, rfl, by decide +kernel, by decide +kernel⟩
theorem node_step {f : Addr} {fd : FuncData} {Ks Ms : List W} {d : Nat} {spR : Sp} (F : Fun K "_law_node" "_law_node" sNode f fd) (T : Txt mg) (D1 : Has P w K mg base 1 "_law_take" ["_law_pool_here", "_law_many"] spTake)
    (mN : mg "_law_node" = some (.ref f)) (kN : PySem.W.keepIn K (.ref f) = true) (bN : Binds K fd ["_law_pool_here", "_law_depth", "_law_kinds", "_law_marks"] []) (hK1 : 1 ≤ Ks.length) (hK : Ks.length < 1000) (hM : Ms.length < 1000)
    (G : FnOk P w K mg base CX0 (d + 1) f fd ["_law_pool_here", "_law_depth", "_law_kinds", "_law_marks"] spR) (hR : d ≠ 0 → spR = spNode Ks Ms (d - 1)) :
    FnOk P w K mg base CX0 (d + 2) f fd ["_law_pool_here", "_law_depth", "_law_kinds", "_law_marks"] (spNode Ks Ms d) := by
  obtain ⟨fT, fdT, GT, mT, kT, bT⟩ := D1
  refine F.ok scNode (fun vs H Q E h => ?_) (fun cdv A outer s H vs Q E hr h => ?_)
  · obtain ⟨_, _, _, _, _, rfl, _⟩ := h
    rfl
  · obtain ⟨p, ka, ma, a, b, rfl, pool, hk, hm, fin⟩ := h
    have hr1 : Room 1 _ := hr.mono (by omega)
    refine ⟨_, pss_cons (ps_set (i := 4) scNode.nd rfl (Or.inl rfl) (pe_ix ix_list (pv 2) (pe_call GT hr1 (by rfl) mT kT bT .nil pass0 (pa_cons (pv 0) (pa_cons (pe_callB call_len_seq (by rfl) T.len PySem.boot_len (pa_cons (pv 2) pa_nil)) pa_nil))) (fun _ _ => rfl)))
      (pss_cons (ps_setLc (i := 5) (own := [("_law_mark", 7)]) (g := gName 7) (tt := tTest (tOp rEq (tCall spTake [] E0 (tCons (tVar 0) (tCons (tC (.int 3)) tNil))) (tC (.int 0)))) rfl scNode.nd rfl rfl (by rfl) (pi_list (pv 3))
          (blkOk_by (N := ["_law_pool_here", "_law_depth", "_law_kinds", "_law_marks", "_law_kind", "_law_own", "_law_many", "_law_mark", "_law_turn"]) (sc := defScope sNode) (by decide +kernel)) (fun _ _ _ _ _ => pg_name (i := 7) scNode.nd rfl (Or.inl rfl))
          (fun _ _ _ _ _ => pts_one (pt_cmpR op_eq (pe_call GT hr1 (by rfl) mT kT bT .nil pass0 (pa_cons (pv 0) (pa_cons pe_int pa_nil))) pe_int rfl)) (fun _ _ _ _ _ => pv 7))
      (pss_cons (ps_set (i := 6) scNode.nd rfl (Or.inl rfl) (pe_ifExp (pt_cmpR op_gt (pv 1) pe_int rfl) (pe_call GT hr1 (by rfl) mT kT bT .nil pass0 (pa_cons (pv 0) (pa_cons pe_int pa_nil))) pe_int))
      (pss_one (ps_ret (pe_lst (pa_cons (pv 4) (pa_cons (pv 5) (pa_cons (pe_lc (own := [("_law_turn", 8)]) (g := gName 8) (tt := tYes) rfl scNode.nd (pi_range1 (by rfl) T.range (pa_cons (pv 6) pa_nil))
          (blkOk_by (N := ["_law_pool_here", "_law_depth", "_law_kinds", "_law_marks", "_law_kind", "_law_own", "_law_many", "_law_mark", "_law_turn"]) (sc := defScope sNode) (by decide +kernel)) (fun _ _ _ _ _ => pg_name (i := 8) scNode.nd rfl (Or.inl rfl)) (fun _ _ _ _ _ => pts_nil)
          (fun _ _ _ _ _ => pe_call G hr (by rfl) mN kN bN .nil pass0 (pa_cons (pv 0) (pa_cons (pe_op op_sub (pv 1) pe_int) (pa_cons (pv 2) (pa_cons (pv 3) pa_nil)))))) pa_nil)))))))), ?_⟩
    have B := big
    have kne : ka ≠ p := pool_ne pool hk strs_ne
    have mne : ma ≠ p := pool_ne pool hm strs_ne
    obtain ⟨hp0, pa, pb, pb2⟩ := id pool
    refine ⟨_, rfl, _, rfl, _, rfl, ka, _, rfl, .inl (SqL.of hk), p, _, a, b, rfl, pool, by rw [List.length_map]; omega, by rw [List.length_map]; omega, fun j a1 b1 j0 j1 ha1 hb1 hb2 => ?_⟩
    generalize g1 : upd H p _ = H1
    have o1 : Off p H H1 := g1 ▸ Off.put
    have p1 : Pool H1 p a1 b1 := ⟨g1 ▸ upd_same, ha1, hb1, hb2⟩
    have k1 := o1 _ _ kne hk
    have m1 := o1 _ _ mne hm
    obtain ⟨jn, rfl⟩ : ∃ n : Nat, j = (n : Int) := ⟨j.toNat, by omega⟩
    have jlt : jn < Ks.length := by
      rw [List.length_map] at j1
      omega
    have kat : (Ks.map sv)[jn]? = some (sv (Ks.getD jn [])) := by
      rw [List.getElem?_map, List.getD_eq_getElem?_getD, List.getElem?_eq_getElem jlt]
      rfl
    have kin : Ks.getD jn [] ∈ Ks := by
      rw [List.getD_eq_getElem?_getD, List.getElem?_eq_getElem jlt]
      exact List.getElem_mem jlt
    generalize Ks.getD jn [] = kw at kat kin
    refine ⟨ka, _, _, _, rfl, rfl, SqL.of k1, atI_nat kat, ?_⟩
    -- the marks
    refine ⟨_, rfl, ma, rfl, ⟨_, SqL.of m1⟩, fun D hD => lc_it (walk_list (K := K) (a := ma) (xs := Ms.map sv)) (fun i H' => ∃ ws a' b', Off p H1 H' ∧ Pool H' p a' b' ∧ H' D = some (.lst (List.map sv ws)) ∧ ws.Sublist (Ms.take i))
      ⟨[], a1, b1, Off.refl.new hD, ⟨by rw [upd_ne (ne_of_none p1.1 hD)]; exact p1.1, p1.2⟩, upd_same, List.nil_sublist _⟩ (fun i H' _ ⟨_, _, _, o, _⟩ => SqL.of (o _ _ mne m1)) ?_ ?_⟩
    · rintro i x H2 H3 hi ⟨ws, a2, b2, o3, p3, m3, sub⟩ ⟨rfl, hx⟩
      rw [List.length_map] at hi
      rw [List.getElem?_map] at hx
      obtain ⟨u, hu, rfl⟩ := Option.map_eq_some_iff.mp hx
      have dne : D ≠ p := fun z => by rw [z] at hD; exact p1.at_ hD
      refine ⟨rfl, ?_⟩
      refine ⟨_, rfl, p, 3, a2, b2, rfl, p3, by decide, by decide, fun d3 a3 b3 d0 d1 h1 h2 h3 => ⟨rfl, _, rfl, ?_⟩⟩
      generalize g4 : upd H3 p _ = H4
      have o4 : Off p H3 H4 := g4 ▸ Off.put
      have p4 : Pool H4 p a3 b3 := ⟨g4 ▸ upd_same, h1, h2, h3⟩
      have m4 := o4 _ _ dne m3
      refine ite2 (fun c => ?_) (fun c => ?_)
      · refine ⟨_, rfl, _, m4, ?_, ws ++ [u], a3, b3, ?_, ⟨by rw [upd_ne (fun z => dne z.symm)]; exact p4.1, p4.2⟩, ?_, ?_⟩
        · rw [List.length_map]
          have := sub.length_le
          rw [List.length_take] at this
          omega
        · exact (o3.trans o4).new hD
        · rw [upd_same, List.map_append]
          rfl
        · rw [List.take_succ, hu]
          exact sub.append (List.Sublist.refl _)
      · exact ⟨ws, a3, b3, o3.trans o4, p4, m4, sub.trans (List.take_sublist_take_left (Nat.le_succ i))⟩
    · rintro H3 ⟨ws, a2, b2, o3, p3, m3, sub⟩
      rw [List.length_map, List.take_length] at sub
      have o13 := o1.trans o3
      have Dfree : H D = none := o1.free hD p1.at_
      have dne : D ≠ p := fun z => by rw [z] at hD; exact p1.at_ hD
      -- the number of the children
      have kids : ∀ (m : Nat) (H4 : Hp) (a3 b3 : Int), m ≤ 3 → (d = 0 → m = 0) → Off p H3 H4 → Pool H4 p a3 b3 →
          tLast spR { nx := fun x H' => Q V.non H', rt := Q } [some (.ref p), some (nv d), some (.ref ka), some (.ref ma), some (sv kw), some (.ref D), some (nv m), none, none] H4 := by
        intro m H4 a3 b3 hm hz o4 p4
        have o14 := o13.trans o4
        have k4 := o14 _ _ kne hk
        have m4 := o14 _ _ mne ‹H ma = _›
        refine ⟨_, rfl, _, rfl, _, rfl, _, rfl, by omega, by omega, fun G0 hE => ?_⟩
        rw [Int.toNat_natCast]
        have ene : G0 ≠ p := fun z => by rw [z] at hE; exact p4.at_ hE
        refine lc_it (walk_range (lo := 0) (n := m)) (fun i H' => ∃ (ts : List Tr) (vs : List V) (a' b' : Int), Off p H4 H' ∧ Pool H' p a' b' ∧ H' G0 = some (.lst vs) ∧ Paired (NodeAt (fun c => H4 c = none ∧ c ≠ G0) H') vs ts ∧ ts.length = i ∧ ∀ t ∈ ts, t.fits Ks Ms (d - 1))
          ⟨[], [], a3, b3, Off.refl.new hE, ⟨by rw [upd_ne (ne_of_none p4.1 hE)]; exact p4.1, p4.2⟩, upd_same, .nil, rfl, fun t z => by cases z⟩ (fun _ _ _ _ => trivial) ?_ ?_
        · rintro i x H5 H6 hi ⟨ts, vs, a4, b4, o5, p5, m5, pr, len, ft⟩ ⟨rfl, rfl⟩
          have d0 : d ≠ 0 := fun z => by
            have := hz z
            omega
          refine ⟨rfl, ?_⟩
          unfold tYes
          rw [hR d0]
          have e1 : ((d : Nat) : Int) - 1 = ((d - 1 : Nat) : Int) := by omega
          have o15 := o14.trans o5
          refine iteT ⟨_, rfl, _, rfl, _, _, rfl, rfl, _, rfl, _, rfl, p, ka, ma, a4, b4, ?_, p5, o15 _ _ kne hk, o15 _ _ mne ‹H ma = _›, fun v t H7 a5 b5 o7 p7 nd ft1 => ?_⟩
          · show [V.ref p, V.int (((d : Nat) : Int) - 1), V.ref ka, V.ref ma] = _
            rw [e1]
            rfl
          · have m7 := o7 _ _ ene m5
            have vl := pr.length
            refine ⟨vs, m7, by omega, ts ++ [t], vs ++ [v], a5, b5, (o5.trans o7).new hE, ⟨by rw [upd_ne (fun z => ene z.symm)]; exact p7.1, p7.2⟩, upd_same, ?_, by rw [List.length_append, len]; rfl, ?_⟩
            · refine Paired.snoc (Paired.mapP pr fun v1 t1 q => NodeAt.move (fun c h => h) (fun c u h e => ?_) t1 v1 q) (NodeAt.move (fun c h => ⟨o5.free h p5.at_, fun z => by rw [z, m5] at h; cases h⟩) (fun c u h e => ?_) t v nd)
              · rw [upd_ne h.2]
                exact o7 c u (fun z => p4.at_ (z ▸ h.1)) e
              · rw [upd_ne (fun z => by rw [z, m5] at h; cases h)]
                exact e
            · intro t1 h1
              rcases List.mem_append.mp h1 with h1 | h1
              · exact ft t1 h1
              · rw [List.mem_singleton.mp h1]
                exact ft1
        · rintro H5 ⟨ts, vs, a4, b4, o5, p5, m5, pr, len, ft⟩
          have o15 := o14.trans o5
          refine ⟨by show 3 ≤ sizeLine; decide, fun q hq => ?_⟩
          have nq : ∀ {c u}, H5 c = some u → c ≠ q := fun e => ne_of_none e hq
          refine fin (.ref q) (.nd kw ws (ofL ts)) _ a4 b4 (o15.new (o15.free hq p5.at_)) ⟨by rw [upd_ne (nq p5.1)]; exact p5.1, p5.2⟩ ?_ ?_
          · rw [NodeAt]
            have m35 := o5 _ _ dne (o4 _ _ dne m3)
            refine ⟨q, D, G0, vs, rfl, o15.free hq p5.at_, Dfree, o14.free hE p4.at_, upd_same, by rw [upd_ne (nq m35)]; exact m35, by rw [upd_ne (nq m5)]; exact m5, nodes_of (Paired.mapP pr fun v1 t1 z => NodeAt.move (fun c h => o14.free h.1 p4.at_) (fun c u h e => ?_) t1 v1 z)⟩
            rw [upd_ne (nq e)]
            exact e
          · rw [Tr.fits]
            refine ⟨kin, sub, by rw [ofL_len]; omega, fun z => ?_, fits_of ft⟩
            have : ts = [] := List.length_eq_zero_iff.mp (by rw [len, hz z])
            rw [this]
            rfl
      refine ⟨_, rfl, _, _, rfl, rfl, _, rfl, ?_⟩
      by_cases c : (0 : Int) < ((d : Nat) : Int)
      · rw [decide_eq_true c]
        refine iteT ?_
        refine ⟨_, rfl, p, 4, a2, b2, rfl, p3, by decide, by decide, fun d3 a3 b3 d0 d1 h1 h2 h3 => ?_⟩
        obtain ⟨m, rfl⟩ : ∃ n : Nat, d3 = (n : Int) := ⟨d3.toNat, by omega⟩
        exact kids m _ a3 b3 (by omega) (fun z => by omega) Off.put ⟨upd_same, h1, h2, h3⟩
      · rw [decide_eq_false c]
        refine iteF ?_
        exact kids 0 H3 a2 b2 (by decide) (fun _ => rfl) Off.refl p3
theorem never_ok {k : Nat} {f : Addr} {fd : FuncData} {ps : List Str} : FnOk P w K mg base CX0 k f fd ps (fun _ _ _ _ => False) :=
  { len := fun _ _ _ _ h => h.elim, run := fun _ _ _ _ _ _ _ _ _ _ _ _ _ h => h.elim }
theorem ok_node {f : Addr} {fd : FuncData} {Ks Ms : List W} (F : Fun K "_law_node" "_law_node" sNode f fd) (T : Txt mg) (D1 : Has P w K mg base 1 "_law_take" ["_law_pool_here", "_law_many"] spTake)
    (mN : mg "_law_node" = some (.ref f)) (kN : PySem.W.keepIn K (.ref f) = true) (bN : Binds K fd ["_law_pool_here", "_law_depth", "_law_kinds", "_law_marks"] []) (hK1 : 1 ≤ Ks.length) (hK : Ks.length < 1000) (hM : Ms.length < 1000) :
    ∀ d, FnOk P w K mg base CX0 (d + 2) f fd ["_law_pool_here", "_law_depth", "_law_kinds", "_law_marks"] (spNode Ks Ms d)
  | 0 => node_step F T D1 mN kN bN hK1 hK hM never_ok fun z => absurd rfl z
  | d + 1 => node_step F T D1 mN kN bN hK1 hK hM (ok_node F T D1 mN kN bN hK1 hK hM d) fun _ => rfl
end
end K04

namespace K04
open PySem L2 DR DM TL
def _root_.DM.Trs.toL : Trs → List Tr
  | .nil => []
  | .cons t ts => t :: ts.toL
theorem toL_len : ∀ ts : Trs, ts.toL.length = ts.len
  | .nil => rfl
  | .cons t ts => congrArg (· + 1) (toL_len ts)
theorem nodes_to {N : Addr → Prop} {H : Hp} : ∀ {ts : Trs} {vs : List V}, NodesAt N H vs ts → Paired (NodeAt N H) vs ts.toL
  | .nil, vs, h => by
    rw [NodesAt] at h
    subst h
    exact .nil
  | .cons t ts, vs, h => by
    rw [NodesAt] at h
    obtain ⟨v, r, rfl, h1, h2⟩ := h
    exact .cons h1 (nodes_to h2)
theorem fits_to {Ks Ms : List W} {d : Nat} : ∀ {ts : Trs}, ts.fits Ks Ms d → ∀ t ∈ ts.toL, t.fits Ks Ms d
  | .nil, _, t, h => by cases h
  | .cons u ts, h, t, m => by
    rw [Trs.fits] at h
    rcases List.mem_cons.mp m with rfl | m
    · exact h.1
    · exact fits_to h.2 t m
/-- the text of a node, its marks sorted -/
noncomputable def txt (t : Tr) : W := (t.sortT srt).text
theorem more_eq : ∀ (ts : Trs) (t : Tr), txt t ++ (ts.sortT srt).more = joinL [44] (txt t :: ts.toL.map txt) ++ [41]
  | .nil, t => by
    rw [Trs.sortT, Trs.more]
    rfl
  | .cons u us, t => by
    rw [Trs.sortT, Trs.more, Trs.toL, List.map_cons]
    have ih := more_eq us u
    show txt t ++ 44 :: (txt u ++ (us.sortT srt).more) = (txt t ++ ([44] ++ joinL [44] (txt u :: us.toL.map txt))) ++ [41]
    rw [ih]
    simp
theorem txt_nd (k : W) (ms : List W) (ks : Trs) : txt (.nd k ms ks) = headL k (srt ms) ++ (if ks.toL = [] then [] else 40 :: (joinL [44] (ks.toL.map txt) ++ [41])) := by
  unfold txt
  rw [Tr.sortT, Tr.text]
  cases ks with
  | nil =>
    rw [Trs.sortT, Trs.wrap]
    rfl
  | cons t ts =>
    rw [Trs.sortT, Trs.wrap, if_neg (by rw [Trs.toL]; exact fun z => by cases z)]
    have := more_eq ts t
    show _ ++ 40 :: (txt t ++ (ts.sortT srt).more) = _
    rw [this]
    rfl
theorem srt_perm (ms : List W) : (srt ms).Perm ms := by
  unfold srt
  split
  · rename_i h
    exact (Classical.choose_spec h).1
  · exact .refl _
theorem flat_le : ∀ l : List W, (∀ w ∈ l, w.length ≤ 8) → l.flatten.length ≤ 8 * l.length
  | [], _ => Nat.le_refl _
  | w :: l, h => by
    have h1 := h w (List.mem_cons_self ..)
    have h2 := flat_le l fun x hx => h x (List.mem_cons_of_mem _ hx)
    rw [List.flatten_cons, List.length_append, List.length_cons]
    omega
structure Short (Ks Ms : List W) : Prop where
  ks : ∀ w ∈ Ks, 1 ≤ w.length ∧ w.length ≤ 8
  ms : ∀ w ∈ Ms, w.length ≤ 8
  few : Ms.length ≤ 3
theorem head_small {Ks Ms : List W} (S : Short Ks Ms) {k : W} {ms : List W} (hk : k ∈ Ks) (hm : ms.Sublist Ms) : 1 ≤ (headL k (srt ms)).length ∧ (headL k (srt ms)).length ≤ 35 ∧ (srt ms).length ≤ 3 ∧ ((srt ms).map fun m => 46 :: m).flatten.length ≤ 27 := by
  have p := srt_perm ms
  have l1 : (srt ms).length ≤ 3 := by
    rw [p.length_eq]
    exact Nat.le_trans hm.length_le S.few
  have l2 := flat_le (srt ms) fun w hw => S.ms w (hm.subset (p.subset hw))
  have l3 := head_len k (srt ms)
  obtain ⟨k1, k2⟩ := S.ks k hk
  have l4 : (headL k (srt ms)).length = k.length + ((srt ms).map fun m => 46 :: m).flatten.length := by
    unfold headL
    rw [List.length_append]
  rw [List.flatten_cons, List.length_append] at l3
  omega
def bnd : Nat → Nat
  | 0 => 35
  | d + 1 => 40 + 3 * (bnd d + 1)
theorem joinL_len (y : W) (b : Nat) (hy : y.length ≤ 1) : ∀ l : List W, (∀ w ∈ l, w.length ≤ b) → (joinL y l).length ≤ l.length * (b + 1)
  | [], _ => Nat.zero_le _
  | [w], h => by
    have := h w (List.mem_cons_self ..)
    show w.length ≤ _
    simp
    omega
  | w :: v :: l, h => by
    have h1 := h w (List.mem_cons_self ..)
    have h2 := joinL_len y b hy (v :: l) fun x hx => h x (List.mem_cons_of_mem _ hx)
    show (w ++ (y ++ joinL y (v :: l))).length ≤ _
    rw [List.length_append, List.length_append, List.length_cons, Nat.succ_mul]
    omega
theorem txt_len {Ks Ms : List W} (S : Short Ks Ms) : ∀ (d : Nat) (t : Tr), t.fits Ks Ms d → (txt t).length ≤ bnd d ∧ 1 ≤ (txt t).length
  | d, .nd k ms ks, h => by
    rw [Tr.fits] at h
    obtain ⟨hk, hm, h3, h0, hf⟩ := h
    obtain ⟨l0, l1, l2, _⟩ := head_small S hk hm
    rw [txt_nd, List.length_append]
    by_cases c : ks.toL = []
    · rw [if_pos c]
      refine ⟨?_, by omega⟩
      cases d with
      | zero => exact l1
      | succ d =>
        show _ + 0 ≤ 40 + _
        omega
    · cases d with
      | zero =>
        rw [h0 rfl] at c
        exact absurd rfl c
      | succ d =>
        have q := joinL_len [44] (bnd d) (Nat.le_refl _) (ks.toL.map txt) (fun w hw => by
          obtain ⟨t, ht, rfl⟩ := List.mem_map.mp hw
          exact (txt_len S d t (fits_to hf t ht)).1)
        rw [List.length_map, toL_len] at q
        rw [if_neg c, List.length_cons, List.length_append]
        have : ks.len * (bnd d + 1) ≤ 3 * (bnd d + 1) := Nat.mul_le_mul_right _ h3
        refine ⟨?_, by omega⟩
        show _ + (_ + 1 + 1) ≤ 40 + 3 * (bnd d + 1)
        omega
theorem bnd_le : ∀ d, d ≤ 4 → bnd d ≤ 5000 := by decide
theorem joinL_ne (y x : W) (hx : 1 ≤ x.length) (l : List W) : joinL y (x :: l) ≠ [] := fun z => by
  cases l with
  | nil =>
    have : x = [] := z
    rw [this] at hx
    exact absurd hx (by decide)
  | cons v l =>
    have : x ++ (y ++ joinL y (v :: l)) = [] := z
    rw [(List.append_eq_nil_iff.mp this).1] at hx
    exact absurd hx (by decide)
theorem prd_get {α β : Type} {F : α → β → Prop} : ∀ {us : List α} {rs : List β}, Paired F us rs → ∀ {i : Nat} {x : α}, us[i]? = some x → ∃ r, rs[i]? = some r ∧ F x r
  | _, _, .cons r _, 0, x, h => by
    injection h with h
    exact ⟨_, rfl, h ▸ r⟩
  | _, _, .cons _ t, i + 1, x, h => prd_get t (i := i) h
  | _, _, .nil, i, x, h => by simp at h
theorem sum_le (l : List W) (h : ∀ w ∈ l, w.length ≤ 5000) : l.flatten.length ≤ 5000 * l.length := by
  induction l with
  | nil => exact Nat.le_refl _
  | cons w l ih =>
    have h1 := h w (List.mem_cons_self ..)
    have h2 := ih fun x hx => h x (List.mem_cons_of_mem _ hx)
    rw [List.flatten_cons, List.length_append, List.length_cons]
    omega
abbrev sLText : Stmt := top 30
def spLText (Ks Ms : List W) (d : Nat) : Sp := fun vs H Q _ => ∃ (v : V) (t : Tr) (N : Addr → Prop), vs = [v] ∧ NodeAt N H v t ∧ t.fits Ks Ms d ∧ ∀ H', Same H H' → Q (sv (txt t)) H'
section
variable {P : Program} {w : World} {K : PySem.W.Frag} {mg : Str → Option Value} {base : Heap}
theorem scLText : FnScope ["_law_node_here", "_law_head", "_law_inner", "_law_mark", "_law_child"] ["_law_node_here"] (defScope sLText) := ⟨rfl, rfl, rfl, by decide +kernel, rfl, by decide +kernel, by decide +kernel⟩
theorem ltext_step {f : Addr} {fd : FuncData} {Ks Ms : List W} {d : Nat} {spR : Sp} (F : Fun K "_law_text" "_law_text" sLText f fd) (T : Txt mg) (S : Short Ks Ms) (hd4 : d ≤ 4)
    (mN : mg "_law_text" = some (.ref f)) (kN : PySem.W.keepIn K (.ref f) = true) (bN : Binds K fd ["_law_node_here"] [])
    (G : FnOk P w K mg base CX0 (d + 1) f fd ["_law_node_here"] spR) (hR : d ≠ 0 → spR = spLText Ks Ms (d - 1)) : FnOk P w K mg base CX0 (d + 2) f fd ["_law_node_here"] (spLText Ks Ms d) := by
  refine F.ok scLText (fun vs H Q E h => ?_) (fun cdv A outer s H vs Q E hr h => ?_)
  · obtain ⟨_, _, _, rfl, _⟩ := h
    rfl
  · obtain ⟨v, t, N, rfl, nd, ft, fin⟩ := h
    refine ⟨_, pss_cons (ps_set (i := 1) scLText.nd rfl (Or.inl rfl) (pe_op op_add_str (pe_ix ix_list (pv 0) pe_int (fun _ _ => rfl)) (pe_join pe_str (pe_lc (own := [("_law_mark", 3)]) (g := gName 3) (tt := tYes) rfl scLText.nd
          (pi_list (pe_callB cr_sortedS (by rfl) T.sorted PyProof.Rows.boot_sorted (pa_cons (pe_ix ix_list (pv 0) pe_int (fun _ _ => rfl)) pa_nil)))
          (blkOk_by (N := ["_law_node_here", "_law_head", "_law_inner", "_law_mark", "_law_child"]) (sc := defScope sLText) (by decide +kernel)) (fun _ _ _ _ _ => pg_name (i := 3) scLText.nd rfl (Or.inl rfl)) (fun _ _ _ _ _ => pts_nil)
          (fun _ _ _ _ _ => pe_op op_add_str pe_str (pv 3))))))
      (pss_cons (ps_set (i := 2) scLText.nd rfl (Or.inl rfl) (pe_join pe_str (pe_lc (own := [("_law_child", 4)]) (g := gName 4) (tt := tYes) rfl scLText.nd (pi_list (pe_ix ix_list (pv 0) pe_int (fun _ _ => rfl)))
          (blkOk_by (N := ["_law_node_here", "_law_head", "_law_inner", "_law_mark", "_law_child"]) (sc := defScope sLText) (by decide +kernel)) (fun _ _ _ _ _ => pg_name (i := 4) scLText.nd rfl (Or.inl rfl)) (fun _ _ _ _ _ => pts_nil)
          (fun _ _ _ _ _ => pe_call G hr (by rfl) mN kN bN .nil pass0 (pa_cons (pv 4) pa_nil)))))
      (pss_one (ps_ret (pe_ifExp (pt_cmpR op_ne (pv 2) pe_str rfl) (pe_op op_add_str (pe_op op_add_str (pe_op op_add_str (pv 1) pe_str) (pv 2)) pe_str) (pv 1))))), ?_⟩
    have B := big
    cases t with
    | nd k ms ks =>
    rw [NodeAt] at nd
    obtain ⟨a, m, b, us, rfl, na, nm, nb, h1, h2, h3, h4⟩ := nd
    rw [Tr.fits] at ft
    obtain ⟨hk, hm, l3, h0, hf⟩ := ft
    obtain ⟨t0, t1, t2, t3⟩ := head_small S hk hm
    have pr := nodes_to h4
    have dot : ("." : Str) = toS [46] := by decide +kernel
    have com : ("," : Str) = toS [44] := by decide +kernel
    have emp : ("" : Str) = toS [] := by decide +kernel
    have few : ms.length ≤ 3 := Nat.le_trans hm.length_le S.few
    refine ⟨_, rfl, a, _, 0, _, rfl, rfl, SqL.of h1, atI_nat (j := 0) rfl, ⟨"", rfl⟩, _, rfl, a, _, 1, _, rfl, rfl, SqL.of h1, atI_nat (j := 1) rfl, m, ms.map toS, rfl, SqL.of (by rw [h2, List.map_map]; rfl), by rw [List.length_map]; omega, fun ys sa pe so hsa => ?_⟩
    have es : (ys.map V.str) = (srt ms).map sv := by
      have q := srt_eq (pe.map tl) (rises_of so)
      rw [List.map_map, show (tl ∘ toS) = id from rfl, List.map_id] at q
      rw [q, List.map_map]
      refine List.map_congr_left fun y _ => ?_
      show V.str y = V.str (toS (tl y))
      rw [toS_tl]
    rw [es]
    generalize g1 : upd H sa _ = H1
    have s1 : Same H H1 := g1 ▸ same_new hsa
    have m1 : H1 sa = some (.lst ((srt ms).map sv)) := g1 ▸ upd_same
    refine ⟨sa, rfl, ⟨_, SqL.of m1⟩, fun D hD => lc_it (walk_list (K := K) (a := sa) (xs := (srt ms).map sv)) (fun i H' => Same H1 H' ∧ H' D = some (.lst (((srt ms).take i).map fun w => sv (46 :: w))))
      ⟨same_new hD, upd_same⟩ (fun i H' _ ⟨s, _⟩ => SqL.of (s _ _ m1)) ?_ ?_⟩
    · rintro i x H2 H3 hi ⟨s2, m2⟩ ⟨rfl, hx⟩
      rw [List.length_map] at hi
      rw [List.getElem?_map] at hx
      obtain ⟨u, hu, rfl⟩ := Option.map_eq_some_iff.mp hx
      refine ⟨rfl, ?_⟩
      unfold tYes
      have ul : u.length ≤ 8 := S.ms u (hm.subset ((srt_perm ms).subset (List.mem_of_getElem? hu)))
      refine iteT ⟨_, rfl, _, _, rfl, rfl, ?_, _, m2, ?_, same_put s2 hD, ?_⟩
      · rw [toS_len]
        show 1 + _ ≤ _
        omega
      · rw [List.length_map, List.length_take]
        omega
      · rw [upd_same, List.take_succ, hu, List.map_append, dot, toS_app]
        rfl
    rintro H2 ⟨s2, m2⟩
    rw [List.length_map, List.take_length] at m2
    have s12 := s1.trans s2
    refine ⟨"", D, ((srt ms).map fun w => 46 :: w).map toS, rfl, rfl, .inl (SqL.of (by rw [m2, List.map_map, List.map_map]; rfl)), ?_, _, _, rfl, rfl, ?_, ?_⟩
    · rw [sum_len]
      show _ + _ * 0 ≤ _
      omega
    · rw [emp, join_text, join_nil, toS_len, toS_len]
      have := (S.ks k hk).2
      omega
    rw [emp, join_text, join_nil, toS_app, show k ++ ((srt ms).map fun w => 46 :: w).flatten = headL k (srt ms) from rfl]
    have tn := txt_nd k ms ks
    generalize headL k (srt ms) = hd at t0 t1 tn ⊢
    -- the children
    refine ⟨⟨",", rfl⟩, _, rfl, a, _, 2, _, rfl, rfl, SqL.of (s12 _ _ h1), atI_nat (j := 2) rfl, b, rfl, ⟨_, SqL.of (s12 _ _ h3)⟩, fun D2 hD2 => lc_it (walk_list (K := K) (a := b) (xs := us)) (fun i H' => Same H2 H' ∧ H' D2 = some (.lst ((ks.toL.take i).map fun t => sv (txt t))))
      ⟨same_new hD2, upd_same⟩ (fun i H' _ ⟨s, _⟩ => SqL.of (s _ _ (s12 _ _ h3))) ?_ ?_⟩
    · rintro i x H3 H4 hi ⟨s3, m3⟩ ⟨rfl, hx⟩
      obtain ⟨t, ht, nt⟩ := prd_get pr hx
      have mt := List.mem_of_getElem? ht
      have d0 : d ≠ 0 := fun z => by
        rw [h0 z] at mt
        cases mt
      refine ⟨rfl, ?_⟩
      unfold tYes
      rw [hR d0]
      have s13 := s12.trans s3
      refine iteT ⟨_, rfl, x, t, N, rfl, NodeAt.move (fun _ h => h) (fun c u _ e => s13 _ _ e) t x nt, fits_to hf t mt, fun H5 s5 => ⟨_, s5 _ _ m3, ?_, same_put (s3.trans s5) hD2, ?_⟩⟩
      · rw [List.length_map, List.length_take]
        have := pr.length
        have := toL_len ks
        omega
      · rw [upd_same, List.take_succ, ht, List.map_append]
        rfl
    rintro H3 ⟨s3, m3⟩
    rw [pr.length, List.take_length] at m3
    have kl := toL_len ks
    have tb : ∀ w ∈ ks.toL.map txt, w.length ≤ 5000 ∧ 1 ≤ w.length := fun w hw => by
      obtain ⟨t, ht, rfl⟩ := List.mem_map.mp hw
      obtain ⟨q1, q2⟩ := txt_len S (d - 1) t (fits_to hf t ht)
      exact ⟨Nat.le_trans q1 (bnd_le (d - 1) (by omega)), q2⟩
    have jl := joinL_len [44] 5000 (Nat.le_refl _) (ks.toL.map txt) fun w hw => (tb w hw).1
    rw [List.length_map] at jl
    have sl := sum_le (ks.toL.map txt) fun w hw => (tb w hw).1
    rw [List.length_map] at sl
    refine ⟨",", D2, (ks.toL.map txt).map toS, rfl, rfl, .inl (SqL.of (by rw [m3, List.map_map, List.map_map]; rfl)), ?_, ?_⟩
    · rw [sum_len, List.length_map, List.length_map]
      show _ + _ * 1 ≤ _
      omega
    rw [com, join_text]
    have te : (!decide (V.str (toS (joinL [44] (ks.toL.map txt))) = V.str "")) = !decide (joinL [44] (ks.toL.map txt) = []) := by
      rw [emp]
      exact congrArg not (sv_is _ _)
    refine ⟨_, rfl, rfl, _, congrArg V.bl te, ?_⟩
    have opn : ("(" : Str) = toS [40] := by decide +kernel
    have sht : (")" : Str) = toS [41] := by decide +kernel
    have ll : (joinL [44] (ks.toL.map txt)).length ≤ 15003 := by
      rw [kl] at jl
      have : ks.len * (5000 + 1) ≤ 3 * (5000 + 1) := Nat.mul_le_mul_right _ l3
      omega
    by_cases c : ks.toL = []
    · have jz : joinL [44] (ks.toL.map txt) = [] := by
        rw [c]
        rfl
      rw [decide_eq_true jz]
      refine iteF ⟨_, rfl, ?_⟩
      rw [tn, if_pos c, List.append_nil] at fin
      exact fin _ (s12.trans s3)
    · have ne : joinL [44] (ks.toL.map txt) ≠ [] := by
        cases e : ks.toL with
        | nil => exact absurd e c
        | cons t ts =>
          rw [List.map_cons]
          exact joinL_ne _ _ (tb _ (by rw [e, List.map_cons]; exact List.mem_cons_self ..)).2 _
      rw [decide_eq_false ne]
      refine iteT ⟨_, rfl, _, _, rfl, rfl, ?_, _, rfl, _, _, rfl, rfl, ?_, _, _, rfl, rfl, ?_, ?_⟩
      · rw [toS_len]
        show _ + 1 ≤ _
        omega
      · rw [opn, toS_app, toS_len, toS_len, List.length_append]
        show _ + 1 + _ ≤ _
        omega
      · rw [opn, toS_app, toS_app, toS_len, List.length_append, List.length_append]
        show _ + 1 + _ + 1 ≤ _
        omega
      · rw [opn, sht, toS_app, toS_app, toS_app]
        rw [tn, if_neg c] at fin
        have e : hd ++ [40] ++ joinL [44] (ks.toL.map txt) ++ [41] = hd ++ 40 :: (joinL [44] (ks.toL.map txt) ++ [41]) := by simp
        rw [e]
        exact fin _ (s12.trans s3)
theorem ok_ltext {f : Addr} {fd : FuncData} {Ks Ms : List W} (F : Fun K "_law_text" "_law_text" sLText f fd) (T : Txt mg) (S : Short Ks Ms) (mN : mg "_law_text" = some (.ref f)) (kN : PySem.W.keepIn K (.ref f) = true) (bN : Binds K fd ["_law_node_here"] []) :
    ∀ d, d ≤ 4 → FnOk P w K mg base CX0 (d + 2) f fd ["_law_node_here"] (spLText Ks Ms d)
  | 0, h => ltext_step F T S h mN kN bN never_ok fun z => absurd rfl z
  | d + 1, h => ltext_step F T S h mN kN bN (ok_ltext F T S mN kN bN d (by omega)) fun _ => rfl
end
end K04

namespace K04
open PySem L2 DR DM TL
/-- the nodes below the first n of a row of children -/
def kn (p : Pth) (l : List Tr) : Nat → List (Pth × Tr)
  | 0 => []
  | n + 1 => kn p l n ++ match l[n]? with
    | some t => t.nodes (p ++ [n])
    | none => []
theorem kn_nodes (p : Pth) : ∀ (ts : Trs) (pre : List Tr), kn p (pre ++ ts.toL) pre.length ++ ts.nodes p pre.length = kn p (pre ++ ts.toL) (pre.length + ts.len)
  | .nil, pre => by
    rw [Trs.nodes, List.append_nil]
    rfl
  | .cons t ts, pre => by
    have ih := kn_nodes p ts (pre ++ [t])
    rw [List.length_append, List.append_assoc] at ih
    have e : kn p (pre ++ (t :: ts.toL)) (pre.length + 1) = kn p (pre ++ (t :: ts.toL)) pre.length ++ t.nodes (p ++ [pre.length]) := by
      show kn p (pre ++ (t :: ts.toL)) pre.length ++ (match (pre ++ (t :: ts.toL))[pre.length]? with | some t => t.nodes (p ++ [pre.length]) | none => []) = _
      rw [List.getElem?_append_right (Nat.le_refl _), Nat.sub_self]
      rfl
    rw [Trs.nodes, Trs.toL, Trs.len, ← List.append_assoc, ← e, show pre.length + (ts.len + 1) = pre.length + 1 + ts.len by omega]
    exact ih
theorem kids_nodes (p : Pth) (ts : Trs) : ts.nodes p 0 = kn p ts.toL ts.toL.length := by
  have := kn_nodes p ts []
  rw [toL_len]
  simpa [kn] using this
theorem kn_mono (p : Pth) (l : List Tr) {m : Nat} : ∀ {n : Nat}, n ≤ m → (kn p l n).length ≤ (kn p l m).length := by
  induction m with
  | zero =>
    intro n h
    rw [Nat.le_zero.mp h]
    exact Nat.le_refl _
  | succ m ih =>
    intro n h
    rcases Nat.lt_or_ge m n with c | c
    · rw [show n = m + 1 by omega]
      exact Nat.le_refl _
    · refine Nat.le_trans (ih c) ?_
      show _ ≤ (kn p l m ++ _).length
      rw [List.length_append]
      exact Nat.le_add_right _ _
theorem paired_append {α β : Type} {F : α → β → Prop} : ∀ {a : List α} {b : List β} {c : List α} {d : List β}, Paired F a b → Paired F c d → Paired F (a ++ c) (b ++ d)
  | _, _, _, _, .nil, h => h
  | _, _, _, _, .cons x t, h => .cons x (paired_append t h)
theorem prd_get2 {α β : Type} {F : α → β → Prop} : ∀ {us : List α} {rs : List β}, Paired F us rs → ∀ {i : Nat} {r : β}, rs[i]? = some r → ∃ x, us[i]? = some x ∧ F x r
  | _, _, .cons r _, 0, x, h => by
    injection h with h
    exact ⟨_, rfl, h ▸ r⟩
  | _, _, .cons _ t, i + 1, x, h => prd_get2 t (i := i) h
  | _, _, .nil, i, x, h => by simp at h
def nb : Nat → Nat
  | 0 => 1
  | d + 1 => 1 + 3 * nb d
theorem nb_pos : ∀ d, 1 ≤ nb d
  | 0 => Nat.le_refl _
  | d + 1 => Nat.le_add_right _ _
theorem nodes_le {Ks Ms : List W} : ∀ (d : Nat) (t : Tr), t.fits Ks Ms d → ∀ p, (t.nodes p).length ≤ nb d
  | d, .nd k ms ks, h, p => by
    rw [Tr.fits] at h
    obtain ⟨hk, hm, h3, h0, hf⟩ := h
    rw [Tr.nodes, List.length_cons, kids_nodes]
    cases d with
    | zero =>
      rw [h0 rfl]
      exact Nat.le_refl _
    | succ d =>
      have gen : ∀ n, (kn p ks.toL n).length ≤ n * nb d := fun n => by
        induction n with
        | zero => exact Nat.zero_le _
        | succ n ih =>
          show (kn p ks.toL n ++ _).length ≤ _
          rw [List.length_append, Nat.succ_mul]
          have : (match ks.toL[n]? with | some t => t.nodes (p ++ [n]) | none => []).length ≤ nb d := by
            split
            · rename_i t e
              exact nodes_le d t (fits_to hf t (List.mem_of_getElem? e)) _
            · exact Nat.zero_le _
          omega
      have g := gen ks.toL.length
      rw [toL_len] at g ⊢
      have : ks.len * nb d ≤ 3 * nb d := Nat.mul_le_mul_right _ h3
      show _ ≤ 1 + 3 * nb d
      omega
theorem nb_le : ∀ d, d ≤ 4 → nb d ≤ 121 := by decide
abbrev sLPaths : Stmt := top 31
def spLPaths (Ks Ms : List W) (d : Nat) : Sp := fun vs H Q _ => ∃ (v px : V) (t : Tr) (N : Addr → Prop) (q : Pth), vs = [v, px] ∧ NodeAt N H v t ∧ t.fits Ks Ms d ∧ PthAt H px q ∧ q.length + d ≤ 10 ∧
  ∀ D ws H', H D = none → Same H H' → H' D = some (.lst ws) → PthsAt H' ws ((t.nodes q).map (·.1)) → Q (.ref D) H'
section
variable {P : Program} {w : World} {K : PySem.W.Frag} {mg : Str → Option Value} {base : Heap}
theorem scLPaths : FnScope ["_law_node_here", "_law_path", "_law_found", "_law_index", "_law_child"] ["_law_node_here", "_law_path"] (defScope sLPaths) := ⟨rfl, rfl, rfl, by decide +kernel, rfl, by decide +kernel, by decide +kernel⟩
theorem lpaths_step {f : Addr} {fd : FuncData} {Ks Ms : List W} {d : Nat} {spR : Sp} (F : Fun K "_law_paths" "_law_paths" sLPaths f fd) (T : Txt mg) (hd4 : d ≤ 4)
    (mN : mg "_law_paths" = some (.ref f)) (kN : PySem.W.keepIn K (.ref f) = true) (bN : Binds K fd ["_law_node_here", "_law_path"] [])
    (G : FnOk P w K mg base CX0 (d + 1) f fd ["_law_node_here", "_law_path"] spR) (hR : d ≠ 0 → spR = spLPaths Ks Ms (d - 1)) : FnOk P w K mg base CX0 (d + 2) f fd ["_law_node_here", "_law_path"] (spLPaths Ks Ms d) := by
  refine F.ok scLPaths (fun vs H Q E h => ?_) (fun cdv A outer s H vs Q E hr h => ?_)
  · obtain ⟨_, _, _, _, _, rfl, _⟩ := h
    rfl
  · obtain ⟨v, px, t, N, q, rfl, nd, ft, pa, ql, fin⟩ := h
    refine ⟨_, pss_cons (ps_set (i := 2) scLPaths.nd rfl (Or.inl rfl) (pe_lst (pa_cons (pv 1) pa_nil)))
      (pss_cons (ps_for PassesOwn.never rfl (pi_enum (by rfl) T.enum (pa_cons (pe_ix ix_list (pv 0) pe_int (fun _ _ => rfl)) pa_nil)) (pg_tup rfl (pgs_cons (pg_name (i := 3) scLPaths.nd rfl (Or.inl rfl)) (pgs_cons (pg_name (i := 4) scLPaths.nd rfl (Or.inl rfl)) pgs_nil)))
        (pss_one (ps_set (i := 2) scLPaths.nd rfl (Or.inl rfl) (pe_op op_cat (pv 2) (pe_call G hr (by rfl) mN kN bN .nil pass0 (pa_cons (pv 4) (pa_cons (pe_op op_catA (pv 1) (pe_tup (pa_cons (pv 3) pa_nil))) pa_nil)))))))
      (pss_one (ps_ret (pv 2)))), ?_⟩
    have B := big
    cases t with
    | nd k ms ks =>
    have full := nodes_le d _ ft q
    rw [Tr.nodes, List.length_cons] at full
    have nbl := nb_le d hd4
    rw [NodeAt] at nd
    obtain ⟨a, m, b, us, rfl, na, nm, nb', h1, h2, h3, h4⟩ := nd
    rw [Tr.fits] at ft
    obtain ⟨hk, hm, l3, h0, hf⟩ := ft
    have pr := nodes_to h4
    obtain ⟨pp, rfl, hpp⟩ := pa
    rw [Tr.nodes, List.map_cons] at fin
    refine ⟨_, rfl, by show 1 ≤ sizeLine; decide, fun D0 hD0 => ?_⟩
    generalize g1 : upd H D0 _ = H1
    have s1 : Same H H1 := g1 ▸ same_new hD0
    have m1 : H1 D0 = some (.lst [.ref pp]) := g1 ▸ upd_same
    have cap : ∀ n, n ≤ ks.toL.length → (kn q ks.toL n).length ≤ 121 := fun n hn => by
      have : (kn q ks.toL n).length ≤ (kn q ks.toL ks.toL.length).length := kn_mono q ks.toL hn
      rw [kids_nodes] at full
      omega
    refine ⟨_, rfl, a, _, 2, _, rfl, rfl, SqL.of (s1 _ _ h1), atI_nat (j := 2) rfl, b, us, rfl, SqL.of (s1 _ _ h3), for_it (walk_enum (K := K) (a := b) (xs := us)) (fun i σ H' => ∃ (o3 o4 : Option V) (D : Addr) (ws : List V), σ = [some (.ref a), some (.ref pp), some (.ref D), o3, o4] ∧ Same H H' ∧ H D = none ∧
      H' D = some (.lst ws) ∧ PthsAt H' ws (q :: (kn q ks.toL i).map (·.1))) ⟨none, none, D0, _, rfl, s1, hD0, m1, .cons ⟨pp, rfl, s1 _ _ hpp⟩ .nil⟩ (fun i σ H' _ ⟨_, _, _, _, _, s, _⟩ => SqL.of (s _ _ h3)) ?_ ?_⟩
    · rintro i x σ H2 H3 hi ⟨o3, o4, D, ws, rfl, s2, nD, m2, wa⟩ ⟨T0, x1, x2, rfl, hT0, rfl, e1, e2⟩
      obtain rfl := Option.some.inj e1
      obtain ⟨t, ht, nt⟩ := prd_get pr e2
      have mt := List.mem_of_getElem? ht
      have d0 : d ≠ 0 := fun z => by
        rw [h0 z] at mt
        cases mt
      generalize g3 : upd H2 T0 _ = H3
      have s3 : Same H2 H3 := g3 ▸ same_new hT0
      have m3 : H3 T0 = some (.tup [.int (i : Nat), x2]) := g3 ▸ upd_same
      have s13 := s2.trans s3
      refine ⟨T0, _, rfl, .inl (.inl m3), rfl, _, _, rfl, _, _, rfl, rfl, ?_⟩
      rw [hR d0]
      refine ⟨_, rfl, _, rfl, _, rfl, _, rfl, by show 1 ≤ sizeLine; decide, fun c hc => ?_⟩
      generalize g4 : upd H3 c _ = H4
      have s4 : Same H3 H4 := g4 ▸ same_new hc
      have m4 : H4 c = some (.tup [.int (i : Nat)]) := g4 ▸ upd_same
      have s14 := s13.trans s4
      have call : ∀ (y : Addr) (H5 : Hp), Same H4 H5 → H5 y = some (.tup ((q ++ [i]).map nv)) → True := fun _ _ _ _ => trivial
      refine ⟨pp, c, _, _, rfl, rfl, .inl (.inl (s14 _ _ hpp)), .inl (.inl m4), ?_, fun z => ?_, fun _ z => absurd z (by simp), fun _ _ y hy => ?_⟩
      · rw [List.length_map]
        show _ + 1 ≤ _
        omega
      · have q0 : q = [] := List.map_eq_nil_iff.mp z
        have mc : H4 c = some (.tup ((q ++ [i]).map nv)) := by
          rw [m4, q0]
          rfl
        have s44 : Same H4 H4 := Same.refl H4
        have s15 := s14.trans s44
        refine ⟨x2, .ref c, t, N, q ++ [i], rfl, NodeAt.move (fun _ h => h) (fun c u _ e => s15 _ _ e) t x2 nt, fits_to hf t mt, ⟨c, rfl, mc⟩, ?_, fun D2 ws2 H6 n6 s6 m6 wa6 => ?_⟩
        · rw [List.length_append]
          show _ + 1 + _ ≤ _
          omega
        · have s26 : Same H2 H6 := s3.trans (s4.trans (s44.trans s6))
          have m26 := s26 _ _ m2
          have nx : kn q ks.toL (i + 1) = kn q ks.toL i ++ t.nodes (q ++ [i]) := by
            show kn q ks.toL i ++ (match ks.toL[i]? with | some t => t.nodes (q ++ [i]) | none => []) = _
            rw [ht]
          have len : ws.length + ws2.length ≤ 122 := by
            have c1 := cap (i + 1) (by have := pr.length; omega)
            rw [nx, List.length_append] at c1
            rw [wa.length, wa6.length, List.length_cons, List.length_map, List.length_map]
            omega
          refine ⟨D, D2, ws, ws2, rfl, rfl, m26, m6, by omega, fun E hE => ?_⟩
          have sE : Same H6 (upd H6 E (.lst (ws ++ ws2))) := same_new hE
          refine ⟨_, _, E, ws ++ ws2, rfl, (s2.trans s26).trans sE, (s2.trans s26).free hE, upd_same, ?_⟩
          rw [nx, List.map_append, ← List.cons_append]
          exact paired_append ((wa.same s26).same sE) (wa6.same sE)
      · generalize g5 : upd H4 y _ = H5
        have s45 : Same H4 H5 := g5 ▸ same_new hy
        have my : H5 y = some (.tup ((q ++ [i]).map nv)) := g5 ▸ (upd_same.trans (by rw [List.map_append]; rfl))
        have s15 := s14.trans s45
        refine ⟨x2, .ref y, t, N, q ++ [i], rfl, NodeAt.move (fun _ h => h) (fun c u _ e => s15 _ _ e) t x2 nt, fits_to hf t mt, ⟨y, rfl, my⟩, ?_, fun D2 ws2 H6 n6 s6 m6 wa6 => ?_⟩
        · rw [List.length_append]
          show _ + 1 + _ ≤ _
          omega
        · have s26 : Same H2 H6 := s3.trans (s4.trans (s45.trans s6))
          have m26 := s26 _ _ m2
          have nx : kn q ks.toL (i + 1) = kn q ks.toL i ++ t.nodes (q ++ [i]) := by
            show kn q ks.toL i ++ (match ks.toL[i]? with | some t => t.nodes (q ++ [i]) | none => []) = _
            rw [ht]
          have len : ws.length + ws2.length ≤ 122 := by
            have c1 := cap (i + 1) (by have := pr.length; omega)
            rw [nx, List.length_append] at c1
            rw [wa.length, wa6.length, List.length_cons, List.length_map, List.length_map]
            omega
          refine ⟨D, D2, ws, ws2, rfl, rfl, m26, m6, by omega, fun E hE => ?_⟩
          have sE : Same H6 (upd H6 E (.lst (ws ++ ws2))) := same_new hE
          refine ⟨_, _, E, ws ++ ws2, rfl, (s2.trans s26).trans sE, (s2.trans s26).free hE, upd_same, ?_⟩
          rw [nx, List.map_append, ← List.cons_append]
          exact paired_append ((wa.same s26).same sE) (wa6.same sE)
    · rintro σ H2 ⟨o3, o4, D, ws, rfl, s2, nD, m2, wa⟩
      refine ⟨_, rfl, fin D ws _ nD s2 m2 ?_⟩
      rw [kids_nodes, ← pr.length]
      exact wa
theorem ok_lpaths {f : Addr} {fd : FuncData} {Ks Ms : List W} (F : Fun K "_law_paths" "_law_paths" sLPaths f fd) (T : Txt mg) (mN : mg "_law_paths" = some (.ref f)) (kN : PySem.W.keepIn K (.ref f) = true) (bN : Binds K fd ["_law_node_here", "_law_path"] []) :
    ∀ d, d ≤ 4 → FnOk P w K mg base CX0 (d + 2) f fd ["_law_node_here", "_law_path"] (spLPaths Ks Ms d)
  | 0, h => lpaths_step F T h mN kN bN never_ok fun z => absurd rfl z
  | d + 1, h => lpaths_step F T h mN kN bN (ok_lpaths F T mN kN bN d (by omega)) fun _ => rfl
abbrev sLAt : Stmt := top 32
/-- the node below a path -/
def _root_.DM.Tr.at_ : Tr → Pth → Option Tr
  | t, [] => some t
  | .nd _ _ ks, i :: p => match ks.toL[i]? with
    | some u => u.at_ p
    | none => none
def spLAt : Sp := fun vs H Q _ => ∃ (v px : V) (t u : Tr) (N : Addr → Prop) (q : Pth), vs = [v, px] ∧ NodeAt N H v t ∧ PthAt H px q ∧ t.at_ q = some u ∧ ∀ y, NodeAt N H y u → Q y H
theorem scLAt : FnScope ["_law_node_here", "_law_path", "_law_index"] ["_law_node_here", "_law_path"] (defScope sLAt) := ⟨rfl, rfl, rfl, by decide +kernel, rfl, by decide +kernel, by decide +kernel⟩
theorem at_nil (t : Tr) : t.at_ [] = some t := by
  cases t
  rw [Tr.at_]
theorem at_snoc : ∀ (p : Pth) (t u : Tr) (i : Nat), t.at_ p = some u → t.at_ (p ++ [i]) = u.at_ [i]
  | [], t, u, i, h => by
    rw [at_nil] at h
    injection h with h
    rw [h]
    rfl
  | j :: p, .nd k ms ks, u, i, h => by
    rw [Tr.at_] at h
    rw [List.cons_append, Tr.at_]
    cases e : ks.toL[j]? with
    | none =>
      rw [e] at h
      cases h
    | some x =>
      rw [e] at h
      exact at_snoc p x u i h
theorem at_take : ∀ (q : Pth) (n : Nat) (t u : Tr), t.at_ q = some u → ∃ x, t.at_ (q.take n) = some x
  | q, 0, t, u, _ => ⟨t, by rw [List.take_zero, at_nil]⟩
  | [], n + 1, t, u, h => ⟨u, h⟩
  | j :: q, n + 1, .nd k ms ks, u, h => by
    rw [Tr.at_] at h
    rw [List.take_succ_cons, Tr.at_]
    cases e : ks.toL[j]? with
    | none =>
      rw [e] at h
      cases h
    | some x =>
      rw [e] at h
      exact at_take q n x u h
theorem ok_lat {f : Addr} {fd : FuncData} (F : Fun K "_law_at" "_law_at" sLAt f fd) : FnOk P w K mg base CX0 1 f fd ["_law_node_here", "_law_path"] spLAt := by
  refine F.ok scLAt (fun vs H Q E h => ?_) (fun cdv A outer s H vs Q E hr h => ?_)
  · obtain ⟨_, _, _, _, _, _, rfl, _⟩ := h
    rfl
  · obtain ⟨v, px, t, u, N, q, rfl, nd, ⟨pp, rfl, hpp⟩, at_, fin⟩ := h
    refine ⟨_, pss_cons (ps_for PassesOwn.never rfl (pi_tup (pv 1)) (pg_name (i := 2) scLAt.nd rfl (Or.inl rfl)) (pss_one (ps_set (i := 0) scLAt.nd rfl (Or.inl rfl) (pe_ix ix_list (pe_ix ix_list (pv 0) pe_int (fun _ _ => rfl)) (pv 2) (fun _ _ => rfl)))))
      (pss_one (ps_ret (pv 0))), ?_⟩
    refine ⟨_, rfl, pp, rfl, ⟨_, .inl (.inl hpp)⟩, for_it (walk_tup (K := K) (a := pp) (xs := q.map nv)) (fun i σ H' => ∃ (y : V) (o2 : Option V) (x : Tr), σ = [some y, some (.ref pp), o2] ∧ H = H' ∧ t.at_ (q.take i) = some x ∧ NodeAt N H' y x)
      ⟨v, none, t, rfl, rfl, by rw [List.take_zero, at_nil], nd⟩ (fun i σ H' _ ⟨_, _, _, _, e, _⟩ => e ▸ .inl (.inl hpp)) ?_ ?_⟩
    · rintro i x0 σ H1 H2 hi ⟨y, o2, x, rfl, rfl, ax, nx⟩ ⟨rfl, hx⟩
      rw [List.getElem?_map] at hx
      obtain ⟨n, hn, rfl⟩ := Option.map_eq_some_iff.mp hx
      have tk : q.take (i + 1) = q.take i ++ [n] := by
        rw [List.take_succ, hn]
        rfl
      obtain ⟨z, hz⟩ := at_take q (i + 1) t u at_
      rw [tk, at_snoc _ t x n ax] at hz
      cases x with
      | nd k ms ks =>
      rw [NodeAt] at nx
      obtain ⟨a, m, b, us, rfl, na, nm, nb', h1, h2, h3, h4⟩ := nx
      have pr := nodes_to h4
      rw [Tr.at_] at hz
      cases e : ks.toL[n]? with
      | none =>
        rw [e] at hz
        cases hz
      | some w0 =>
        rw [e] at hz
        replace hz := (at_nil _).symm.trans hz
        injection hz with hz
        subst hz
        obtain ⟨y1, hy1, ny1⟩ := prd_get2 pr e
        refine ⟨_, rfl, a, _, 2, _, rfl, rfl, SqL.of h1, atI_nat (j := 2) rfl, _, rfl, b, us, _, y1, rfl, rfl, SqL.of h3, atI_nat hy1, y1, _, w0, rfl, rfl, ?_, ny1⟩
        rw [tk, at_snoc _ t _ n ax, Tr.at_, e]
        exact at_nil _
    · rintro σ H1 ⟨y, o2, x, rfl, rfl, ax, nx⟩
      rw [List.length_map, List.take_length, at_] at ax
      injection ax with ax
      subst ax
      exact ⟨_, rfl, fin y nx⟩
end
end K04

namespace K04
open PySem L2 DR DM TL
mutual
theorem nodes_at : ∀ (t : Tr) (p : Pth), ∀ x ∈ t.nodes p, ∃ r, x.1 = p ++ r ∧ t.at_ r = some x.2
  | .nd k ms ks, p, x, h => by
    rw [Tr.nodes] at h
    rcases List.mem_cons.mp h with rfl | h
    · exact ⟨[], (List.append_nil _).symm, at_nil _⟩
    · obtain ⟨j, u, r, e1, e2, e3, _⟩ := nodess_at ks p 0 x h
      rw [Nat.zero_add] at e1
      refine ⟨j :: r, e1, ?_⟩
      rw [Tr.at_, e2]
      exact e3
theorem nodess_at : ∀ (ts : Trs) (p : Pth) (i : Nat), ∀ x ∈ ts.nodes p i, ∃ j u r, x.1 = p ++ ((i + j) :: r) ∧ ts.toL[j]? = some u ∧ u.at_ r = some x.2 ∧ True
  | .nil, p, i, x, h => by
    rw [Trs.nodes] at h
    exact absurd h List.not_mem_nil
  | .cons t ts, p, i, x, h => by
    rw [Trs.nodes] at h
    rcases List.mem_append.mp h with h | h
    · obtain ⟨r, e1, e2⟩ := nodes_at t (p ++ [i]) x h
      exact ⟨0, t, r, by rw [e1]; simp, rfl, e2, trivial⟩
    · obtain ⟨j, u, r, e1, e2, e3, _⟩ := nodess_at ts p (i + 1) x h
      exact ⟨j + 1, u, r, by rw [e1, show i + (j + 1) = i + 1 + j by omega], e2, e3, trivial⟩
end
mutual
theorem nodes_dup : ∀ (t : Tr) (p : Pth), ((t.nodes p).map (·.1)).Nodup
  | .nd k ms ks, p => by
    rw [Tr.nodes, List.map_cons, List.nodup_cons]
    refine ⟨fun h => ?_, nodess_dup ks p 0⟩
    obtain ⟨x, hx, e⟩ := List.mem_map.mp h
    obtain ⟨j, u, r, e1, _⟩ := nodess_at ks p 0 x hx
    have : x.1 = p := e
    rw [this] at e1
    have := congrArg List.length e1
    rw [List.length_append, List.length_cons] at this
    omega
theorem nodess_dup : ∀ (ts : Trs) (p : Pth) (i : Nat), ((ts.nodes p i).map (·.1)).Nodup
  | .nil, p, i => by
    rw [Trs.nodes]
    exact List.nodup_nil
  | .cons t ts, p, i => by
    rw [Trs.nodes, List.map_append, List.nodup_append]
    refine ⟨nodes_dup t _, nodess_dup ts p (i + 1), fun a ha b hb e => ?_⟩
    obtain ⟨x, hx, rfl⟩ := List.mem_map.mp ha
    obtain ⟨y, hy, rfl⟩ := List.mem_map.mp hb
    obtain ⟨r, e1, _⟩ := nodes_at t _ x hx
    obtain ⟨j, u, r', e2, _⟩ := nodess_at ts p (i + 1) y hy
    have e : x.1 = y.1 := e
    rw [e1, e2, List.append_assoc] at e
    have := List.append_cancel_left e
    rw [List.singleton_append] at this
    injection this with h1 _
    omega
end
theorem nodup_inj {α : Type} : ∀ {l : List α}, l.Nodup → ∀ {i j : Nat} {x : α}, l[i]? = some x → l[j]? = some x → i = j
  | [], _, i, j, x, h, _ => by simp at h
  | y :: l, nd, 0, 0, x, _, _ => rfl
  | y :: l, nd, 0, j + 1, x, h1, h2 => by
    injection h1 with h1
    exact absurd (h1 ▸ List.mem_of_getElem? (l := l) (by simpa using h2)) (List.nodup_cons.mp nd).1
  | y :: l, nd, i + 1, 0, x, h1, h2 => by
    injection h2 with h2
    exact absurd (h2 ▸ List.mem_of_getElem? (l := l) (by simpa using h1)) (List.nodup_cons.mp nd).1
  | y :: l, nd, i + 1, j + 1, x, h1, h2 => congrArg (· + 1) (nodup_inj (List.nodup_cons.mp nd).2 (by simpa using h1) (by simpa using h2))
theorem plc_get {qs : List Pth} (nd : qs.Nodup) : ∀ n, n ≤ qs.length → ∀ (i : Nat) (q : Pth), qs[i]? = some q → i < n → valV (plc qs n) (pk q) = some (nv i)
  | 0, _, i, q, _, h => absurd h (Nat.not_lt_zero _)
  | n + 1, hn, i, q, hi, h => by
    have hx : qs[n]? = some (qs[n]'hn) := List.getElem?_eq_getElem hn
    show valV (match qs[n]? with | some q => putK (plc qs n) (pk q) (nv n) | none => plc qs n) (pk q) = _
    rw [hx]
    show valV (putK (plc qs n) (pk qs[n]) (nv n)) (pk q) = _
    rw [valV_put]
    by_cases c : i = n
    · subst c
      rw [hx] at hi
      injection hi with hi
      rw [if_pos (by rw [hi])]
    · rw [if_neg (fun z => ?_)]
      · exact plc_get nd n (by omega) i q hi (by omega)
      · have e := pk_inj z
        exact c (nodup_inj nd hi (by rw [e]; exact hx))
theorem plc_only {qs : List Pth} : ∀ n (k : List Key), (valV (plc qs n) k).isSome = true → ∃ q ∈ qs, k = pk q
  | 0, k, h => by
    rw [show plc qs 0 = [] from rfl, valV_nil] at h
    cases h
  | n + 1, k, h => by
    have h : (valV (match qs[n]? with | some q => putK (plc qs n) (pk q) (nv n) | none => plc qs n) k).isSome = true := h
    cases e : qs[n]? with
    | none =>
      rw [e] at h
      exact plc_only n k h
    | some q =>
      rw [e] at h
      have h : (valV (putK (plc qs n) (pk q) (nv n)) k).isSome = true := h
      rw [valV_put] at h
      by_cases c : k = pk q
      · exact ⟨q, List.mem_of_getElem? e, c⟩
      · rw [if_neg c] at h
        exact plc_only n k h
/-- all that the document of a tree tells of its i-th node -/
structure NodeOf (rs : List Row) (i : Nat) (q : Pth) (s : Tr) : Prop where
  lt : i < rs.length
  row : rs.getD i (0, [], []) = (q.length, s.kind, srt s.marks)
  part : partM rs i = s.rows srt 0
  kids : (kidsM rs i).length = s.kids.len
  place : valV (plc (pathsM rs) rs.length) (pk q) = some (nv i)
theorem tw_all {α : Type} {p : α → Bool} : ∀ (a b : List α), (∀ x ∈ a, p x = true) → (∀ x r, b = x :: r → p x = false) → (a ++ b).takeWhile p = a
  | [], [], _, _ => rfl
  | [], x :: b, _, h => by
    rw [List.nil_append, List.takeWhile_cons, h x b rfl]
    rfl
  | x :: a, b, h1, h2 => by
    rw [List.cons_append, List.takeWhile_cons, h1 x (List.mem_cons_self ..), if_pos rfl, tw_all a b (fun y hy => h1 y (List.mem_cons_of_mem _ hy)) h2]
theorem filt_range {rs : List Row} {d : Nat} : ∀ (n i : Nat), i + n ≤ rs.length → (((List.range n).map (i + ·)).filter fun j => decide (depM rs j = d)).length = (((rs.drop i).take n).filter fun r => decide (r.1 = d)).length
  | 0, i, _ => by simp
  | n + 1, i, h => by
    have ih := filt_range (rs := rs) (d := d) n i (by omega)
    have lt : i + n < rs.length := by omega
    have g : (rs.drop i)[n]? = some (rs.getD (i + n) (0, [], [])) := by
      rw [List.getElem?_drop, List.getD_eq_getElem?_getD, List.getElem?_eq_getElem lt]
      rfl
    rw [List.range_succ, List.map_append, List.filter_append, List.length_append, ih, List.take_succ, g, List.filter_append, List.length_append]
    congr 1
    show (List.filter (fun j => decide (depM rs j = d)) [i + n]).length = (List.filter (fun r => decide (r.1 = d)) [rs.getD (i + n) (0, [], [])]).length
    by_cases c : depM rs (i + n) = d
    · rw [List.filter_cons, List.filter_cons, if_pos (decide_eq_true c), if_pos (decide_eq_true (show (rs.getD (i + n) (0, [], [])).1 = d from c))]
      rfl
    · rw [List.filter_cons, List.filter_cons, if_neg (by rw [decide_eq_false c]; decide), if_neg (by rw [decide_eq_false (show ¬ (rs.getD (i + n) (0, [], [])).1 = d from c)]; decide)]
      rfl
theorem node_of (t : Tr) (i : Nat) (q : Pth) (s : Tr) (h : (t.nodes [])[i]? = some (q, s)) : NodeOf (t.rows srt 0) i q s := by
  obtain ⟨_, post, hd, lo⟩ := seg_tree t [] i q s h
  have hd : (t.rows srt 0).drop i = s.rows srt q.length ++ post := hd
  have lt : i < (t.rows srt 0).length := by
    rw [← nodes_len t [] 0]
    exact (List.getElem?_eq_some_iff.mp h).1
  generalize hr : t.rows srt 0 = rs at hd lt ⊢
  have sh := rows_head s q.length
  have g0 : rs.getD i (0, [], []) = (q.length, s.kind, srt s.marks) := by
    have : (rs.drop i)[0]? = some (q.length, s.kind, srt s.marks) := by
      rw [hd, sh]
      rfl
    rw [List.getElem?_drop, Nat.add_zero] at this
    rw [List.getD_eq_getElem?_getD, this]
    rfl
  have dep : depM rs i = q.length := congrArg Prod.fst g0
  have d1 : rs.drop (i + 1) = s.kids.rows srt (q.length + 1) ++ post := by
    have : rs.drop (i + 1) = (rs.drop i).drop 1 := by rw [List.drop_drop]
    rw [this, hd, sh]
    rfl
  have tw : ((rs.drop (i + 1)).takeWhile fun r => decide (depM rs i < r.1)) = s.kids.rows srt (q.length + 1) := by
    rw [d1, dep]
    refine tw_all _ _ (fun x hx => decide_eq_true (rowss_deep _ _ x hx)) fun x r e => decide_eq_false ?_
    have := lo x r e
    omega
  have en : endM rs i = i + 1 + (s.kids.rows srt (q.length + 1)).length := by
    show i + 1 + ((rs.drop (i + 1)).takeWhile fun r => decide (depM rs i < r.1)).length = _
    rw [tw]
  have kl : i + 1 + (s.kids.rows srt (q.length + 1)).length ≤ rs.length := by
    have := congrArg List.length d1
    rw [List.length_drop, List.length_append] at this
    omega
  refine ⟨lt, g0, ?_, ?_, ?_⟩
  · unfold partM
    have l2 : endM rs i - i = (s.rows srt q.length).length := by
      rw [en, sh, List.length_cons]
      omega
    rw [l2, hd, List.take_left, dep]
    have mv := move_tree s 0 q.length
    rw [Nat.zero_add] at mv
    rw [mv, List.map_map]
    refine (List.map_congr_left fun r _ => ?_).trans (List.map_id _)
    show ((((r.1 + q.length : Nat) : Int) + -(q.length : Int)).toNat, r.2) = r
    rw [show (((r.1 + q.length : Nat) : Int) + -(q.length : Int)).toNat = r.1 by omega]
  · unfold kidsM
    rw [en, show i + 1 + (s.kids.rows srt (q.length + 1)).length - (i + 1) = (s.kids.rows srt (q.length + 1)).length by omega, filt_range _ _ kl, d1, List.take_left, dep]
    exact kids_count s.kids (q.length + 1)
  · have pt := path_text (srt := srt) t
    rw [hr] at pt
    refine plc_get (by rw [pt]; exact nodes_dup t []) _ (by rw [paths_len]; exact Nat.le_refl _) i q ?_ lt
    rw [pt, List.getElem?_map, h]
    rfl
end K04

namespace K04
open PySem L2 DR DM TL
abbrev sBetween : Stmt := top 5
def spBetween : Sp := fun vs H Q _ => ∃ x l m : Int, vs = [.int x, .int l, .int m] ∧ Q (.bl (decide (l ≤ x) && decide (x ≤ m))) H
def spReplaced (C : Addr) : Sp := fun vs H Q _ => ∃ (a : Addr) (rs : List Row) (i : Nat) (x : V) (r : Row), vs = [.ref a, nv i, x] ∧ DocAt C H a rs ∧ i < rs.length ∧ RowAt H x r ∧ Few (rs.take i ++ r :: rs.drop (i + 1)) ∧
  ∀ b H', Same H H' → DocAt C H' b (rs.take i ++ r :: rs.drop (i + 1)) → Q (.ref b) H'
def spRenamed (C : Addr) : Sp := fun vs H Q _ => ∃ (a : Addr) (rs : List Row) (x : V) (q : Pth) (i : Nat) (k : W), vs = [.ref a, x, sv k] ∧ DocAt C H a rs ∧ PthAt H x q ∧ q.length ≤ 1000 ∧ i < rs.length ∧ valV (plc (pathsM rs) rs.length) (pk q) = some (nv i) ∧ isName k = true ∧
  Few (rs.take i ++ ((rs.getD i (0, [], [])).1, k, (rs.getD i (0, [], [])).2.2) :: rs.drop (i + 1)) ∧ ∀ b H', Same H H' → DocAt C H' b (rs.take i ++ ((rs.getD i (0, [], [])).1, k, (rs.getD i (0, [], [])).2.2) :: rs.drop (i + 1)) → Q (.ref b) H'
section
variable {P : Program} {w : World} {K : PySem.W.Frag} {mg : Str → Option Value} {base : Heap}
theorem scBetween : FnScope ["value", "least", "most"] ["value", "least", "most"] (defScope sBetween) := ⟨rfl, rfl, rfl, by decide +kernel, rfl, by decide +kernel, by decide +kernel⟩
theorem ok_between {f : Addr} {fd : FuncData} (F : Fun K "is_between" "is_between" sBetween f fd) (D1 : Has P w K mg base 1 "is_integer" ["value"] (spInt K)) : FnOk P w K mg base CX0 2 f fd ["value", "least", "most"] spBetween := by
  obtain ⟨fI, fdI, GI, mI, kI, bI⟩ := D1
  refine F.ok scBetween (fun vs H Q E h => ?_) (fun cdv A outer s H vs Q E hr h => ?_)
  · obtain ⟨_, _, _, rfl, _⟩ := h
    rfl
  · obtain ⟨x, l, m, rfl, fin⟩ := h
    refine ⟨_, pss_one (ps_ret (pe_and (pe_call GI hr (by rfl) mI kI bI .nil pass0 (pa_cons (pv 0) pa_nil)) (pe_one (pe_chain op_le op_le (pv 1) (pv 0) (pv 2))))), ?_⟩
    refine ⟨_, rfl, .int x, .type "int", true, false, rfl, .base (.int x), by rfl, by rfl, _, rfl, iteT ⟨_, rfl, _, rfl, _, _, rfl, rfl, _, rfl, ?_⟩⟩
    by_cases c : l ≤ x
    · rw [decide_eq_true c, Bool.true_and] at fin
      rw [decide_eq_true c]
      exact iteT ⟨_, rfl, _, _, rfl, rfl, fin⟩
    · rw [decide_eq_false c, Bool.false_and] at fin
      rw [decide_eq_false c]
      exact iteF fin
theorem scReplaced : FnScope ["self", "at", "row"] ["self", "at", "row"] (defScope (cDoc 16)) := ⟨rfl, rfl, rfl, by decide +kernel, rfl, by decide +kernel, by decide +kernel⟩
theorem ok_replaced {f C : Addr} {fd : FuncData} (F : Fun K "_replaced" "Document._replaced" (cDoc 16) f fd) (DC : DCls K mg C) (D4 : C8.Mak P w K mg base 2 "Document" C (spInit C) []) : FnOk P w K mg base CX0 4 f fd ["self", "at", "row"] (spReplaced C) := by
  refine F.ok scReplaced (fun vs H Q E h => ?_) (fun cdv A outer s H vs Q E hr h => ?_)
  · obtain ⟨_, _, _, _, _, rfl, _⟩ := h
    rfl
  · obtain ⟨a, rs, i, x, r, rfl, dc, hi, hx, few, fin⟩ := h
    refine ⟨_, pss_one (ps_ret (C8.pe_mk D4 hr (by decide) (by rfl) (pa_cons (pe_tup (StX.pa_star (pe_slice sl_tupA (pe_fld (pv 0) rfl) po_none (po_some (pv 1))) (pa_cons (pv 2) (StX.pa_star (pe_slice sl_tupA (pe_fld (pv 0) rfl) (po_some (pe_op op_add (pv 1) pe_int)) po_none) pa_nil)))) pa_nil))), ?_⟩
    have B := big
    obtain ⟨dx, rr, p, d, us, ws, h1, h2, h3, h4, h5, h6, fw⟩ := id dc
    have ul := h3.length
    have z1 : ((i : Nat) : Int) + 1 = ((i + 1 : Nat) : Int) := by omega
    refine ⟨_, rfl, a, C, dx, _, _, rfl, h1, DC.cls, DC.rows, rfl, _, rfl, _, rfl, rr, us, rfl, .inl (.inl h2), fun z => ?_, fun _ b hb => ?_⟩
    · have z2 : HT.sIx us.length us.length (some ((i : Nat) : Int)) = us.length := z.2
      rw [HT.sIx_nat] at z2
      omega
    · rw [show cutV us none (some (nvi i)) = us.take i from cut_to us i]
      generalize g2 : upd H b _ = H2
      have s2 : Same H H2 := g2 ▸ same_new hb
      have m2 : H2 b = some (.tup (us.take i)) := g2 ▸ upd_same
      refine ⟨b, _, rfl, .inl (.inl (.inl m2)), _, rfl, _, rfl, a, C, dx, _, _, rfl, s2 _ _ h1, DC.cls, DC.rows, rfl, _, rfl, _, _, rfl, rfl, _, rfl, rr, us, rfl, .inl (.inl (s2 _ _ h2)), fun z => ?_, fun _ c hc => ?_⟩
      · have z2 : HT.sIx us.length 0 (some (((i : Nat) : Int) + 1)) = 0 := z.1
        rw [z1, HT.sIx_nat] at z2
        omega
      · rw [show cutV us (some (((i : Nat) : Int) + 1)) none = us.drop (i + 1) from by rw [z1]; exact cut_from us (i + 1)]
        generalize g3 : upd H2 c _ = H3
        have s3 : Same H2 H3 := g3 ▸ same_new hc
        have m3 : H3 c = some (.tup (us.drop (i + 1))) := g3 ▸ upd_same
        refine ⟨c, _, rfl, .inl (.inl (.inl m3)), ?_, fun e he => ?_⟩
        · simp
          have := fw.1
          omega
        · generalize g4 : upd H3 e _ = H4
          have s4 : Same H3 H4 := g4 ▸ same_new he
          have m4 : H4 e = some (.tup (us.take i ++ x :: us.drop (i + 1))) := g4 ▸ (upd_same.trans (by simp))
          have s24 := s2.trans (s3.trans s4)
          have ra : RowsAt H4 (us.take i ++ x :: us.drop (i + 1)) (rs.take i ++ r :: rs.drop (i + 1)) := paired_append (RowsAt.same s24 (paired_take h3 i)) (.cons (hx.same s24) (RowsAt.same s24 (paired_drop h3 (i + 1))))
          intro y dy hy hdy ne
          have s5 := same_up (C := C) hy hdy
          exact ⟨y, dy, e, _, _, rfl, upd_same, .inl (s5 _ _ m4), ra.same s5, few, fun H6 o6 d6 => ⟨rfl, fin y _ (s24.trans (same_make hy hdy o6)) d6⟩⟩
theorem scRenamed : FnScope ["self", "path", "kind", "at", "depth", "_", "marks"] ["self", "path", "kind"] (defScope (cDoc 14)) := ⟨rfl, rfl, rfl, by decide +kernel, rfl, by decide +kernel, by decide +kernel⟩
theorem ok_renamed {f C : Addr} {fd : FuncData} (F : Fun K "renamed" "Document.renamed" (cDoc 14) f fd) (DC : DCls K mg C) (D1 : C8.Met P w K mg base 4 C "number_of" (spPlaceP C) []) (D2 : Has P w K mg base 1 "is_name" ["value"] spName) (D3 : C8.Met P w K mg base 4 C "_replaced" (spReplaced C) []) :
    FnOk P w K mg base CX0 5 f fd ["self", "path", "kind"] (spRenamed C) := by
  obtain ⟨fN, fdN, GN, mN, kN, bN⟩ := D2
  refine F.ok scRenamed (fun vs H Q E h => ?_) (fun cdv A outer s H vs Q E hr h => ?_)
  · obtain ⟨_, _, _, _, _, _, rfl, _⟩ := h
    rfl
  · obtain ⟨a, rs, x, q, i, k, rfl, dc, px, ql, hi, at_, nm, few, fin⟩ := h
    have hr1 : Room 1 _ := hr.mono (by decide)
    refine ⟨_, pss_cons (ps_set (i := 3) scRenamed.nd rfl (Or.inl rfl) (C8.pe_mt D1 hr (Nat.le_refl _) (pv 0) (pa_cons (pv 1) pa_nil)))
      (pss_cons (ps_if (pt_not (pt_val (pe_call GN hr1 (by rfl) mN kN bN .nil pass0 (pa_cons (pv 2) pa_nil)))) (pss_one ps_never) pss_nil)
      (pss_cons (ps_asg (pe_ix ix_tup (pe_fld (pv 0) rfl) (pv 3) (fun _ _ => rfl)) (pg_tup rfl (pgs_cons (pg_name (i := 4) scRenamed.nd rfl (Or.inl rfl)) (pgs_cons (pg_name (i := 5) scRenamed.nd rfl (Or.inl rfl)) (pgs_cons (pg_name (i := 6) scRenamed.nd rfl (Or.inl rfl)) pgs_nil)))))
      (pss_one (ps_ret (C8.pe_mt D3 hr (Nat.le_refl _) (pv 0) (pa_cons (pv 3) (pa_cons (pe_tup (pa_cons (pv 4) (pa_cons (pv 2) (pa_cons (pv 6) pa_nil)))) pa_nil))))))), ?_⟩
    have B := big
    obtain ⟨dx0, _, _, _, _, _, hd0, _⟩ := id dc
    refine ⟨_, rfl, a, dx0, _, rfl, hd0, rfl, _, rfl, a, rs, x, q, i, rfl, dc, px, ql, at_, fun H1 s1 => ?_⟩
    have nl := (isName_mem nm).2.1
    refine ⟨_, rfl, toS k, rfl, by show k.length ≤ 30000; omega, fun H2 s2 => ⟨_, rfl, ?_⟩⟩
    rw [show isName (tl (toS k)) = true from nm]
    refine iteF ?_
    have s12 := s1.trans s2
    obtain ⟨dx, rr, p, d, us, ws, h1, h2, h3, _⟩ := id (dc.same s12)
    obtain ⟨x1, r1, ux1, rx1, g1, a1, m1, rfl, ha1, hm1⟩ := row_at h3 hi
    refine ⟨_, rfl, a, C, dx, _, _, rfl, h1, DC.cls, DC.rows, rfl, _, rfl, rr, us, _, _, rfl, rfl, .inl (.inl h2), atI_nat ux1, a1, _, rfl, .inl (.inl ha1), rfl, _, _, rfl, _, _, rfl, _, _, rfl, rfl, ?_⟩
    refine ⟨_, rfl, a, dx, _, rfl, h1, rfl, _, rfl, _, rfl, _, rfl, _, rfl, by show 3 ≤ sizeLine; decide, fun e he => ?_⟩
    generalize g4 : upd H2 e _ = H4
    have s4 : Same H2 H4 := g4 ▸ same_new he
    have m4 : H4 e = some (.tup [.int (r1.1 : Nat), sv k, .ref m1]) := g4 ▸ upd_same
    rw [g1] at few fin
    exact ⟨a, rs, i, .ref e, (r1.1, k, r1.2.2), rfl, (dc.same s12).same s4, hi, ⟨e, m1, rfl, m4, s4 _ _ hm1⟩, few, fun b H' s5 d5 => fin b H' (s12.trans (s4.trans s5)) d5⟩
def spRemoved (C : Addr) : Sp := fun vs H Q _ => ∃ (a : Addr) (rs : List Row) (x : V) (q : Pth) (i : Nat), vs = [.ref a, x] ∧ DocAt C H a rs ∧ PthAt H x q ∧ q.length ≤ 1000 ∧ i < rs.length ∧ i ≠ 0 ∧ valV (plc (pathsM rs) rs.length) (pk q) = some (nv i) ∧
  ∀ b H', Same H H' → DocAt C H' b (rs.take i ++ rs.drop (endM rs i)) → Q (.ref b) H'
theorem few_cut {rs : List Row} (f : Few rs) (i e : Nat) (h : i ≤ e) : Few (rs.take i ++ rs.drop e) := by
  obtain ⟨h1, h2⟩ := f
  refine ⟨?_, fun r hr => ?_⟩
  · rw [List.length_append, List.length_take, List.length_drop]
    omega
  · rcases List.mem_append.mp hr with hr | hr
    · exact h2 r (List.mem_of_mem_take hr)
    · exact h2 r (List.mem_of_mem_drop hr)
theorem scRemoved : FnScope ["self", "path", "at"] ["self", "path"] (defScope (cDoc 13)) := ⟨rfl, rfl, rfl, by decide +kernel, rfl, by decide +kernel, by decide +kernel⟩
theorem ok_removed {f C : Addr} {fd : FuncData} (F : Fun K "removed" "Document.removed" (cDoc 13) f fd) (DC : DCls K mg C) (D1 : C8.Met P w K mg base 4 C "number_of" (spPlaceP C) []) (D2 : C8.Met P w K mg base 1 C "_end" (spEndP C) []) (D4 : C8.Mak P w K mg base 2 "Document" C (spInit C) []) :
    FnOk P w K mg base CX0 5 f fd ["self", "path"] (spRemoved C) := by
  refine F.ok scRemoved (fun vs H Q E h => ?_) (fun cdv A outer s H vs Q E hr h => ?_)
  · obtain ⟨_, _, _, _, _, rfl, _⟩ := h
    rfl
  · obtain ⟨a, rs, x, q, i, rfl, dc, px, ql, hi, i0, at_, fin⟩ := h
    refine ⟨_, pss_cons (ps_set (i := 2) scRemoved.nd rfl (Or.inl rfl) (C8.pe_mt D1 hr (Nat.le_refl _) (pv 0) (pa_cons (pv 1) pa_nil)))
      (pss_cons (ps_if (pt_cmpR op_eq (pv 2) pe_int rfl) (pss_one ps_never) pss_nil)
      (pss_one (ps_ret (C8.pe_mk D4 hr (by decide) (by rfl) (pa_cons (pe_op op_catA (pe_slice sl_tupA (pe_fld (pv 0) rfl) po_none (po_some (pv 2))) (pe_slice sl_tupA (pe_fld (pv 0) rfl) (po_some (C8.pe_mt D2 hr (by decide) (pv 0) (pa_cons (pv 2) pa_nil))) po_none)) pa_nil))))), ?_⟩
    have B := big
    obtain ⟨dx0, _, _, _, _, _, hd0, _⟩ := id dc
    refine ⟨_, rfl, a, dx0, _, rfl, hd0, rfl, _, rfl, a, rs, x, q, i, rfl, dc, px, ql, at_, fun H1 s1 => ?_⟩
    refine ⟨_, rfl, rfl, _, rfl, ?_⟩
    rw [decide_eq_false (show ¬ (nv i = V.int 0) from fun z => by injection z with z; omega)]
    refine iteF ?_
    obtain ⟨dx, rr, p, d, us, ws, h1, h2, h3, h4, h5, h6, fw⟩ := id (dc.same s1)
    have ul := h3.length
    obtain ⟨el, eu⟩ := end_le rs i hi
    refine ⟨_, rfl, a, C, dx, _, _, rfl, h1, DC.cls, DC.rows, rfl, _, rfl, _, rfl, rr, us, rfl, .inl (.inl h2), fun z => ?_, fun _ b hb => ?_⟩
    · have z2 : HT.sIx us.length us.length (some ((i : Nat) : Int)) = us.length := z.2
      rw [HT.sIx_nat] at z2
      omega
    · rw [show cutV us none (some (nvi i)) = us.take i from cut_to us i]
      generalize g2 : upd H1 b _ = H2
      have s2 : Same H1 H2 := g2 ▸ same_new hb
      have m2 : H2 b = some (.tup (us.take i)) := g2 ▸ upd_same
      refine ⟨_, rfl, a, C, dx, _, _, rfl, s2 _ _ h1, DC.cls, DC.rows, rfl, _, rfl, a, dx, _, rfl, s2 _ _ h1, rfl, _, rfl, a, rs, i, rfl, (dc.same s1).same s2, hi, _, rfl, rr, us, rfl, .inl (.inl (s2 _ _ h2)), fun z => ?_, fun _ c hc => ?_⟩
      · have z2 : HT.sIx us.length 0 (some ((endM rs i : Nat) : Int)) = 0 := z.1
        rw [HT.sIx_nat] at z2
        omega
      · rw [show cutV us (some (nvi (endM rs i))) none = us.drop (endM rs i) from cut_from us (endM rs i)]
        generalize g3 : upd H2 c _ = H3
        have s3 : Same H2 H3 := g3 ▸ same_new hc
        have m3 : H3 c = some (.tup (us.drop (endM rs i))) := g3 ▸ upd_same
        have s13 := s1.trans (s2.trans s3)
        have made : ∀ (H4 : Hp) (e : Addr), Same H3 H4 → H4 e = some (.tup (us.take i ++ us.drop (endM rs i))) → ∀ y dy, H4 y = none → H4 dy = none → dy ≠ y →
            spInit C (.ref y :: ([V.ref e] ++ [])) (upd (upd H4 dy (.own y)) y (.ins C dy [])) (fun v H2 => v = .non ∧ Q (.ref y) H2) E0 := fun H4 e s4 m4 y dy hy hdy _ => by
          have s5 := same_up (C := C) hy hdy
          have s14 := s2.trans (s3.trans s4)
          have ra : RowsAt H4 (us.take i ++ us.drop (endM rs i)) (rs.take i ++ rs.drop (endM rs i)) := paired_append (RowsAt.same s14 (paired_take h3 i)) (RowsAt.same s14 (paired_drop h3 (endM rs i)))
          exact ⟨y, dy, e, _, _, rfl, upd_same, .inl (s5 _ _ m4), ra.same s5, few_cut fw i _ (by omega), fun H6 o6 d6 => ⟨rfl, fin y _ (s13.trans (s4.trans (same_make hy hdy o6))) d6⟩⟩
        refine ⟨b, c, _, _, rfl, rfl, .inl (.inl (s3 _ _ m2)), .inl (.inl m3), ?_, fun z => ?_, fun _ z => ?_, fun _ _ e he => ?_⟩
        · rw [List.length_take, List.length_drop]
          have := fw.1
          omega
        · exact absurd z (by
            intro z
            have := congrArg List.length z
            rw [List.length_take, List.length_nil] at this
            omega)
        · refine made H3 b (Same.refl _) ?_
          rw [z, List.append_nil]
          exact s3 _ _ m2
        · exact made _ e (same_new he) upd_same
end
end K04

namespace K04
open PySem L2 DR DM TL
def PropM (P : Program) (w : World) (K : PySem.W.Frag) (mg : Str → Option Value) (base : Heap) (C : Addr) (m : Str) (sp : Sp) : Prop :=
  ∃ p g fd, PropOf K C m p g ∧ FnOk P w K mg base CX0 1 g fd ["self"] sp ∧ Binds K fd ["self"] []
/-- where a child with this index begins -/
def spotM (rs : List Row) (i j : Nat) : Nat := (kidsM rs i ++ [endM rs i]).getD j 0
def insM (rs rs2 : List Row) (i j : Nat) : List Row := rs.take (spotM rs i j) ++ rs2.map (up ((depM rs i : Int) + 1)) ++ rs.drop (spotM rs i j)
def spInserted (K : PySem.W.Frag) (C : Addr) : Sp := fun vs H Q _ => ∃ (a b : Addr) (rs rs2 : List Row) (x : V) (q : Pth) (i j : Nat), vs = [.ref a, x, nv j, .ref b] ∧ DocAt C H a rs ∧ DocAt C H b rs2 ∧ PthAt H x q ∧ q.length ≤ 1000 ∧ i < rs.length ∧
  valV (plc (pathsM rs) rs.length) (pk q) = some (nv i) ∧ j ≤ (kidsM rs i).length ∧ rs.length + rs2.length ≤ 200 ∧ Few (insM rs rs2 i j) ∧ ∀ c H', Same H H' → DocAt C H' c (insM rs rs2 i j) → Q (.ref c) H'
/-- t + u, whichever object it is -/
def rCatU : R2 := fun x y H Q => ∃ a b xs ys, x = .ref a ∧ y = .ref b ∧ H a = some (.tup xs) ∧ H b = some (.tup ys) ∧ xs ≠ [] ∧ xs.length + ys.length ≤ sizeLine ∧ ∀ r H', Same H H' → H' r = some (.tup (xs ++ ys)) → Q (.ref r) H'
theorem op_catU {X : Cx} : OpR X (binaryOp .Add) rCatU := by
  intro pins s σ H x y v u Q I rx ry ⟨a, b, xs, ys, e1, e2, h1, h2, ne, len, fin⟩
  refine op_catA pins s σ H x y v u Q I rx ry ⟨a, b, xs, ys, e1, e2, .inl (.inl h1), .inl (.inl h2), len, fun z => absurd z ne, fun _ z => fin a H (Same.refl _) (by rw [z, List.append_nil]; exact h1), fun _ _ p hp => fin p _ (same_new hp) upd_same⟩
/-- t[lo:hi], whichever object it is -/
def rSlU : V → Option Int → Option Int → Hp → VK → Prop := fun x lo hi H Q => ∃ a xs, x = .ref a ∧ H a = some (.tup xs) ∧ ∀ r H', Same H H' → H' r = some (.tup (cutV xs lo hi)) → Q (.ref r) H'
theorem sl_U {X : Cx} : SlR X rSlU := by
  intro pins s σ H x v vl vu lo hi sl Q I rx hs pl pu ⟨a, xs, e1, h1, fin⟩
  refine sl_tupA pins s σ H x v vl vu lo hi sl Q I rx hs pl pu ⟨a, xs, e1, .inl (.inl h1), fun z => fin a H (Same.refl _) ?_, fun _ p hp => fin p _ (same_new hp) upd_same⟩
  rw [h1]
  unfold cutV
  rw [z.1, z.2, List.drop_zero, Nat.sub_zero, List.take_length]
theorem spot_in {rs : List Row} {i j : Nat} (hi : i < rs.length) (hj : j ≤ (kidsM rs i).length) : i < spotM rs i j ∧ spotM rs i j ≤ rs.length ∧ ((kidsM rs i).map nv ++ [nv (endM rs i)])[j]? = some (nv (spotM rs i j)) := by
  obtain ⟨el, eu⟩ := end_le rs i hi
  have lt : j < (kidsM rs i ++ [endM rs i]).length := by
    rw [List.length_append]
    exact Nat.lt_succ_of_le hj
  have g : (kidsM rs i ++ [endM rs i])[j]? = some (spotM rs i j) := by
    unfold spotM
    rw [List.getD_eq_getElem?_getD, List.getElem?_eq_getElem lt]
    rfl
  have m := List.mem_of_getElem? g
  refine ⟨?_, ?_, ?_⟩
  · rcases List.mem_append.mp m with m | m
    · unfold kidsM at m
      obtain ⟨y, hy, e⟩ := List.mem_map.mp (List.mem_filter.mp m).1
      omega
    · rw [List.mem_singleton.mp m]
      omega
  · rcases List.mem_append.mp m with m | m
    · unfold kidsM at m
      obtain ⟨y, hy, e⟩ := List.mem_map.mp (List.mem_filter.mp m).1
      have := List.mem_range.mp hy
      omega
    · rw [List.mem_singleton.mp m]
      exact eu
  · have := congrArg (Option.map nv) g
    rw [← List.getElem?_map, List.map_append] at this
    exact this
section
variable {P : Program} {w : World} {K : PySem.W.Frag} {mg : Str → Option Value} {base : Heap}
theorem scInserted : FnScope ["self", "path", "index", "part", "at", "children", "spots", "spot", "rows"] ["self", "path", "index", "part"] (defScope (cDoc 12)) := ⟨rfl, rfl, rfl, by decide +kernel, rfl, by decide +kernel, by decide +kernel⟩
theorem ok_inserted {f C : Addr} {fd : FuncData} (F : Fun K "inserted" "Document.inserted" (cDoc 12) f fd) (T : Txt mg) (DC : DCls K mg C) (hm : mg "Document" = some (.ref C)) (hk : PySem.W.kitOne K (.ref C) (.ref C) = some true) (tyD : ∀ (H : Hp) (a dx : Addr) (fs : List (Str × V)), H a = some (.ins C dx fs) → TyX K H (.ref a) (.ref C))
    (D1 : C8.Met P w K mg base 4 C "number_of" (spPlaceP C) []) (D2 : C8.Met P w K mg base 2 C "_children" (spKidsP C) []) (D3 : C8.Met P w K mg base 1 C "_end" (spEndP C) []) (D4 : C8.Mak P w K mg base 2 "Document" C (spInit C) []) (D5 : Has P w K mg base 2 "is_between" ["value", "least", "most"] spBetween)
    (D6 : Has P w K mg base 1 "moved" ["rows", "by"] spMoved) (D7 : PropM P w K mg base C "size" (spSizeP C)) : FnOk P w K mg base CX0 5 f fd ["self", "path", "index", "part"] (spInserted K C) := by
  obtain ⟨fB, fdB, GB, mB, kB, bB⟩ := D5
  obtain ⟨fM, fdM, GM, mM, kM, bM⟩ := D6
  obtain ⟨pS, fS, fdS, prS, GS, bS⟩ := D7
  obtain ⟨uM, mMost, rMost⟩ := T.most
  refine F.ok scInserted (fun vs H Q E h => ?_) (fun cdv A outer s H vs Q E hr h => ?_)
  · obtain ⟨_, _, _, _, _, _, _, _, rfl, _⟩ := h
    rfl
  · obtain ⟨a, b, rs, rs2, x, q, i, j, rfl, dc, db, px, ql, hi, at_, hj, sz, few, fin⟩ := h
    have hr1 : Room 1 _ := hr.mono (by decide)
    have hr2 : Room 2 _ := hr.mono (by decide)
    refine ⟨_, pss_cons (ps_set (i := 4) scInserted.nd rfl (Or.inl rfl) (C8.pe_mt D1 hr (Nat.le_refl _) (pv 0) (pa_cons (pv 1) pa_nil)))
      (pss_cons (ps_set (i := 5) scInserted.nd rfl (Or.inl rfl) (C8.pe_mt D2 hr (by decide) (pv 0) (pa_cons (pv 4) pa_nil)))
      (pss_cons (ps_if (pt_not (pt_val (pe_call GB hr2 (by rfl) mB kB bB .nil pass0 (pa_cons (pv 2) (pa_cons pe_int (pa_cons (pe_callB call_len_seq (by rfl) T.len PySem.boot_len (pa_cons (pv 5) pa_nil)) pa_nil)))))) (pss_one ps_never) pss_nil)
      (pss_cons (ps_if (pt_not (pt_val (pe_callB call_isi (by rfl) T.isi PyProof.Rows.boot_isinstance (pa_cons (pv 3) (pa_cons (pe_glob (v := .ref C) (by rfl) hm rfl) pa_nil))))) (pss_one ps_never) pss_nil)
      (pss_cons (ps_if (pt_cmpR op_gt (pe_op op_add (pe_prop (pv 0) DC.cls prS GS hr2 bS .nil pass0 rfl) (pe_prop (pv 3) DC.cls prS GS hr2 bS .nil pass0 rfl)) (pe_glob (v := .int 200) (by rfl) mMost rMost) rfl) (pss_one ps_never) pss_nil)
      (pss_cons (ps_set (i := 6) scInserted.nd rfl (Or.inl rfl) (pe_lst (StX.pa_star (pv 5) (pa_cons (C8.pe_mt D3 hr (by decide) (pv 0) (pa_cons (pv 4) pa_nil)) pa_nil))))
      (pss_cons (ps_set (i := 7) scInserted.nd rfl (Or.inl rfl) (pe_ix ix_list (pv 6) (pv 2) (fun _ _ => rfl)))
      (pss_cons (ps_set (i := 8) scInserted.nd rfl (Or.inl rfl) (pe_call GM hr1 (by rfl) mM kM bM .nil pass0 (pa_cons (pe_fld (pv 3) rfl) (pa_cons (pe_op op_add (pe_ix ix_tup (pe_ix ix_tup (pe_fld (pv 0) rfl) (pv 4) (fun _ _ => rfl)) pe_int (fun _ _ => rfl)) pe_int) pa_nil))))
      (pss_one (ps_ret (C8.pe_mk D4 hr (by decide) (by rfl) (pa_cons (pe_op op_catU (pe_op op_catU (pe_slice sl_U (pe_fld (pv 0) rfl) po_none (po_some (pv 7))) (pv 8)) (pe_slice sl_U (pe_fld (pv 0) rfl) (po_some (pv 7)) po_none)) pa_nil))))))))))), ?_⟩
    have B := big
    obtain ⟨dx0, _, _, _, _, _, hd0, _⟩ := id dc
    refine ⟨_, rfl, a, dx0, _, rfl, hd0, rfl, _, rfl, a, rs, x, q, i, rfl, dc, px, ql, at_, fun H1 s1 => ?_⟩
    refine ⟨_, rfl, a, dx0, _, rfl, s1 _ _ hd0, rfl, _, rfl, a, rs, i, rfl, dc.same s1, hi, fun L H2 nL s2 m2 => ?_⟩
    have s12 := s1.trans s2
    have kl : ((kidsM rs i).map nv).length = (kidsM rs i).length := List.length_map ..
    refine ⟨_, rfl, _, rfl, L, _, rfl, .inl (SqL.of m2), ((j : Nat) : Int), 0, _, rfl, _, rfl, ?_⟩
    rw [kl, decide_eq_true (show (0 : Int) ≤ ((j : Nat) : Int) by omega), decide_eq_true (show ((j : Nat) : Int) ≤ (((kidsM rs i).length : Nat) : Int) by omega)]
    refine iteF ?_
    obtain ⟨dxb, _, _, _, _, _, hb2, _⟩ := id (db.same s12)
    refine ⟨_, rfl, .ref b, .ref C, .ref C, _, true, rfl, .own C, tyD _ _ _ _ hb2, hk, true, rfl, ?_⟩
    refine iteF ?_
    refine ⟨_, rfl, a, dx0, _, rfl, s12 _ _ hd0, a, rs, rfl, dc.same s12, _, rfl, b, dxb, _, rfl, hb2, b, rs2, rfl, db.same s12, _, _, rfl, rfl, _, _, rfl, rfl, _, rfl, ?_⟩
    rw [decide_eq_false (show ¬ (200 : Int) < ((rs.length : Nat) : Int) + ((rs2.length : Nat) : Int) by omega)]
    refine iteF ?_
    refine ⟨_, rfl, L, _, rfl, .inr (SqL.of m2), _, rfl, a, dx0, _, rfl, s12 _ _ hd0, rfl, _, rfl, a, rs, i, rfl, dc.same s12, hi, ?_, fun S hS => ?_⟩
    · obtain ⟨_, _, _, _, _, _, _, _, _, _, _, _, fw⟩ := id dc
      have h1 := (List.length_filter_le (fun j => decide (depM rs j = depM rs i + 1)) ((List.range (endM rs i - (i + 1))).map (i + 1 + ·)))
      rw [List.length_map, List.length_range] at h1
      have h2 := (end_le rs i hi).2
      have h3 := fw.1
      have h4 : (kidsM rs i).length ≤ endM rs i - (i + 1) := h1
      rw [List.length_append, kl]
      show _ + 1 ≤ _
      omega
    obtain ⟨g1, g2, g3⟩ := spot_in hi hj
    generalize gs : upd H2 S _ = H3
    have s3 : Same H2 H3 := gs ▸ same_new hS
    have m3 : H3 S = some (.lst ((kidsM rs i).map nv ++ [nv (endM rs i)])) := gs ▸ upd_same
    have s13 := s12.trans s3
    refine ⟨_, rfl, _, rfl, S, _, _, _, rfl, rfl, SqL.of m3, atI_nat g3, ?_⟩
    generalize spe : spotM rs i j = sp at g1 g2 g3
    obtain ⟨dx, rr, p, d, us, ws, h1, h2, h3, h4, h5, h6, fw⟩ := id (dc.same s13)
    obtain ⟨dxc, rb, pb, db', ub, wb, c1, c2, c3, c4, c5, c6, fwb⟩ := id (db.same s13)
    obtain ⟨x1, r1, ux1, rx1, g4, a1, m1, rfl, ha1, hm1⟩ := row_at h3 hi
    have dep1 : depM rs i = r1.1 := congrArg Prod.fst g4
    refine ⟨_, rfl, b, C, dxc, _, _, rfl, c1, DC.cls, DC.rows, rfl, _, rfl, a, C, dx, _, _, rfl, h1, DC.cls, DC.rows, rfl, _, rfl, rr, us, _, _, rfl, rfl, .inl (.inl h2), atI_nat ux1, a1, _, 0, _, rfl, rfl, .inl (.inl ha1), atI_nat (j := 0) rfl, _, _, rfl, rfl,
      rb, ub, rs2, _, rfl, c2, c3, by omega, fun r _ => by omega, fun W ws4 H4 nW s4 m4 ra4 => ?_⟩
    have s14 := s13.trans s4
    have ul := h3.length
    refine ⟨_, rfl, a, C, dx, _, _, rfl, s4 _ _ h1, DC.cls, DC.rows, rfl, _, rfl, _, rfl, rr, us, rfl, s4 _ _ h2, fun t1 H5 s5 m5 => ?_⟩
    have m5 : H5 t1 = some (.tup (us.take sp)) := by
      rw [m5]
      exact congrArg (fun z => some (HO.tup z)) (cut_to us sp)
    have ne1 : us.take sp ≠ [] := fun z => by
      have := congrArg List.length z
      rw [List.length_take, List.length_nil] at this
      omega
    have wl := ra4.length
    rw [List.length_map] at wl
    refine ⟨_, rfl, t1, W, _, _, rfl, rfl, m5, s5 _ _ m4, ne1, by rw [List.length_take]; omega, fun t2 H6 s6 m6 => ?_⟩
    have s46 := s5.trans s6
    refine ⟨_, rfl, a, C, dx, _, _, rfl, s46 _ _ (s4 _ _ h1), DC.cls, DC.rows, rfl, _, rfl, _, rfl, rr, us, rfl, s46 _ _ (s4 _ _ h2), fun t3 H7 s7 m7 => ?_⟩
    have m7 : H7 t3 = some (.tup (us.drop sp)) := by
      rw [m7]
      exact congrArg (fun z => some (HO.tup z)) (cut_from us sp)
    refine ⟨t2, t3, _, _, rfl, rfl, s7 _ _ m6, m7, fun z => ne1 (List.append_eq_nil_iff.mp z).1, by rw [List.length_append, List.length_take, List.length_drop]; omega, fun t4 H8 s8 m8 => ?_⟩
    have s48 := s46.trans (s7.trans s8)
    intro y dy hy hdy ne
    have s9 := same_up (C := C) hy hdy
    have im : insM rs rs2 i j = rs.take sp ++ rs2.map (up (((r1.1 : Nat) : Int) + 1)) ++ rs.drop sp := by
      unfold insM
      rw [spe, dep1]
    rw [im] at few fin
    have ra : RowsAt H8 (us.take sp ++ ws4 ++ us.drop sp) (rs.take sp ++ rs2.map (up (((r1.1 : Nat) : Int) + 1)) ++ rs.drop sp) :=
      paired_append (paired_append (RowsAt.same (s4.trans s48) (paired_take h3 sp)) (RowsAt.same s48 ra4)) (RowsAt.same (s4.trans s48) (paired_drop h3 sp))
    exact ⟨y, dy, t4, _, _, rfl, upd_same, .inl (s9 _ _ m8), ra.same s9, few, fun HA oA dA => ⟨rfl, fin y _ (s14.trans (s48.trans (same_make hy hdy oA))) dA⟩⟩
end
end K04

namespace K04
open PySem L2 DR DM TL
/-! ### trees changed at a place -/
theorem ofL_toL : ∀ ts : Trs, ofL ts.toL = ts
  | .nil => rfl
  | .cons t ts => by rw [Trs.toL, ofL, ofL_toL ts]
theorem toL_ofL : ∀ l : List Tr, (ofL l).toL = l
  | [] => rfl
  | t :: l => by rw [ofL, Trs.toL, toL_ofL l]
/-- the rows of a row of trees -/
noncomputable def flat (l : List Tr) (d : Nat) : List Row := (ofL l).rows srt d
theorem flat_nil (d : Nat) : flat [] d = [] := by
  unfold flat
  rw [ofL, Trs.rows]
theorem flat_cons (t : Tr) (l : List Tr) (d : Nat) : flat (t :: l) d = t.rows srt d ++ flat l d := by
  unfold flat
  rw [ofL, Trs.rows]
theorem flat_app : ∀ (a b : List Tr) (d : Nat), flat (a ++ b) d = flat a d ++ flat b d
  | [], b, d => by rw [flat_nil]; rfl
  | t :: a, b, d => by rw [List.cons_append, flat_cons, flat_cons, flat_app a b d, List.append_assoc]
theorem rows_nd (k : W) (ms : List W) (ks : Trs) (d : Nat) : (Tr.nd k ms ks).rows srt d = (d, k, srt ms) :: flat ks.toL (d + 1) := by
  rw [Tr.rows]
  unfold flat
  rw [ofL_toL]
theorem nodes_app : ∀ (a b : List Tr) (p : Pth) (j : Nat), (ofL (a ++ b)).nodes p j = (ofL a).nodes p j ++ (ofL b).nodes p (j + a.length)
  | [], b, p, j => by
    rw [show ofL [] = Trs.nil from rfl, Trs.nodes]
    rfl
  | t :: a, b, p, j => by
    rw [List.cons_append, show ofL (t :: (a ++ b)) = Trs.cons t (ofL (a ++ b)) from rfl, show ofL (t :: a) = Trs.cons t (ofL a) from rfl, Trs.nodes, Trs.nodes, nodes_app a b p (j + 1), List.append_assoc, List.length_cons, show j + (a.length + 1) = j + 1 + a.length by omega]
/-- the tree with another one below a path -/
def put : Tr → Pth → Tr → Tr
  | _, [], x => x
  | .nd k ms ks, i :: q, x => .nd k ms (ofL (ks.toL.set i (match ks.toL[i]? with | some u => put u q x | none => x)))
theorem split_at {l : List Tr} {i : Nat} {u : Tr} (h : l[i]? = some u) : ∃ a b, l = a ++ u :: b ∧ a.length = i := by
  obtain ⟨hi, rfl⟩ := List.getElem?_eq_some_iff.mp h
  refine ⟨l.take i, l.drop (i + 1), ?_, List.length_take_of_le (Nat.le_of_lt hi)⟩
  rw [List.getElem_cons_drop, List.take_append_drop]
theorem put_rows : ∀ (q : Pth) (t u : Tr) (d : Nat), t.at_ q = some u → ∃ pre post, t.rows srt d = pre ++ u.rows srt (d + q.length) ++ post ∧ (∀ x, (put t q x).rows srt d = pre ++ x.rows srt (d + q.length) ++ post) ∧ ∀ p m y, (u.nodes (p ++ q))[m]? = some y → (t.nodes p)[pre.length + m]? = some y
  | [], t, u, d, h => by
    rw [at_nil] at h
    obtain rfl := Option.some.inj h
    refine ⟨[], [], by simp, fun x => by simp [put], fun p m y hy => ?_⟩
    rw [List.append_nil] at hy
    rw [List.length_nil, Nat.zero_add]
    exact hy
  | i :: q, .nd k ms ks, u, d, h => by
    rw [Tr.at_] at h
    cases e : ks.toL[i]? with
    | none =>
      rw [e] at h
      cases h
    | some s =>
      rw [e] at h
      obtain ⟨a, b, hl, ha⟩ := split_at e
      obtain ⟨pre, post, h1, h2, h3⟩ := put_rows q s u (d + 1) h
      have ed : d + 1 + q.length = d + (i :: q).length := by rw [List.length_cons]; omega
      rw [ed] at h1 h2
      refine ⟨(d, k, srt ms) :: flat a (d + 1) ++ pre, post ++ flat b (d + 1), ?_, fun x => ?_, fun p m y hy => ?_⟩
      · rw [rows_nd, hl, flat_app, flat_cons, h1]
        simp
      · have es : put (.nd k ms ks) (i :: q) x = .nd k ms (ofL (ks.toL.set i (put s q x))) := by
          rw [put, e]
        rw [es, rows_nd, toL_ofL, hl, ← ha, List.set_append_right _ _ (Nat.le_refl _), Nat.sub_self, List.set_cons_zero, flat_app, flat_cons, h2 x]
        simp
      · have la : ((ofL a).nodes p 0).length = (flat a (d + 1)).length := nodess_len (ofL a) p 0 (d + 1)
        have ls : (s.nodes (p ++ [i])).length = (s.rows srt (d + 1)).length := nodes_len s (p ++ [i]) (d + 1)
        have h3' := h3 (p ++ [i]) m y (by rw [List.append_assoc, List.singleton_append]; exact hy)
        have lt : pre.length + m < (s.nodes (p ++ [i])).length := (List.getElem?_eq_some_iff.mp h3').1
        have ek : ks.nodes p 0 = (ofL a).nodes p 0 ++ (s.nodes (p ++ [i]) ++ (ofL b).nodes p (i + 1)) := by
          rw [← ofL_toL ks, hl, nodes_app, ha, Nat.zero_add, show ofL (s :: b) = Trs.cons s (ofL b) from rfl, Trs.nodes]
        rw [Tr.nodes, ek, List.cons_append, List.length_cons, List.length_append, show (flat a (d + 1)).length + pre.length + 1 + m = (flat a (d + 1)).length + (pre.length + m) + 1 by omega, List.getElem?_cons_succ, ← la, List.getElem?_append_right (Nat.le_add_right _ _), Nat.add_sub_cancel_left, List.getElem?_append_left lt]
        exact h3'
/-- where the children of a row of trees begin -/
noncomputable def starts : List Tr → Nat → List Nat
  | [], _ => []
  | t :: l, i => i :: starts l (i + (t.rows srt 0).length)
theorem rows_length (t : Tr) (d : Nat) : (t.rows srt d).length = (t.rows srt 0).length := by rw [← nodes_len t [] d, nodes_len t [] 0]
theorem starts_filt : ∀ (l : List Tr) (d i : Nat) (rs : List Row) (post : List Row), rs.drop i = flat l (d + 1) ++ post → ((List.range (flat l (d + 1)).length).map (i + ·)).filter (fun j => decide (depM rs j = d + 1)) = starts l i
  | [], d, i, rs, post, h => by
    rw [flat_nil]
    rfl
  | t :: l, d, i, rs, post, h => by
    have dep : ∀ m, m < (flat (t :: l) (d + 1)).length → depM rs (i + m) = ((flat (t :: l) (d + 1)).getD m (0, [], [])).1 := fun m hm => by
      unfold depM
      rw [List.getD_eq_getElem?_getD, ← List.getElem?_drop, h, List.getElem?_append_left hm, List.getD_eq_getElem?_getD]
    have hd : rs.drop (i + (t.rows srt (d + 1)).length) = flat l (d + 1) ++ post := by
      rw [← List.drop_drop, h, flat_cons, List.append_assoc, List.drop_left]
    have ih := starts_filt l d (i + (t.rows srt (d + 1)).length) rs post hd
    rw [flat_cons] at dep ⊢
    rw [List.length_append, List.range_add, List.map_append, List.filter_append, List.map_map]
    have e2 : ((i + ·) ∘ ((t.rows srt (d + 1)).length + ·)) = ((i + (t.rows srt (d + 1)).length) + ·) := by
      funext m
      show i + (_ + m) = i + _ + m
      omega
    rw [e2, ih]
    have e1 : (List.map (i + ·) (List.range (t.rows srt (d + 1)).length)).filter (fun j => decide (depM rs j = d + 1)) = [i] := by
      rw [rows_head] at dep ⊢
      rw [List.length_cons, List.range_succ_eq_map, List.map_cons, Nat.add_zero, List.filter_cons]
      have d0 := dep 0 (by simp)
      rw [if_pos (decide_eq_true (by rw [d0]; rfl))]
      congr 1
      rw [List.filter_eq_nil_iff]
      intro j hj
      obtain ⟨j', hj', rfl⟩ := List.mem_map.mp hj
      obtain ⟨m, hm, rfl⟩ := List.mem_map.mp hj'
      have lm := List.mem_range.mp hm
      have dm := dep (m + 1) (by simp; omega)
      show ¬ decide (depM rs (i + (m + 1)) = d + 1) = true
      rw [dm, List.cons_append, List.getD_cons_succ, List.getD_eq_getElem?_getD, List.getElem?_append_left lm, List.getElem?_eq_getElem lm]
      have := rowss_deep t.kids (d + 1 + 1) _ (List.getElem_mem lm)
      simp
      omega
    rw [e1, starts, rows_length t (d + 1)]
    rfl
theorem starts_get : ∀ (l : List Tr) (i j e : Nat), j ≤ l.length → e = i + (flat l 0).length → (starts l i ++ [e]).getD j 0 = i + (flat (l.take j) 0).length
  | [], i, j, e, h, he => by
    have : j = 0 := by simpa using h
    subst this
    rw [he, flat_nil]
    simp [starts, flat_nil]
  | t :: l, i, 0, e, h, he => by
    simp [starts, flat_nil]
  | t :: l, i, j + 1, e, h, he => by
    rw [flat_cons, List.length_append] at he
    have ih := starts_get l (i + (t.rows srt 0).length) j e (by simpa using h) (by omega)
    rw [starts, List.cons_append, List.getD_cons_succ, ih, List.take_succ_cons, flat_cons, List.length_append]
    omega
theorem flat_length (l : List Tr) (d : Nat) : (flat l d).length = (flat l 0).length := by
  unfold flat
  rw [← nodess_len (ofL l) [] 0 d, nodess_len (ofL l) [] 0 0]
/-! ### the edits of a row of nodes -/
theorem end_of {t s : Tr} {i : Nat} {q : Pth} (h : (t.nodes [])[i]? = some (q, s)) : endM (t.rows srt 0) i = i + (s.rows srt 0).length := by
  have no := node_of t i q s h
  obtain ⟨el, eu⟩ := end_le _ i no.lt
  have := congrArg List.length no.part
  unfold partM at this
  rw [List.length_map, List.length_take, List.length_drop] at this
  omega
theorem kids_of {t s : Tr} {i : Nat} {q : Pth} (h : (t.nodes [])[i]? = some (q, s)) : kidsM (t.rows srt 0) i = starts s.kids.toL (i + 1) := by
  have no := node_of t i q s h
  obtain ⟨_, post, hd, _⟩ := seg_tree t [] i q s h
  have hd : (t.rows srt 0).drop i = s.rows srt q.length ++ post := hd
  have dep : depM (t.rows srt 0) i = q.length := congrArg Prod.fst no.row
  have sr : s.rows srt q.length = (q.length, s.kind, srt s.marks) :: flat s.kids.toL (q.length + 1) := by
    rw [rows_head]
    unfold flat
    rw [ofL_toL]
  have d1 : (t.rows srt 0).drop (i + 1) = flat s.kids.toL (q.length + 1) ++ post := by
    rw [← List.drop_drop, hd, sr]
    rfl
  have sl : (s.rows srt 0).length = (flat s.kids.toL (q.length + 1)).length + 1 := by
    rw [← rows_length s q.length, sr, List.length_cons]
  unfold kidsM
  rw [end_of h, dep, show i + (s.rows srt 0).length - (i + 1) = (flat s.kids.toL (q.length + 1)).length by omega]
  exact starts_filt _ _ _ _ _ d1
/-- a node below a path, and where it stands -/
theorem place_of {t u : Tr} {q : Pth} (h : t.at_ q = some u) : ∃ pre post : List Row, t.rows srt 0 = pre ++ u.rows srt q.length ++ post ∧ (∀ x, (put t q x).rows srt 0 = pre ++ x.rows srt q.length ++ post) ∧
    (t.nodes [])[pre.length]? = some (q, u) ∧ ∀ m y, (u.nodes q)[m]? = some y → (t.nodes [])[pre.length + m]? = some y := by
  obtain ⟨pre, post, h1, h2, h3⟩ := put_rows q t u 0 h
  rw [Nat.zero_add] at h1 h2
  refine ⟨pre, post, h1, h2, ?_, fun m y hy => h3 [] m y hy⟩
  have := h3 [] 0 (q, u) (by cases u; rw [Tr.nodes, List.nil_append]; rfl)
  exact this
theorem head_rows {t : Tr} {q : Pth} {k : W} {ms : List W} {ks : Trs} (h : t.at_ q = some (.nd k ms ks)) : ∃ i, (t.nodes [])[i]? = some (q, .nd k ms ks) ∧
    ∀ k' ms', (put t q (.nd k' ms' ks)).rows srt 0 = (t.rows srt 0).take i ++ (q.length, k', srt ms') :: (t.rows srt 0).drop (i + 1) := by
  obtain ⟨pre, post, h1, h2, h3, _⟩ := place_of h
  refine ⟨pre.length, h3, fun k' ms' => ?_⟩
  rw [h2, h1, rows_nd, rows_nd, List.append_assoc, List.append_assoc, List.take_left, ← List.drop_drop, List.drop_left]
  rfl
theorem removed_rows {t u : Tr} {q : Pth} {k : W} {ms : List W} {ks : Trs} {a b : List Tr} (h : t.at_ q = some (.nd k ms ks)) (hl : ks.toL = a ++ u :: b) : ∃ i, (t.nodes [])[i]? = some (q ++ [a.length], u) ∧ i ≠ 0 ∧
    (put t q (.nd k ms (ofL (a ++ b)))).rows srt 0 = (t.rows srt 0).take i ++ (t.rows srt 0).drop (endM (t.rows srt 0) i) := by
  obtain ⟨pre, post, h1, h2, _, h4⟩ := place_of h
  have la : ((ofL a).nodes q 0).length = (flat a (q.length + 1)).length := nodess_len (ofL a) q 0 (q.length + 1)
  have nu : ((Tr.nd k ms ks).nodes q)[1 + (flat a (q.length + 1)).length]? = some (q ++ [a.length], u) := by
    rw [Tr.nodes, ← ofL_toL ks, hl, nodes_app, Nat.zero_add, show ofL (u :: b) = Trs.cons u (ofL b) from rfl, Trs.nodes, Nat.add_comm 1, List.getElem?_cons_succ, ← la, List.getElem?_append_right (Nat.le_refl _), Nat.sub_self]
    cases u
    rw [Tr.nodes]
    rfl
  have ni := h4 _ _ nu
  refine ⟨_, ni, by omega, ?_⟩
  rw [end_of ni, h2, h1, rows_nd, rows_nd, toL_ofL, hl, flat_app, flat_app, flat_cons, ← rows_length u (q.length + 1)]
  have e : ∀ (X Y Z : List Row) (c : Row), pre ++ c :: (X ++ (Y ++ Z)) ++ post = (pre ++ c :: X) ++ (Y ++ (Z ++ post)) := fun X Y Z c => by simp
  have l : ∀ (X : List Row) (c : Row), (pre ++ c :: X).length = pre.length + (1 + X.length) := fun X c => by simp; omega
  rw [e, ← l (flat a (q.length + 1)) (q.length, k, srt ms), List.take_left, ← List.drop_drop, List.drop_left, List.drop_left]
  simp
theorem inserted_rows {t x : Tr} {q : Pth} {k : W} {ms : List W} {ks : Trs} {a b : List Tr} (h : t.at_ q = some (.nd k ms ks)) (hl : ks.toL = a ++ b) : ∃ i, (t.nodes [])[i]? = some (q, .nd k ms ks) ∧ a.length ≤ (kidsM (t.rows srt 0) i).length ∧
    (put t q (.nd k ms (ofL (a ++ x :: b)))).rows srt 0 = insM (t.rows srt 0) (x.rows srt 0) i a.length := by
  obtain ⟨pre, post, h1, h2, h3, _⟩ := place_of h
  have no := node_of _ _ _ _ h3
  have kl : (kidsM (t.rows srt 0) pre.length).length = ks.len := no.kids
  have dep : depM (t.rows srt 0) pre.length = q.length := congrArg Prod.fst no.row
  have al : a.length ≤ ks.toL.length := by rw [hl, List.length_append]; omega
  refine ⟨pre.length, h3, by rw [kl, ← toL_len]; exact al, ?_⟩
  have sp : spotM (t.rows srt 0) pre.length a.length = pre.length + (1 + (flat a (q.length + 1)).length) := by
    unfold spotM
    rw [kids_of h3, end_of h3]
    have e : pre.length + ((Tr.nd k ms ks).rows srt 0).length = pre.length + 1 + (flat ks.toL 0).length := by
      rw [rows_nd, List.length_cons, flat_length _ (0 + 1)]
      omega
    rw [e, show (Tr.nd k ms ks).kids = ks from rfl, starts_get _ _ _ _ al rfl, hl, List.take_left, flat_length a (q.length + 1)]
    omega
  unfold insM
  have mv := move_tree x 0 (q.length + 1)
  rw [Nat.zero_add] at mv
  have mp : (x.rows srt 0).map (up ((depM (t.rows srt 0) pre.length : Int) + 1)) = x.rows srt (q.length + 1) := by
    rw [mv, dep]
    refine List.map_congr_left fun r _ => ?_
    show ((((r.1 : Nat) : Int) + ((q.length : Int) + 1)).toNat, r.2) = (r.1 + (q.length + 1), r.2)
    rw [show (((r.1 : Nat) : Int) + ((q.length : Int) + 1)).toNat = r.1 + (q.length + 1) by omega]
  rw [sp, mp, h2, h1, rows_nd, rows_nd, toL_ofL, hl, flat_app, flat_app, flat_cons]
  have e : ∀ (X Y : List Row) (c : Row), pre ++ c :: (X ++ Y) ++ post = (pre ++ c :: X) ++ (Y ++ post) := fun X Y c => by simp
  have l : ∀ (X : List Row) (c : Row), (pre ++ c :: X).length = pre.length + (1 + X.length) := fun X c => by simp; omega
  rw [e, e, ← l (flat a (q.length + 1)) (q.length, k, srt ms), List.take_left, List.drop_left]
  simp
end K04

namespace K04
open PySem L2 DR DM TL
/-! ### the law's own tree, which is written into: its lists stand at the addresses of A, in this order -/
mutual
def TreeAt (H : Hp) : List Addr → V → Tr → Prop
  | A, v, .nd k ms ks => ∃ a m b vs B, v = .ref a ∧ A = a :: m :: b :: B ∧ H a = some (.lst [sv k, .ref m, .ref b]) ∧ H m = some (.lst (ms.map sv)) ∧ H b = some (.lst vs) ∧ TreesAt H B vs ks
def TreesAt (H : Hp) : List Addr → List V → Trs → Prop
  | B, vs, .nil => B = [] ∧ vs = []
  | B, vs, .cons t ts => ∃ v r A1 A2, vs = v :: r ∧ B = A1 ++ A2 ∧ TreeAt H A1 v t ∧ TreesAt H A2 r ts
end
mutual
theorem TreeAt.move {H H' : Hp} : ∀ (t : Tr) (A : List Addr) (v : V), TreeAt H A v t → (∀ c ∈ A, ∀ u, H c = some u → H' c = some u) → TreeAt H' A v t
  | .nd k ms ks, A, v, h, o => by
    rw [TreeAt] at h ⊢
    obtain ⟨a, m, b, vs, B, e, eA, h1, h2, h3, h4⟩ := h
    subst eA
    exact ⟨a, m, b, vs, B, e, rfl, o a (by simp) _ h1, o m (by simp) _ h2, o b (by simp) _ h3, TreesAt.move ks B vs h4 fun c hc => o c (by simp [hc])⟩
theorem TreesAt.move {H H' : Hp} : ∀ (ts : Trs) (B : List Addr) (vs : List V), TreesAt H B vs ts → (∀ c ∈ B, ∀ u, H c = some u → H' c = some u) → TreesAt H' B vs ts
  | .nil, B, vs, h, _ => by
    rw [TreesAt] at h ⊢
    exact h
  | .cons t ts, B, vs, h, o => by
    rw [TreesAt] at h ⊢
    obtain ⟨v, r, A1, A2, e, eB, h1, h2⟩ := h
    subst eB
    exact ⟨v, r, A1, A2, e, rfl, TreeAt.move t A1 v h1 fun c hc => o c (List.mem_append_left _ hc), TreesAt.move ts A2 r h2 fun c hc => o c (List.mem_append_right _ hc)⟩
end
mutual
theorem TreeAt.node {H : Hp} {N : Addr → Prop} : ∀ (t : Tr) (A : List Addr) (v : V), TreeAt H A v t → (∀ c ∈ A, N c) → NodeAt N H v t
  | .nd k ms ks, A, v, h, n => by
    rw [TreeAt] at h
    rw [NodeAt]
    obtain ⟨a, m, b, vs, B, e, eA, h1, h2, h3, h4⟩ := h
    subst eA
    exact ⟨a, m, b, vs, e, n a (by simp), n m (by simp), n b (by simp), h1, h2, h3, TreesAt.node ks B vs h4 fun c hc => n c (by simp [hc])⟩
theorem TreesAt.node {H : Hp} {N : Addr → Prop} : ∀ (ts : Trs) (B : List Addr) (vs : List V), TreesAt H B vs ts → (∀ c ∈ B, N c) → NodesAt N H vs ts
  | .nil, B, vs, h, _ => by
    rw [TreesAt] at h
    rw [NodesAt]
    exact h.2
  | .cons t ts, B, vs, h, n => by
    rw [TreesAt] at h
    rw [NodesAt]
    obtain ⟨v, r, A1, A2, e, eB, h1, h2⟩ := h
    subst eB
    exact ⟨v, r, e, TreeAt.node t A1 v h1 fun c hc => n c (List.mem_append_left _ hc), TreesAt.node ts A2 r h2 fun c hc => n c (List.mem_append_right _ hc)⟩
end
mutual
/-- all its addresses hold lists -/
theorem TreeAt.lists {H : Hp} : ∀ (t : Tr) (A : List Addr) (v : V), TreeAt H A v t → ∀ c ∈ A, ∃ xs, H c = some (.lst xs)
  | .nd k ms ks, A, v, h, c, hc => by
    rw [TreeAt] at h
    obtain ⟨a, m, b, vs, B, e, eA, h1, h2, h3, h4⟩ := h
    subst eA
    simp only [List.mem_cons] at hc
    rcases hc with rfl | rfl | rfl | hc
    · exact ⟨_, h1⟩
    · exact ⟨_, h2⟩
    · exact ⟨_, h3⟩
    · exact TreesAt.lists ks B vs h4 c hc
theorem TreesAt.lists {H : Hp} : ∀ (ts : Trs) (B : List Addr) (vs : List V), TreesAt H B vs ts → ∀ c ∈ B, ∃ xs, H c = some (.lst xs)
  | .nil, B, vs, h, c, hc => by
    rw [TreesAt] at h
    rw [h.1] at hc
    cases hc
  | .cons t ts, B, vs, h, c, hc => by
    rw [TreesAt] at h
    obtain ⟨v, r, A1, A2, e, eB, h1, h2⟩ := h
    subst eB
    rcases List.mem_append.mp hc with hc | hc
    · exact TreeAt.lists t A1 v h1 c hc
    · exact TreesAt.lists ts A2 r h2 c hc
end
theorem trees_app {H : Hp} : ∀ (l1 l2 : List Tr) (B : List Addr) (vs : List V), TreesAt H B vs (ofL (l1 ++ l2)) ↔ ∃ B1 B2 v1 v2, B = B1 ++ B2 ∧ vs = v1 ++ v2 ∧ v1.length = l1.length ∧ TreesAt H B1 v1 (ofL l1) ∧ TreesAt H B2 v2 (ofL l2)
  | [], l2, B, vs => by
    constructor
    · exact fun h => ⟨[], B, [], vs, rfl, rfl, rfl, by rw [ofL, TreesAt]; exact ⟨rfl, rfl⟩, h⟩
    · rintro ⟨B1, B2, v1, v2, rfl, rfl, e, h1, h2⟩
      rw [ofL, TreesAt] at h1
      obtain ⟨rfl, rfl⟩ := h1
      exact h2
  | t :: l1, l2, B, vs => by
    rw [List.cons_append, ofL, TreesAt]
    constructor
    · rintro ⟨v, r, A1, A2, rfl, rfl, h1, h2⟩
      obtain ⟨B1, B2, v1, v2, rfl, rfl, e, g1, g2⟩ := (trees_app l1 l2 A2 r).mp h2
      refine ⟨A1 ++ B1, B2, v :: v1, v2, by rw [List.append_assoc], rfl, by rw [List.length_cons, List.length_cons, e], ?_, g2⟩
      rw [ofL, TreesAt]
      exact ⟨v, v1, A1, B1, rfl, rfl, h1, g1⟩
    · rintro ⟨B1, B2, v1, v2, rfl, rfl, e, g1, g2⟩
      rw [ofL, TreesAt] at g1
      obtain ⟨v, r, A1, A2, rfl, rfl, h1, h2⟩ := g1
      refine ⟨v, r ++ v2, A1, A2 ++ B2, rfl, by rw [List.append_assoc], h1, (trees_app l1 l2 _ _).mpr ⟨A2, B2, r, v2, rfl, rfl, by simpa using e, h2, g2⟩⟩
theorem trees_one {H : Hp} {t : Tr} {l : List Tr} {B : List Addr} {vs : List V} : TreesAt H B vs (ofL (t :: l)) ↔ ∃ v r A1 A2, vs = v :: r ∧ B = A1 ++ A2 ∧ TreeAt H A1 v t ∧ TreesAt H A2 r (ofL l) := by
  rw [ofL, TreesAt]
/-- where the law's own lists lead along a path -/
def Loc (H : Hp) : V → Pth → V → Prop
  | v, [], y => y = v
  | v, i :: q, y => ∃ a k m b vs v', v = .ref a ∧ H a = some (.lst [k, m, .ref b]) ∧ H b = some (.lst vs) ∧ vs[i]? = some v' ∧ Loc H v' q y
theorem Loc.same {H H' : Hp} (s : Same H H') : ∀ (q : Pth) (v y : V), Loc H v q y → Loc H' v q y
  | [], v, y, h => h
  | i :: q, v, y, ⟨a, k, m, b, vs, v', e, h1, h2, h3, h4⟩ => ⟨a, k, m, b, vs, v', e, s _ _ h1, s _ _ h2, h3, Loc.same s q v' y h4⟩
/-- a node below a path, and the tree with another one there -/
theorem zip_at {H : Hp} : ∀ (q : Pth) (t u : Tr) (A : List Addr) (v : V), TreeAt H A v t → t.at_ q = some u → ∃ y L Au R, A = L ++ Au ++ R ∧ Loc H v q y ∧ TreeAt H Au y u ∧
    ∀ (H' : Hp) (Au' : List Addr) (u' : Tr), (∀ c, c ∈ L ∨ c ∈ R → ∀ w, H c = some w → H' c = some w) → TreeAt H' Au' y u' → TreeAt H' (L ++ Au' ++ R) v (put t q u')
  | [], t, u, A, v, h, e => by
    rw [at_nil] at e
    obtain rfl := Option.some.inj e
    refine ⟨v, [], A, [], by simp, rfl, h, fun H' Au' u' _ h' => ?_⟩
    rw [List.append_nil, List.nil_append, put]
    exact h'
  | i :: q, .nd k ms ks, u, A, v, h, e => by
    rw [Tr.at_] at e
    cases es : ks.toL[i]? with
    | none =>
      rw [es] at e
      cases e
    | some s =>
      rw [es] at e
      obtain ⟨l1, l2, hl, ha⟩ := split_at es
      rw [TreeAt] at h
      obtain ⟨a, m, b, vs, B, rfl, rfl, h1, h2, h3, h4⟩ := h
      rw [← ofL_toL ks, hl] at h4
      obtain ⟨B1, B2, v1, v2, rfl, rfl, e1, g1, g2⟩ := (trees_app l1 (s :: l2) B vs).mp h4
      obtain ⟨w, r, A1, A2, rfl, rfl, g3, g4⟩ := trees_one.mp g2
      obtain ⟨y, L, Au, R, rfl, loc, hu, back⟩ := zip_at q s u A1 w g3 e
      refine ⟨y, a :: m :: b :: (B1 ++ L), Au, R ++ A2, by simp, ⟨a, _, _, b, _, w, rfl, h1, h3, ?_, loc⟩, hu, fun H' Au' u' keep h' => ?_⟩
      · rw [List.getElem?_append_right (by omega), e1, ha, Nat.sub_self]
        rfl
      · have k1 : ∀ c, c ∈ a :: m :: b :: (B1 ++ L) → ∀ w, H c = some w → H' c = some w := fun c hc => keep c (.inl hc)
        have k2 : ∀ c, c ∈ R ++ A2 → ∀ w, H c = some w → H' c = some w := fun c hc => keep c (.inr hc)
        have g5 := back H' Au' u' (fun c hc => hc.elim (fun hc => k1 c (by simp [hc])) fun hc => k2 c (by simp [hc])) h'
        have es' : put (.nd k ms ks) (i :: q) u' = .nd k ms (ofL (l1 ++ put s q u' :: l2)) := by
          rw [put, es, hl, ← ha, List.set_append_right _ _ (Nat.le_refl _), Nat.sub_self, List.set_cons_zero]
        rw [es', TreeAt]
        refine ⟨a, m, b, v1 ++ w :: r, B1 ++ (L ++ Au' ++ R ++ A2), rfl, by simp, k1 a (by simp) _ h1, k1 m (by simp) _ h2, k1 b (by simp) _ h3, ?_⟩
        exact (trees_app l1 _ _ _).mpr ⟨B1, _, v1, _, rfl, rfl, e1, TreesAt.move _ B1 v1 g1 (fun c hc => k1 c (by simp [hc])), trees_one.mpr ⟨w, r, _, A2, rfl, by simp, g5, TreesAt.move _ A2 r g4 fun c hc => k2 c (by simp [hc])⟩⟩
/-- the read of a node's place is one -/
theorem loc_fun {H : Hp} : ∀ (q : Pth) (v y z : V), Loc H v q y → Loc H v q z → y = z
  | [], v, y, z, h1, h2 => h1.trans h2.symm
  | i :: q, v, y, z, ⟨a, k, m, b, vs, v', e, h1, h2, h3, h4⟩, ⟨a2, k2, m2, b2, vs2, v2, e2, g1, g2, g3, g4⟩ => by
    rw [e] at e2
    injection e2 with e2
    subst e2
    rw [h1] at g1
    injection g1 with g1
    injection g1 with g1
    injection g1 with _ g1
    injection g1 with _ g1
    injection g1 with g1 _
    injection g1 with g1
    subst g1
    rw [h2] at g2
    injection g2 with g2
    injection g2 with g2
    subst g2
    rw [h3] at g3
    injection g3 with g3
    subst g3
    exact loc_fun q v' y z h4 g4
end K04

namespace K04
open PySem L2 DR DM TL
/-! ### trees of any form, of few nodes -/
mutual
def _root_.DM.Tr.wild : Tr → Prop
  | .nd k ms ks => isName k = true ∧ areNames ms = true ∧ ms.length ≤ 3 ∧ ks.wild
def _root_.DM.Trs.wild : Trs → Prop
  | .nil => True
  | .cons t ts => t.wild ∧ ts.wild
end
noncomputable def sz (t : Tr) : Nat := (t.rows srt 0).length
theorem wild_toL : ∀ {ts : Trs}, ts.wild ↔ ∀ t ∈ ts.toL, t.wild
  | .nil => by
    rw [Trs.wild, Trs.toL]
    simp
  | .cons t ts => by
    rw [Trs.wild, Trs.toL, wild_toL (ts := ts)]
    simp
theorem sz_nd (k : W) (ms : List W) (ks : Trs) : sz (.nd k ms ks) = 1 + (flat ks.toL 0).length := by
  unfold sz
  rw [rows_nd, List.length_cons, flat_length _ (0 + 1)]
  omega
theorem flat_mem : ∀ {l : List Tr} {t : Tr}, t ∈ l → sz t ≤ (flat l 0).length
  | u :: l, t, h => by
    rw [flat_cons, List.length_append]
    rcases List.mem_cons.mp h with rfl | h
    · exact Nat.le_add_right _ _
    · exact Nat.le_trans (flat_mem h) (Nat.le_add_left _ _)
theorem sz_pos (t : Tr) : 1 ≤ sz t := by
  cases t with
  | nd k ms ks =>
    rw [sz_nd]
    omega
theorem sz_kid {k : W} {ms : List W} {ks : Trs} {t : Tr} (h : t ∈ ks.toL) : sz t + 1 ≤ sz (.nd k ms ks) := by
  have := flat_mem h
  rw [sz_nd]
  omega
theorem flat_len : ∀ l : List Tr, l.length ≤ (flat l 0).length
  | [] => Nat.zero_le _
  | t :: l => by
    have := flat_len l
    have := sz_pos t
    unfold sz at this
    rw [flat_cons, List.length_append, List.length_cons]
    omega
theorem head_wild {k : W} {ms : List W} (hk : isName k = true) (hm : areNames ms = true) (h3 : ms.length ≤ 3) : 1 ≤ (headL k (srt ms)).length ∧ (headL k (srt ms)).length ≤ 35 ∧ (srt ms).length ≤ 3 ∧ ((srt ms).map fun m => 46 :: m).flatten.length ≤ 27 := by
  have p := srt_perm ms
  have l1 : (srt ms).length ≤ 3 := by
    rw [p.length_eq]
    exact h3
  have l2 := flat_le (srt ms) fun w hw => (isName_mem ((areNames_mem hm).1 w (p.subset hw))).2.1
  have l3 := head_len k (srt ms)
  obtain ⟨k1, k2, _⟩ := isName_mem hk
  have k1 : 1 ≤ k.length := by
    cases k with
    | nil => exact absurd rfl k1
    | cons _ _ => simp
  have l4 : (headL k (srt ms)).length = k.length + ((srt ms).map fun m => 46 :: m).flatten.length := by
    unfold headL
    rw [List.length_append]
  rw [List.flatten_cons, List.length_append] at l3
  omega
theorem join_sum : ∀ l : List W, (joinL [44] l).length ≤ (l.map fun w => w.length + 1).sum
  | [] => Nat.zero_le _
  | [w] => by
    show w.length ≤ _
    simp
  | w :: v :: l => by
    have h := join_sum (v :: l)
    show (w ++ ([44] ++ joinL [44] (v :: l))).length ≤ _
    rw [List.length_append, List.length_append, List.map_cons, List.sum_cons]
    show _ + (1 + _) ≤ _
    omega
theorem flat_sum : ∀ l : List W, l.flatten.length + l.length = (l.map fun w => w.length + 1).sum
  | [] => rfl
  | w :: l => by
    have h := flat_sum l
    rw [List.flatten_cons, List.length_append, List.length_cons, List.map_cons, List.sum_cons]
    omega
theorem kids_sum : ∀ l : List Tr, (∀ t ∈ l, (txt t).length + 1 ≤ 38 * sz t) → ((l.map txt).map fun w => w.length + 1).sum ≤ 38 * (flat l 0).length
  | [], _ => Nat.zero_le _
  | t :: l, h => by
    have h1 := h t (List.mem_cons_self ..)
    have h2 := kids_sum l fun x hx => h x (List.mem_cons_of_mem _ hx)
    have h3 := sz_pos t
    rw [flat_cons, List.length_append, List.map_cons, List.map_cons, List.sum_cons]
    show (txt t).length + 1 + _ ≤ 38 * (sz t + _)
    omega
theorem txt_size : ∀ (n : Nat) (t : Tr), sz t ≤ n → t.wild → (txt t).length + 1 ≤ 38 * sz t ∧ 1 ≤ (txt t).length
  | 0, t, h, _ => absurd (sz_pos t) (by omega)
  | n + 1, .nd k ms ks, h, g => by
    rw [Tr.wild] at g
    obtain ⟨hk, hm, h3, hf⟩ := g
    obtain ⟨l0, l1, l2, _⟩ := head_wild hk hm h3
    have ih : ∀ t ∈ ks.toL, (txt t).length + 1 ≤ 38 * sz t := fun t ht => (txt_size n t (by have := sz_kid (k := k) (ms := ms) ht; omega) (wild_toL.mp hf t ht)).1
    have q := kids_sum ks.toL ih
    have j := join_sum (ks.toL.map txt)
    rw [txt_nd, List.length_append, sz_nd]
    by_cases c : ks.toL = []
    · rw [if_pos c]
      refine ⟨?_, by omega⟩
      show _ + 0 + 1 ≤ _
      omega
    · rw [if_neg c, List.length_cons, List.length_append]
      refine ⟨?_, by omega⟩
      show _ + (_ + 1 + 1) + 1 ≤ _
      omega
def spTextW (d : Nat) : Sp := fun vs H Q _ => ∃ (v : V) (t : Tr) (N : Addr → Prop), vs = [v] ∧ NodeAt N H v t ∧ t.wild ∧ sz t ≤ d ∧ ∀ H', Same H H' → Q (sv (txt t)) H'
section
variable {P : Program} {w : World} {K : PySem.W.Frag} {mg : Str → Option Value} {base : Heap}
theorem wtext_step {f : Addr} {fd : FuncData} {d : Nat} {spR : Sp} (F : Fun K "_law_text" "_law_text" sLText f fd) (T : Txt mg) (hd4 : d ≤ 100)
    (mN : mg "_law_text" = some (.ref f)) (kN : PySem.W.keepIn K (.ref f) = true) (bN : Binds K fd ["_law_node_here"] [])
    (G : FnOk P w K mg base CX0 (d + 1) f fd ["_law_node_here"] spR) (hR : d ≠ 0 → spR = spTextW (d - 1)) : FnOk P w K mg base CX0 (d + 2) f fd ["_law_node_here"] (spTextW d) := by
  refine F.ok scLText (fun vs H Q E h => ?_) (fun cdv A outer s H vs Q E hr h => ?_)
  · obtain ⟨_, _, _, rfl, _⟩ := h
    rfl
  · obtain ⟨v, t, N, rfl, nd, ft, fs, fin⟩ := h
    refine ⟨_, pss_cons (ps_set (i := 1) scLText.nd rfl (Or.inl rfl) (pe_op op_add_str (pe_ix ix_list (pv 0) pe_int (fun _ _ => rfl)) (pe_join pe_str (pe_lc (own := [("_law_mark", 3)]) (g := gName 3) (tt := tYes) rfl scLText.nd
          (pi_list (pe_callB cr_sortedS (by rfl) T.sorted PyProof.Rows.boot_sorted (pa_cons (pe_ix ix_list (pv 0) pe_int (fun _ _ => rfl)) pa_nil)))
          (blkOk_by (N := ["_law_node_here", "_law_head", "_law_inner", "_law_mark", "_law_child"]) (sc := defScope sLText) (by decide +kernel)) (fun _ _ _ _ _ => pg_name (i := 3) scLText.nd rfl (Or.inl rfl)) (fun _ _ _ _ _ => pts_nil)
          (fun _ _ _ _ _ => pe_op op_add_str pe_str (pv 3))))))
      (pss_cons (ps_set (i := 2) scLText.nd rfl (Or.inl rfl) (pe_join pe_str (pe_lc (own := [("_law_child", 4)]) (g := gName 4) (tt := tYes) rfl scLText.nd (pi_list (pe_ix ix_list (pv 0) pe_int (fun _ _ => rfl)))
          (blkOk_by (N := ["_law_node_here", "_law_head", "_law_inner", "_law_mark", "_law_child"]) (sc := defScope sLText) (by decide +kernel)) (fun _ _ _ _ _ => pg_name (i := 4) scLText.nd rfl (Or.inl rfl)) (fun _ _ _ _ _ => pts_nil)
          (fun _ _ _ _ _ => pe_call G hr (by rfl) mN kN bN .nil pass0 (pa_cons (pv 4) pa_nil)))))
      (pss_one (ps_ret (pe_ifExp (pt_cmpR op_ne (pv 2) pe_str rfl) (pe_op op_add_str (pe_op op_add_str (pe_op op_add_str (pv 1) pe_str) (pv 2)) pe_str) (pv 1))))), ?_⟩
    have B := big
    cases t with
    | nd k ms ks =>
    rw [NodeAt] at nd
    obtain ⟨a, m, b, us, rfl, na, nm, nb, h1, h2, h3, h4⟩ := nd
    rw [Tr.wild] at ft
    obtain ⟨hk, hm, h3', hf⟩ := ft
    obtain ⟨t0, t1, t2, t3⟩ := head_wild hk hm h3'
    have fl := flat_len ks.toL
    have fz := sz_nd k ms ks
    have l3 : ks.len ≤ 100 := by
      rw [← toL_len]
      omega
    have pr := nodes_to h4
    have dot : ("." : Str) = toS [46] := by decide +kernel
    have com : ("," : Str) = toS [44] := by decide +kernel
    have emp : ("" : Str) = toS [] := by decide +kernel
    have few : ms.length ≤ 3 := h3'
    refine ⟨_, rfl, a, _, 0, _, rfl, rfl, SqL.of h1, atI_nat (j := 0) rfl, ⟨"", rfl⟩, _, rfl, a, _, 1, _, rfl, rfl, SqL.of h1, atI_nat (j := 1) rfl, m, ms.map toS, rfl, SqL.of (by rw [h2, List.map_map]; rfl), by rw [List.length_map]; omega, fun ys sa pe so hsa => ?_⟩
    have es : (ys.map V.str) = (srt ms).map sv := by
      have q := srt_eq (pe.map tl) (rises_of so)
      rw [List.map_map, show (tl ∘ toS) = id from rfl, List.map_id] at q
      rw [q, List.map_map]
      refine List.map_congr_left fun y _ => ?_
      show V.str y = V.str (toS (tl y))
      rw [toS_tl]
    rw [es]
    generalize g1 : upd H sa _ = H1
    have s1 : Same H H1 := g1 ▸ same_new hsa
    have m1 : H1 sa = some (.lst ((srt ms).map sv)) := g1 ▸ upd_same
    refine ⟨sa, rfl, ⟨_, SqL.of m1⟩, fun D hD => lc_it (walk_list (K := K) (a := sa) (xs := (srt ms).map sv)) (fun i H' => Same H1 H' ∧ H' D = some (.lst (((srt ms).take i).map fun w => sv (46 :: w))))
      ⟨same_new hD, upd_same⟩ (fun i H' _ ⟨s, _⟩ => SqL.of (s _ _ m1)) ?_ ?_⟩
    · rintro i x H2 H3 hi ⟨s2, m2⟩ ⟨rfl, hx⟩
      rw [List.length_map] at hi
      rw [List.getElem?_map] at hx
      obtain ⟨u, hu, rfl⟩ := Option.map_eq_some_iff.mp hx
      refine ⟨rfl, ?_⟩
      unfold tYes
      have ul : u.length ≤ 8 := (isName_mem ((areNames_mem hm).1 u ((srt_perm ms).subset (List.mem_of_getElem? hu)))).2.1
      refine iteT ⟨_, rfl, _, _, rfl, rfl, ?_, _, m2, ?_, same_put s2 hD, ?_⟩
      · rw [toS_len]
        show 1 + _ ≤ _
        omega
      · rw [List.length_map, List.length_take]
        omega
      · rw [upd_same, List.take_succ, hu, List.map_append, dot, toS_app]
        rfl
    rintro H2 ⟨s2, m2⟩
    rw [List.length_map, List.take_length] at m2
    have s12 := s1.trans s2
    refine ⟨"", D, ((srt ms).map fun w => 46 :: w).map toS, rfl, rfl, .inl (SqL.of (by rw [m2, List.map_map, List.map_map]; rfl)), ?_, _, _, rfl, rfl, ?_, ?_⟩
    · rw [sum_len]
      show _ + _ * 0 ≤ _
      omega
    · rw [emp, join_text, join_nil, toS_len, toS_len]
      have := (isName_mem hk).2.1
      omega
    rw [emp, join_text, join_nil, toS_app, show k ++ ((srt ms).map fun w => 46 :: w).flatten = headL k (srt ms) from rfl]
    have tn := txt_nd k ms ks
    generalize headL k (srt ms) = hd at t0 t1 tn ⊢
    -- the children
    refine ⟨⟨",", rfl⟩, _, rfl, a, _, 2, _, rfl, rfl, SqL.of (s12 _ _ h1), atI_nat (j := 2) rfl, b, rfl, ⟨_, SqL.of (s12 _ _ h3)⟩, fun D2 hD2 => lc_it (walk_list (K := K) (a := b) (xs := us)) (fun i H' => Same H2 H' ∧ H' D2 = some (.lst ((ks.toL.take i).map fun t => sv (txt t))))
      ⟨same_new hD2, upd_same⟩ (fun i H' _ ⟨s, _⟩ => SqL.of (s _ _ (s12 _ _ h3))) ?_ ?_⟩
    · rintro i x H3 H4 hi ⟨s3, m3⟩ ⟨rfl, hx⟩
      obtain ⟨t, ht, nt⟩ := prd_get pr hx
      have mt := List.mem_of_getElem? ht
      have sk := sz_kid (k := k) (ms := ms) mt
      have d0 : d ≠ 0 := by omega
      refine ⟨rfl, ?_⟩
      unfold tYes
      rw [hR d0]
      have s13 := s12.trans s3
      refine iteT ⟨_, rfl, x, t, N, rfl, NodeAt.move (fun _ h => h) (fun c u _ e => s13 _ _ e) t x nt, wild_toL.mp hf t mt, by omega, fun H5 s5 => ⟨_, s5 _ _ m3, ?_, same_put (s3.trans s5) hD2, ?_⟩⟩
      · rw [List.length_map, List.length_take]
        have := pr.length
        have := toL_len ks
        omega
      · rw [upd_same, List.take_succ, ht, List.map_append]
        rfl
    rintro H3 ⟨s3, m3⟩
    rw [pr.length, List.take_length] at m3
    have kl := toL_len ks
    have ts : ∀ t ∈ ks.toL, (txt t).length + 1 ≤ 38 * sz t ∧ 1 ≤ (txt t).length := fun t ht => txt_size _ t (Nat.le_refl _) (wild_toL.mp hf t ht)
    have tb : ∀ w ∈ ks.toL.map txt, w.length ≤ 5000 ∧ 1 ≤ w.length := fun w hw => by
      obtain ⟨t, ht, rfl⟩ := List.mem_map.mp hw
      obtain ⟨q1, q2⟩ := ts t ht
      have := sz_kid (k := k) (ms := ms) ht
      exact ⟨by omega, q2⟩
    have ksum := kids_sum ks.toL fun t ht => (ts t ht).1
    have jl : (joinL [44] (ks.toL.map txt)).length ≤ 4000 := by
      have := join_sum (ks.toL.map txt)
      omega
    have sl : (ks.toL.map txt).flatten.length ≤ 4000 := by
      have := flat_sum (ks.toL.map txt)
      omega
    refine ⟨",", D2, (ks.toL.map txt).map toS, rfl, rfl, .inl (SqL.of (by rw [m3, List.map_map, List.map_map]; rfl)), ?_, ?_⟩
    · rw [sum_len, List.length_map, List.length_map]
      show _ + _ * 1 ≤ _
      omega
    rw [com, join_text]
    have te : (!decide (V.str (toS (joinL [44] (ks.toL.map txt))) = V.str "")) = !decide (joinL [44] (ks.toL.map txt) = []) := by
      rw [emp]
      exact congrArg not (sv_is _ _)
    refine ⟨_, rfl, rfl, _, congrArg V.bl te, ?_⟩
    have opn : ("(" : Str) = toS [40] := by decide +kernel
    have sht : (")" : Str) = toS [41] := by decide +kernel
    have ll : (joinL [44] (ks.toL.map txt)).length ≤ 15003 := by omega
    by_cases c : ks.toL = []
    · have jz : joinL [44] (ks.toL.map txt) = [] := by
        rw [c]
        rfl
      rw [decide_eq_true jz]
      refine iteF ⟨_, rfl, ?_⟩
      rw [tn, if_pos c, List.append_nil] at fin
      exact fin _ (s12.trans s3)
    · have ne : joinL [44] (ks.toL.map txt) ≠ [] := by
        cases e : ks.toL with
        | nil => exact absurd e c
        | cons t ts =>
          rw [List.map_cons]
          exact joinL_ne _ _ (tb _ (by rw [e, List.map_cons]; exact List.mem_cons_self ..)).2 _
      rw [decide_eq_false ne]
      refine iteT ⟨_, rfl, _, _, rfl, rfl, ?_, _, rfl, _, _, rfl, rfl, ?_, _, _, rfl, rfl, ?_, ?_⟩
      · rw [toS_len]
        show _ + 1 ≤ _
        omega
      · rw [opn, toS_app, toS_len, toS_len, List.length_append]
        show _ + 1 + _ ≤ _
        omega
      · rw [opn, toS_app, toS_app, toS_len, List.length_append, List.length_append]
        show _ + 1 + _ + 1 ≤ _
        omega
      · rw [opn, sht, toS_app, toS_app, toS_app]
        rw [tn, if_neg c] at fin
        have e : hd ++ [40] ++ joinL [44] (ks.toL.map txt) ++ [41] = hd ++ 40 :: (joinL [44] (ks.toL.map txt) ++ [41]) := by simp
        rw [e]
        exact fin _ (s12.trans s3)
theorem ok_wtext {f : Addr} {fd : FuncData} (F : Fun K "_law_text" "_law_text" sLText f fd) (T : Txt mg) (mN : mg "_law_text" = some (.ref f)) (kN : PySem.W.keepIn K (.ref f) = true) (bN : Binds K fd ["_law_node_here"] []) :
    ∀ d, d ≤ 100 → FnOk P w K mg base CX0 (d + 2) f fd ["_law_node_here"] (spTextW d)
  | 0, h => wtext_step F T h mN kN bN never_ok fun z => absurd rfl z
  | d + 1, h => wtext_step F T h mN kN bN (ok_wtext F T mN kN bN d (by omega)) fun _ => rfl
end
end K04

namespace K04
open PySem L2 DR DM TL
def spPathsW (d : Nat) : Sp := fun vs H Q _ => ∃ (v px : V) (t : Tr) (N : Addr → Prop) (q : Pth), vs = [v, px] ∧ NodeAt N H v t ∧ sz t ≤ d ∧ PthAt H px q ∧ q.length + d ≤ 150 ∧
  ∀ D ws H', H D = none → Same H H' → H' D = some (.lst ws) → PthsAt H' ws ((t.nodes q).map (·.1)) → Q (.ref D) H'
section
variable {P : Program} {w : World} {K : PySem.W.Frag} {mg : Str → Option Value} {base : Heap}
theorem wpaths_step {f : Addr} {fd : FuncData} {d : Nat} {spR : Sp} (F : Fun K "_law_paths" "_law_paths" sLPaths f fd) (T : Txt mg) (hd4 : d ≤ 100)
    (mN : mg "_law_paths" = some (.ref f)) (kN : PySem.W.keepIn K (.ref f) = true) (bN : Binds K fd ["_law_node_here", "_law_path"] [])
    (G : FnOk P w K mg base CX0 (d + 1) f fd ["_law_node_here", "_law_path"] spR) (hR : d ≠ 0 → spR = spPathsW (d - 1)) : FnOk P w K mg base CX0 (d + 2) f fd ["_law_node_here", "_law_path"] (spPathsW d) := by
  refine F.ok scLPaths (fun vs H Q E h => ?_) (fun cdv A outer s H vs Q E hr h => ?_)
  · obtain ⟨_, _, _, _, _, rfl, _⟩ := h
    rfl
  · obtain ⟨v, px, t, N, q, rfl, nd, ft, pa, ql, fin⟩ := h
    refine ⟨_, pss_cons (ps_set (i := 2) scLPaths.nd rfl (Or.inl rfl) (pe_lst (pa_cons (pv 1) pa_nil)))
      (pss_cons (ps_for PassesOwn.never rfl (pi_enum (by rfl) T.enum (pa_cons (pe_ix ix_list (pv 0) pe_int (fun _ _ => rfl)) pa_nil)) (pg_tup rfl (pgs_cons (pg_name (i := 3) scLPaths.nd rfl (Or.inl rfl)) (pgs_cons (pg_name (i := 4) scLPaths.nd rfl (Or.inl rfl)) pgs_nil)))
        (pss_one (ps_set (i := 2) scLPaths.nd rfl (Or.inl rfl) (pe_op op_cat (pv 2) (pe_call G hr (by rfl) mN kN bN .nil pass0 (pa_cons (pv 4) (pa_cons (pe_op op_catA (pv 1) (pe_tup (pa_cons (pv 3) pa_nil))) pa_nil)))))))
      (pss_one (ps_ret (pv 2)))), ?_⟩
    have B := big
    cases t with
    | nd k ms ks =>
    have full : ((Tr.nd k ms ks).nodes q).length = sz (.nd k ms ks) := nodes_len _ q 0
    rw [Tr.nodes, List.length_cons] at full
    rw [NodeAt] at nd
    obtain ⟨a, m, b, us, rfl, na, nm, nb', h1, h2, h3, h4⟩ := nd
    have pr := nodes_to h4
    obtain ⟨pp, rfl, hpp⟩ := pa
    rw [Tr.nodes, List.map_cons] at fin
    refine ⟨_, rfl, by show 1 ≤ sizeLine; decide, fun D0 hD0 => ?_⟩
    generalize g1 : upd H D0 _ = H1
    have s1 : Same H H1 := g1 ▸ same_new hD0
    have m1 : H1 D0 = some (.lst [.ref pp]) := g1 ▸ upd_same
    have cap : ∀ n, n ≤ ks.toL.length → (kn q ks.toL n).length ≤ 121 := fun n hn => by
      have : (kn q ks.toL n).length ≤ (kn q ks.toL ks.toL.length).length := kn_mono q ks.toL hn
      rw [kids_nodes] at full
      omega
    refine ⟨_, rfl, a, _, 2, _, rfl, rfl, SqL.of (s1 _ _ h1), atI_nat (j := 2) rfl, b, us, rfl, SqL.of (s1 _ _ h3), for_it (walk_enum (K := K) (a := b) (xs := us)) (fun i σ H' => ∃ (o3 o4 : Option V) (D : Addr) (ws : List V), σ = [some (.ref a), some (.ref pp), some (.ref D), o3, o4] ∧ Same H H' ∧ H D = none ∧
      H' D = some (.lst ws) ∧ PthsAt H' ws (q :: (kn q ks.toL i).map (·.1))) ⟨none, none, D0, _, rfl, s1, hD0, m1, .cons ⟨pp, rfl, s1 _ _ hpp⟩ .nil⟩ (fun i σ H' _ ⟨_, _, _, _, _, s, _⟩ => SqL.of (s _ _ h3)) ?_ ?_⟩
    · rintro i x σ H2 H3 hi ⟨o3, o4, D, ws, rfl, s2, nD, m2, wa⟩ ⟨T0, x1, x2, rfl, hT0, rfl, e1, e2⟩
      obtain rfl := Option.some.inj e1
      obtain ⟨t, ht, nt⟩ := prd_get pr e2
      have mt := List.mem_of_getElem? ht
      have sk := sz_kid (k := k) (ms := ms) mt
      have d0 : d ≠ 0 := by omega
      generalize g3 : upd H2 T0 _ = H3
      have s3 : Same H2 H3 := g3 ▸ same_new hT0
      have m3 : H3 T0 = some (.tup [.int (i : Nat), x2]) := g3 ▸ upd_same
      have s13 := s2.trans s3
      refine ⟨T0, _, rfl, .inl (.inl m3), rfl, _, _, rfl, _, _, rfl, rfl, ?_⟩
      rw [hR d0]
      refine ⟨_, rfl, _, rfl, _, rfl, _, rfl, by show 1 ≤ sizeLine; decide, fun c hc => ?_⟩
      generalize g4 : upd H3 c _ = H4
      have s4 : Same H3 H4 := g4 ▸ same_new hc
      have m4 : H4 c = some (.tup [.int (i : Nat)]) := g4 ▸ upd_same
      have s14 := s13.trans s4
      have call : ∀ (y : Addr) (H5 : Hp), Same H4 H5 → H5 y = some (.tup ((q ++ [i]).map nv)) → True := fun _ _ _ _ => trivial
      refine ⟨pp, c, _, _, rfl, rfl, .inl (.inl (s14 _ _ hpp)), .inl (.inl m4), ?_, fun z => ?_, fun _ z => absurd z (by simp), fun _ _ y hy => ?_⟩
      · rw [List.length_map]
        show _ + 1 ≤ _
        omega
      · have q0 : q = [] := List.map_eq_nil_iff.mp z
        have mc : H4 c = some (.tup ((q ++ [i]).map nv)) := by
          rw [m4, q0]
          rfl
        have s44 : Same H4 H4 := Same.refl H4
        have s15 := s14.trans s44
        refine ⟨x2, .ref c, t, N, q ++ [i], rfl, NodeAt.move (fun _ h => h) (fun c u _ e => s15 _ _ e) t x2 nt, by omega, ⟨c, rfl, mc⟩, ?_, fun D2 ws2 H6 n6 s6 m6 wa6 => ?_⟩
        · rw [List.length_append]
          show _ + 1 + _ ≤ _
          omega
        · have s26 : Same H2 H6 := s3.trans (s4.trans (s44.trans s6))
          have m26 := s26 _ _ m2
          have nx : kn q ks.toL (i + 1) = kn q ks.toL i ++ t.nodes (q ++ [i]) := by
            show kn q ks.toL i ++ (match ks.toL[i]? with | some t => t.nodes (q ++ [i]) | none => []) = _
            rw [ht]
          have len : ws.length + ws2.length ≤ 122 := by
            have c1 := cap (i + 1) (by have := pr.length; omega)
            rw [nx, List.length_append] at c1
            rw [wa.length, wa6.length, List.length_cons, List.length_map, List.length_map]
            omega
          refine ⟨D, D2, ws, ws2, rfl, rfl, m26, m6, by omega, fun E hE => ?_⟩
          have sE : Same H6 (upd H6 E (.lst (ws ++ ws2))) := same_new hE
          refine ⟨_, _, E, ws ++ ws2, rfl, (s2.trans s26).trans sE, (s2.trans s26).free hE, upd_same, ?_⟩
          rw [nx, List.map_append, ← List.cons_append]
          exact paired_append ((wa.same s26).same sE) (wa6.same sE)
      · generalize g5 : upd H4 y _ = H5
        have s45 : Same H4 H5 := g5 ▸ same_new hy
        have my : H5 y = some (.tup ((q ++ [i]).map nv)) := g5 ▸ (upd_same.trans (by rw [List.map_append]; rfl))
        have s15 := s14.trans s45
        refine ⟨x2, .ref y, t, N, q ++ [i], rfl, NodeAt.move (fun _ h => h) (fun c u _ e => s15 _ _ e) t x2 nt, by omega, ⟨y, rfl, my⟩, ?_, fun D2 ws2 H6 n6 s6 m6 wa6 => ?_⟩
        · rw [List.length_append]
          show _ + 1 + _ ≤ _
          omega
        · have s26 : Same H2 H6 := s3.trans (s4.trans (s45.trans s6))
          have m26 := s26 _ _ m2
          have nx : kn q ks.toL (i + 1) = kn q ks.toL i ++ t.nodes (q ++ [i]) := by
            show kn q ks.toL i ++ (match ks.toL[i]? with | some t => t.nodes (q ++ [i]) | none => []) = _
            rw [ht]
          have len : ws.length + ws2.length ≤ 122 := by
            have c1 := cap (i + 1) (by have := pr.length; omega)
            rw [nx, List.length_append] at c1
            rw [wa.length, wa6.length, List.length_cons, List.length_map, List.length_map]
            omega
          refine ⟨D, D2, ws, ws2, rfl, rfl, m26, m6, by omega, fun E hE => ?_⟩
          have sE : Same H6 (upd H6 E (.lst (ws ++ ws2))) := same_new hE
          refine ⟨_, _, E, ws ++ ws2, rfl, (s2.trans s26).trans sE, (s2.trans s26).free hE, upd_same, ?_⟩
          rw [nx, List.map_append, ← List.cons_append]
          exact paired_append ((wa.same s26).same sE) (wa6.same sE)
    · rintro σ H2 ⟨o3, o4, D, ws, rfl, s2, nD, m2, wa⟩
      refine ⟨_, rfl, fin D ws _ nD s2 m2 ?_⟩
      rw [kids_nodes, ← pr.length]
      exact wa
theorem ok_wpaths {f : Addr} {fd : FuncData} (F : Fun K "_law_paths" "_law_paths" sLPaths f fd) (T : Txt mg) (mN : mg "_law_paths" = some (.ref f)) (kN : PySem.W.keepIn K (.ref f) = true) (bN : Binds K fd ["_law_node_here", "_law_path"] []) :
    ∀ d, d ≤ 100 → FnOk P w K mg base CX0 (d + 2) f fd ["_law_node_here", "_law_path"] (spPathsW d)
  | 0, h => wpaths_step F T h mN kN bN never_ok fun z => absurd rfl z
  | d + 1, h => wpaths_step F T h mN kN bN (ok_wpaths F T mN kN bN d (by omega)) fun _ => rfl
/-- _law_at, in the law's own lists -/
def spAtW : Sp := fun vs H Q _ => ∃ (v px y : V) (q : Pth), vs = [v, px] ∧ PthAt H px q ∧ Loc H v q y ∧ Q y H
theorem loc_take {H : Hp} : ∀ (q : Pth) (v y : V), Loc H v q y → ∀ n, ∃ x, Loc H v (q.take n) x ∧ ∀ i, q[n]? = some i → ∃ a k m b vs v', x = .ref a ∧ H a = some (.lst [k, m, .ref b]) ∧ H b = some (.lst vs) ∧ vs[i]? = some v' ∧ Loc H v (q.take (n + 1)) v'
  | [], v, y, h, n => ⟨v, by rw [List.take_nil]; exact rfl, fun i e => by simp at e⟩
  | j :: q, v, y, ⟨a, k, m, b, vs, v', e, h1, h2, h3, h4⟩, 0 => ⟨v, rfl, fun i ei => by
      have ei : j = i := by simpa using ei
      subst ei
      exact ⟨a, k, m, b, vs, v', e, h1, h2, h3, a, k, m, b, vs, v', e, h1, h2, h3, rfl⟩⟩
  | j :: q, v, y, ⟨a, k, m, b, vs, v', e, h1, h2, h3, h4⟩, n + 1 => by
    obtain ⟨x, g1, g2⟩ := loc_take q v' y h4 n
    refine ⟨x, ⟨a, k, m, b, vs, v', e, h1, h2, h3, g1⟩, fun i ei => ?_⟩
    obtain ⟨a2, k2, m2, b2, vs2, v2, e2, q1, q2, q3, q4⟩ := g2 i (by simpa using ei)
    exact ⟨a2, k2, m2, b2, vs2, v2, e2, q1, q2, q3, a, k, m, b, vs, v', e, h1, h2, h3, q4⟩
theorem ok_wat {f : Addr} {fd : FuncData} (F : Fun K "_law_at" "_law_at" sLAt f fd) : FnOk P w K mg base CX0 1 f fd ["_law_node_here", "_law_path"] spAtW := by
  refine F.ok scLAt (fun vs H Q E h => ?_) (fun cdv A outer s H vs Q E hr h => ?_)
  · obtain ⟨_, _, _, _, rfl, _⟩ := h
    rfl
  · obtain ⟨v, px, y, q, rfl, ⟨pp, rfl, hpp⟩, loc, fin⟩ := h
    refine ⟨_, pss_cons (ps_for PassesOwn.never rfl (pi_tup (pv 1)) (pg_name (i := 2) scLAt.nd rfl (Or.inl rfl)) (pss_one (ps_set (i := 0) scLAt.nd rfl (Or.inl rfl) (pe_ix ix_list (pe_ix ix_list (pv 0) pe_int (fun _ _ => rfl)) (pv 2) (fun _ _ => rfl)))))
      (pss_one (ps_ret (pv 0))), ?_⟩
    refine ⟨_, rfl, pp, rfl, ⟨_, .inl (.inl hpp)⟩, for_it (walk_tup (K := K) (a := pp) (xs := q.map nv)) (fun i σ H' => ∃ (x : V) (o2 : Option V), σ = [some x, some (.ref pp), o2] ∧ H = H' ∧ Loc H v (q.take i) x)
      ⟨v, none, rfl, rfl, rfl⟩ (fun i σ H' _ ⟨_, _, _, e, _⟩ => e ▸ .inl (.inl hpp)) ?_ ?_⟩
    · rintro i x0 σ H1 H2 hi ⟨x, o2, rfl, rfl, lx⟩ ⟨rfl, hx⟩
      rw [List.getElem?_map] at hx
      obtain ⟨n, hn, rfl⟩ := Option.map_eq_some_iff.mp hx
      obtain ⟨x', g1, g2⟩ := loc_take q v y loc i
      obtain rfl := loc_fun _ _ _ _ lx g1
      obtain ⟨a, k, m, b, vs, v', rfl, q1, q2, q3, q4⟩ := g2 n hn
      exact ⟨_, rfl, a, _, 2, _, rfl, rfl, SqL.of q1, atI_nat (j := 2) rfl, _, rfl, b, _, n, _, rfl, rfl, SqL.of q2, atI_nat q3, v', _, rfl, rfl, q4⟩
    · rintro σ H2 ⟨x, o2, rfl, rfl, lx⟩
      rw [List.length_map, List.take_length] at lx
      obtain rfl := loc_fun _ _ _ _ lx loc
      exact ⟨_, rfl, fin⟩
end
end K04

namespace K04
open PySem L2 DR DM TL
def spNamesT (K : PySem.W.Frag) : Sp := fun vs H Q _ => ∃ (p : Addr) (ts : List Str), vs = [.ref p] ∧ H p = some (.tup (ts.map V.str)) ∧ ts.length ≤ 1000 ∧ (∀ t ∈ ts, (tl t).length ≤ 30000) ∧ ∀ H', Same H H' → Q (.bl (areNames (ts.map tl))) H'
section
variable {P : Program} {w : World} {K : PySem.W.Frag} {mg : Str → Option Value} {base : Heap}
theorem ok_namesT {f : Addr} {fd : FuncData} (F : Fun K "are_names" "are_names" sNames f fd) (T : Txt mg) (D : Has P w K mg base 1 "is_name" ["value"] spName) : FnOk P w K mg base CX0 2 f fd ["values"] (spNamesT K) := by
  obtain ⟨fN, fdN, GN, mN, kN, bN⟩ := D
  refine F.ok scNames (fun vs H Q E h => ?_) (fun cdv A outer s H vs Q E hr h => ?_)
  · obtain ⟨_, _, rfl, _⟩ := h
    rfl
  · obtain ⟨p, ts, rfl, hp, few, len, fin⟩ := h
    have hr1 : Room 1 _ := hr.mono (by decide)
    refine ⟨_, pss_cons (ps_if (pt_not (pt_val (pe_callB call_isiT (by rfl) T.isi PyProof.Rows.boot_isinstance (pa_cons (pv 0) (pa_cons (pe_tup (pa_cons (pe_bltn (v := .ty "list") (by rfl) T.list (by decide +kernel) rfl) (pa_cons (pe_bltn (v := .ty "tuple") (by rfl) T.tuple (by decide +kernel) rfl) pa_nil))) pa_nil))))) (pss_one (ps_ret pe_bl)) pss_nil)
      (pss_one (ps_ret (pe_and (pe_callB (cr_all rfl) (by rfl) T.all PyProof.Rows.boot_all (pa_cons (pe_lc (own := [("value", 1)]) (g := gName 1) (tt := tYes) rfl scNames.nd (pi_tup (pv 0))
        (blkOk_by (N := ["values", "value"]) (sc := defScope sNames) (by decide +kernel)) (fun _ _ _ _ _ => pg_name (i := 1) scNames.nd rfl (Or.inl rfl)) (fun _ _ _ _ _ => pts_nil)
        (fun _ _ _ _ _ => pe_call GN hr1 (by rfl) mN kN bN .nil pass0 (pa_cons (pv 1) pa_nil))) pa_nil))
        (pe_one (pe_cmpR op_eq (pe_lenSetU rfl (by rfl) T.len (by rfl) T.set (pv 0)) (pe_callB call_len_seq (by rfl) T.len PySem.boot_len (pa_cons (pv 0) pa_nil)) rfl))))), ?_⟩
    have B := big
    refine ⟨_, rfl, by show 2 ≤ sizeLine; decide, fun q hq => ?_⟩
    generalize g1 : upd H q _ = H1
    have s1 : Same H H1 := g1 ▸ same_new hq
    have m1 : H1 q = some (.tup [.ty "list", .ty "tuple"]) := g1 ▸ upd_same
    refine ⟨.ref p, q, _, .type "tuple", _, true, rfl, m1, .cons (.ty _) (.cons (.ty _) .nil), .base (.tup (s1 _ _ hp)), by rfl, true, rfl, ?_⟩
    refine iteF ⟨_, rfl, p, rfl, ⟨_, .inl (.inl (s1 _ _ hp))⟩, fun D hD => lc_it (walk_tup (K := K) (a := p) (xs := ts.map V.str)) (fun i H' => Same H1 H' ∧ H' D = some (.lst ((ts.take i).map fun t => V.bl (isName (tl t)))))
      ⟨same_new hD, upd_same⟩ (fun i H' _ ⟨s, _⟩ => .inl (.inl (s _ _ (s1 _ _ hp)))) ?_ ?_⟩
    · rintro i x H2 H3 hi ⟨s2, m2⟩ ⟨rfl, hx⟩
      rw [List.getElem?_map] at hx
      obtain ⟨t, ht, rfl⟩ := Option.map_eq_some_iff.mp hx
      refine ⟨rfl, ?_⟩
      unfold tYes
      refine iteT ⟨_, rfl, t, rfl, len t (List.mem_of_getElem? ht), fun H4 s4 => ⟨_, s4 _ _ m2, ?_, ?_, ?_⟩⟩
      · rw [List.length_map]
        exact Nat.lt_of_le_of_lt (List.length_take_le _ _) (by rw [List.length_map] at hi; omega)
      · exact same_put (s2.trans s4) hD
      · rw [upd_same, List.take_succ, ht, List.map_append]
        rfl
    · rintro H2 ⟨s2, m2⟩
      rw [List.length_map, List.take_length] at m2
      refine ⟨D, ts.map fun t => isName (tl t), rfl, SqL.of (by rw [m2, List.map_map]; rfl), _, rfl, ?_⟩
      have all : (ts.map fun t => isName (tl t)).all id = (ts.map tl).all isName := by
        rw [List.all_map, List.all_map]
        rfl
      rw [all]
      refine ite2 (fun c1 => ?_) (fun c1 => ?_)
      · refine ⟨_, rfl, p, ts, rfl, .inl (.inl (s2 _ _ (s1 _ _ hp))), by unfold PySem.scanBound; omega, fun c hc => ⟨_, rfl, p, _, rfl, .inr (.inl (.inl (s2 _ _ (s1 _ _ hp)))), ?_⟩⟩
        have e : areNames (ts.map tl) = decide (V.int (c : Int) = V.int (((ts.map V.str).length : Nat) : Int)) := by
          unfold areNames
          rw [c1, Bool.true_and, List.length_map, decide_eq_decide, ← nodup_tl, ← hc]
          exact ⟨fun q => by rw [q], fun q => by injection q with q; omega⟩
        rw [e] at fin
        exact ⟨rfl, fin _ (s1.trans s2)⟩
      · have e : areNames (ts.map tl) = false := by
          unfold areNames
          rw [Bool.eq_false_iff.mpr c1]
          rfl
        rw [e] at fin
        exact fin _ (s1.trans s2)

def spMarked (C : Addr) : Sp := fun vs H Q _ => ∃ (a mm : Addr) (rs : List Row) (x : V) (q : Pth) (i : Nat) (ms : List W), vs = [.ref a, x, .ref mm] ∧ DocAt C H a rs ∧ PthAt H x q ∧ q.length ≤ 1000 ∧ i < rs.length ∧ valV (plc (pathsM rs) rs.length) (pk q) = some (nv i) ∧
  (H mm = some (.tup (ms.map sv)) ∨ H mm = some (.lst (ms.map sv))) ∧ areNames ms = true ∧ ms.length ≤ 3 ∧ Few (rs.take i ++ ((rs.getD i (0, [], [])).1, (rs.getD i (0, [], [])).2.1, srt ms) :: rs.drop (i + 1)) ∧
  ∀ b H', Same H H' → DocAt C H' b (rs.take i ++ ((rs.getD i (0, [], [])).1, (rs.getD i (0, [], [])).2.1, srt ms) :: rs.drop (i + 1)) → Q (.ref b) H'
theorem scMarked : FnScope ["self", "path", "marks", "at", "depth", "kind", "_"] ["self", "path", "marks"] (defScope (cDoc 15)) := ⟨rfl, rfl, rfl, by decide +kernel, rfl, by decide +kernel, by decide +kernel⟩
theorem fn_or {C0 : CXT} {k : Nat} {f : Addr} {fd : FuncData} {ps : List Str} {sp1 sp2 : Sp} (F1 : FnOk P w K mg base C0 k f fd ps sp1) (F2 : FnOk P w K mg base C0 k f fd ps sp2) : FnOk P w K mg base C0 k f fd ps (fun vs H Q E => sp1 vs H Q E ∨ sp2 vs H Q E) :=
  { len := fun _ _ _ _ h => h.elim (F1.len _ _ _ _) (F2.len _ _ _ _), run := fun A out s H args us vs Q E hr e hb hv h => h.elim (F1.run A out s H args us vs Q E hr e hb hv) (F2.run A out s H args us vs Q E hr e hb hv) }
def spNamesU (K : PySem.W.Frag) : Sp := fun vs H Q E => spNames K vs H Q E ∨ spNamesT K vs H Q E
theorem ok_marked {f C : Addr} {fd : FuncData} (F : Fun K "marked" "Document.marked" (cDoc 15) f fd) (T : Txt mg) (DC : DCls K mg C) (D1 : C8.Met P w K mg base 4 C "number_of" (spPlaceP C) []) (D2 : Has P w K mg base 2 "are_names" ["values"] (spNamesU K)) (D3 : C8.Met P w K mg base 4 C "_replaced" (spReplaced C) []) :
    FnOk P w K mg base CX0 5 f fd ["self", "path", "marks"] (spMarked C) := by
  obtain ⟨fN, fdN, GN, mN, kN, bN⟩ := D2
  refine F.ok scMarked (fun vs H Q E h => ?_) (fun cdv A outer s H vs Q E hr h => ?_)
  · obtain ⟨_, _, _, _, _, _, _, rfl, _⟩ := h
    rfl
  · obtain ⟨a, mm, rs, x, q, i, ms, rfl, dc, px, ql, hi, at_, hm, nm, l3, few, fin⟩ := h
    have hr2 : Room 2 _ := hr.mono (by decide)
    refine ⟨_, pss_cons (ps_set (i := 3) scMarked.nd rfl (Or.inl rfl) (C8.pe_mt D1 hr (Nat.le_refl _) (pv 0) (pa_cons (pv 1) pa_nil)))
      (pss_cons (ps_if (pt_not (pt_val (pe_call GN hr2 (by rfl) mN kN bN .nil pass0 (pa_cons (pv 2) pa_nil)))) (pss_one ps_never) pss_nil)
      (pss_cons (ps_asg (pe_ix ix_tup (pe_fld (pv 0) rfl) (pv 3) (fun _ _ => rfl)) (pg_tup rfl (pgs_cons (pg_name (i := 4) scMarked.nd rfl (Or.inl rfl)) (pgs_cons (pg_name (i := 5) scMarked.nd rfl (Or.inl rfl)) (pgs_cons (pg_name (i := 6) scMarked.nd rfl (Or.inl rfl)) pgs_nil)))))
      (pss_one (ps_ret (C8.pe_mt D3 hr (Nat.le_refl _) (pv 0) (pa_cons (pv 3) (pa_cons (pe_tup (pa_cons (pv 4) (pa_cons (pv 5) (pa_cons (pe_callTy call_tuple_of (by rfl) T.tuple (by decide +kernel)
        (pa_cons (pe_callB cr_sortedU (by rfl) T.sorted PyProof.Rows.boot_sorted (pa_cons (pv 2) pa_nil)) pa_nil)) pa_nil)))) pa_nil))))))), ?_⟩
    have B := big
    obtain ⟨dx0, _, _, _, _, _, hd0, _⟩ := id dc
    refine ⟨_, rfl, a, dx0, _, rfl, hd0, rfl, _, rfl, a, rs, x, q, i, rfl, dc, px, ql, at_, fun H1 s1 => ?_⟩
    have mn := areNames_mem nm
    have sh : ∀ t ∈ ms.map toS, (tl t).length ≤ 30000 := fun t ht => by
      obtain ⟨m, hm, rfl⟩ := List.mem_map.mp ht
      have := (isName_mem (mn.1 m hm)).2.1
      show m.length ≤ 30000
      omega
    have em : (ms.map toS).map V.str = ms.map sv := by
      rw [List.map_map]
      rfl
    have et : (ms.map toS).map tl = ms := by
      rw [List.map_map]
      exact List.map_id ms
    have named : ∀ (Q' : VK) (E' : XK), (∀ H', Same H1 H' → Q' (.bl true) H') → spNamesU K [.ref mm] H1 Q' E' := fun Q' E' k => by
      rcases hm with hm | hm
      · exact .inr ⟨mm, ms.map toS, rfl, by rw [em]; exact s1 _ _ hm, by rw [List.length_map]; omega, sh, fun H' s => by rw [et, nm]; exact k H' s⟩
      · exact .inl ⟨mm, ms.map toS, rfl, by rw [em]; exact s1 _ _ hm, by rw [List.length_map]; omega, sh, fun H' s => by rw [et, nm]; exact k H' s⟩
    refine ⟨_, rfl, named _ _ fun H2 s2 => ⟨_, rfl, ?_⟩⟩
    refine iteF ?_
    have s12 := s1.trans s2
    obtain ⟨dx, rr, p, d, us, ws, h1, h2, h3, _⟩ := id (dc.same s12)
    obtain ⟨x1, r1, ux1, rx1, g1, a1, m1, rfl, ha1, hm1⟩ := row_at h3 hi
    refine ⟨_, rfl, a, C, dx, _, _, rfl, h1, DC.cls, DC.rows, rfl, _, rfl, rr, us, _, _, rfl, rfl, .inl (.inl h2), atI_nat ux1, a1, _, rfl, .inl (.inl ha1), rfl, _, _, rfl, _, _, rfl, _, _, rfl, rfl, ?_⟩
    have hm2 : H2 mm = some (.tup ((ms.map toS).map V.str)) ∨ H2 mm = some (.lst ((ms.map toS).map V.str)) := by
      rw [em]
      exact hm.imp (s12 _ _) (s12 _ _)
    refine ⟨_, rfl, a, dx, _, rfl, h1, rfl, _, rfl, _, rfl, _, rfl, _, rfl, mm, ms.map toS, rfl, hm2, by rw [List.length_map]; omega, fun ys sp pe so hsp => ?_⟩
    have es : ys.map V.str = (srt ms).map sv := by
      have q := srt_eq (pe.map tl) (rises_of so)
      rw [et] at q
      rw [q, List.map_map]
      refine List.map_congr_left fun y _ => ?_
      show V.str y = V.str (toS (tl y))
      rw [toS_tl]
    rw [es]
    generalize g3 : upd H2 sp _ = H3
    have s3 : Same H2 H3 := g3 ▸ same_new hsp
    have m3 : H3 sp = some (.lst ((srt ms).map sv)) := g3 ▸ upd_same
    refine ⟨sp, _, rfl, .inl ⟨SqL.of m3, fun tp htp => ?_⟩⟩
    generalize g4 : upd H3 tp _ = H4
    have s4 : Same H3 H4 := g4 ▸ same_new htp
    have m4 : H4 tp = some (.tup ((srt ms).map sv)) := g4 ▸ upd_same
    refine ⟨by show 3 ≤ sizeLine; decide, fun e he => ?_⟩
    generalize g5 : upd H4 e _ = H5
    have s5 : Same H4 H5 := g5 ▸ same_new he
    have m5 : H5 e = some (.tup [.int (r1.1 : Nat), sv r1.2.1, .ref tp]) := g5 ▸ upd_same
    have s25 := s3.trans (s4.trans s5)
    rw [g1] at few fin
    exact ⟨a, rs, i, .ref e, (r1.1, r1.2.1, srt ms), rfl, (dc.same s12).same s25, hi, ⟨e, tp, rfl, m5, s5 _ _ m4⟩, few, fun b H' s6 d6 => fin b H' (s12.trans (s25.trans s6)) d6⟩
end
end K04

namespace K04
open PySem L2 DR DM TL
mutual
def _root_.DM.Tr.slim : Tr → Prop
  | .nd k ms ks => (headL k ms).length ≤ 60 ∧ ks.slim
def _root_.DM.Trs.slim : Trs → Prop
  | .nil => True
  | .cons t ts => t.slim ∧ ts.slim
end
mutual
theorem toks_slim : ∀ (t : Tr), t.slim → ∀ p ∈ t.toks, p.length ≤ 60
  | .nd k ms ks, f, p, h => by
    rw [Tr.slim] at f
    rw [Tr.toks] at h
    rcases List.mem_cons.mp h with rfl | h
    · exact f.1
    · exact wrap_slim ks f.2 p h
theorem wrap_slim : ∀ (ts : Trs), ts.slim → ∀ p ∈ ts.wrapT, p.length ≤ 60
  | .nil, f, p, h => by
    rw [Trs.wrapT] at h
    exact absurd h List.not_mem_nil
  | .cons t ts, f, p, h => by
    rw [Trs.slim] at f
    rw [Trs.wrapT] at h
    rcases List.mem_cons.mp h with rfl | h
    · exact Nat.le_of_ble_eq_true rfl
    · rcases List.mem_append.mp h with h | h
      · exact toks_slim t f.1 p h
      · exact more_slim ts f.2 p h
theorem more_slim : ∀ (ts : Trs), ts.slim → ∀ p ∈ ts.moreT, p.length ≤ 60
  | .nil, f, p, h => by
    rw [Trs.moreT] at h
    rw [List.mem_singleton.mp h]
    exact Nat.le_of_ble_eq_true rfl
  | .cons t ts, f, p, h => by
    rw [Trs.slim] at f
    rw [Trs.moreT] at h
    rcases List.mem_cons.mp h with rfl | h
    · exact Nat.le_of_ble_eq_true rfl
    · rcases List.mem_append.mp h with h | h
      · exact toks_slim t f.1 p h
      · exact more_slim ts f.2 p h
end
theorem spl_count : ∀ (l acc : List Nat), (spl [46] 0 acc l).length ≤ l.length + 1
  | [], acc => by
    rw [spl_nil]
    exact Nat.le_refl _
  | c :: r, acc => by
    by_cases p : pre [46] (c :: r) = true
    · rw [spl_hit p]
      have h : (spl [46] 0 [] r).length ≤ r.length + 1 := spl_count r []
      show (spl [46] 0 [] r).length + 1 ≤ (r.length + 1) + 1
      omega
    · rw [spl_miss (Bool.eq_false_iff.mpr p), List.length_cons]
      have := spl_count r (acc ++ [c])
      omega

theorem sorted_ex (ms : List W) : ∃ ys : List W, ys.Perm ms ∧ rises ys := by
  have h := List.pairwise_mergeSort (le := fun a b : W => !decide (b < a)) (fun a b c h1 h2 => by
    simp only [Bool.not_eq_true', decide_eq_false_iff_not] at h1 h2 ⊢
    exact nlt_trans h1 h2) (fun a b => by
    by_cases c : b < a
    · have : ¬ a < b := fun z => List.lt_asymm c z
      simp [this]
    · simp [c]) ms
  refine ⟨ms.mergeSort fun a b => !decide (b < a), List.mergeSort_perm _ _, h.imp fun {a b} z => ?_⟩
  simpa using z
theorem srt_rises (ms : List W) : rises (srt ms) := by
  obtain ⟨ys, p, r⟩ := sorted_ex ms
  rw [srt_eq p r]
  exact r
theorem srt_srt (ms : List W) : srt (srt ms) = srt ms := srt_eq (List.Perm.refl _) (srt_rises ms)
theorem srt_names {ms : List W} (h : areNames ms = true) : areNames (srt ms) = true := by
  obtain ⟨h1, h2⟩ := areNames_mem h
  unfold areNames
  rw [Bool.and_eq_true, List.all_eq_true, decide_eq_true_eq]
  exact ⟨fun m hm => h1 m ((srt_perm ms).subset hm), ((srt_perm ms).nodup_iff).mpr h2⟩
mutual
theorem sort_rows : ∀ (t : Tr) (d : Nat), (t.sortT srt).rows srt d = t.rows srt d
  | .nd k ms ks, d => by
    rw [Tr.sortT, Tr.rows, Tr.rows, srt_srt, sorts_rows ks (d + 1)]
theorem sorts_rows : ∀ (ts : Trs) (d : Nat), (ts.sortT srt).rows srt d = ts.rows srt d
  | .nil, d => by rw [Trs.sortT]
  | .cons t ts, d => by rw [Trs.sortT, Trs.rows, Trs.rows, sort_rows t d, sorts_rows ts d]
end
mutual
theorem sort_good : ∀ (t : Tr), t.wild → (t.sortT srt).good ∧ (t.sortT srt).slim
  | .nd k ms ks, h => by
    rw [Tr.wild] at h
    obtain ⟨hk, hm, h3, hf⟩ := h
    rw [Tr.sortT, Tr.good, Tr.slim]
    obtain ⟨g1, g2⟩ := sorts_good ks hf
    have := (head_wild hk hm h3).2.1
    exact ⟨⟨hk, srt_names hm, g1⟩, by omega, g2⟩
theorem sorts_good : ∀ (ts : Trs), ts.wild → (ts.sortT srt).good ∧ (ts.sortT srt).slim
  | .nil, h => by
    rw [Trs.sortT, Trs.good, Trs.slim]
    exact ⟨trivial, trivial⟩
  | .cons t ts, h => by
    rw [Trs.wild] at h
    rw [Trs.sortT, Trs.good, Trs.slim]
    obtain ⟨a1, a2⟩ := sort_good t h.1
    obtain ⟨b1, b2⟩ := sorts_good ts h.2
    exact ⟨⟨a1, b1⟩, a2, b2⟩
end
theorem wild_rows : ∀ (n : Nat) (t : Tr) (d : Nat), sz t ≤ n → t.wild → ∀ r ∈ t.rows srt d, r.1 + 1 ≤ d + sz t ∧ (headL r.2.1 r.2.2).length ≤ 35
  | 0, t, d, h, _ => absurd (sz_pos t) (by omega)
  | n + 1, .nd k ms ks, d, h, g => by
    rw [Tr.wild] at g
    obtain ⟨hk, hm, h3, hf⟩ := g
    intro r hr
    rw [rows_nd] at hr
    have hz := sz_nd k ms ks
    rcases List.mem_cons.mp hr with rfl | hr
    · exact ⟨by show d + 1 ≤ _; omega, (head_wild hk hm h3).2.1⟩
    · have : ∀ l : List Tr, (∀ x ∈ l, x ∈ ks.toL) → ∀ r ∈ flat l (d + 1), r.1 + 1 ≤ d + sz (.nd k ms ks) ∧ (headL r.2.1 r.2.2).length ≤ 35 := by
        intro l
        induction l with
        | nil =>
          intro _ r hr
          rw [flat_nil] at hr
          cases hr
        | cons x l ih =>
          intro g r hr
          rw [flat_cons] at hr
          rcases List.mem_append.mp hr with hr | hr
          · have mx := g x (List.mem_cons_self ..)
            have sk := sz_kid (k := k) (ms := ms) mx
            obtain ⟨q1, q2⟩ := wild_rows n x (d + 1) (by omega) (wild_toL.mp hf x mx) r hr
            exact ⟨by omega, q2⟩
          · exact ih (fun y hy => g y (List.mem_cons_of_mem _ hy)) r hr
      exact this ks.toL (fun x h => h) r hr
theorem wild_few {t : Tr} (g : t.wild) (h : sz t ≤ 200) : Few (t.rows srt 0) :=
  ⟨h, fun r hr => by
    obtain ⟨q1, q2⟩ := wild_rows _ t 0 (Nat.le_refl _) g r hr
    exact ⟨by omega, by omega⟩⟩
/-- what is asked of a text that is parsed -/
theorem wild_text {t : Tr} (g : t.wild) (h : sz t ≤ 200) : (tl (toS (txt t))).length ≤ 30000 ∧ (∀ ps, cutM LD SG (tl (toS (txt t))) = some ps → ∀ p ∈ ps, (spl [46] 0 [] p).length < 64) ∧ (cutM LD SG (tl (toS (txt t)))).bind (readM srt) = some (t.rows srt 0) := by
  obtain ⟨g1, g2⟩ := sort_good t g
  have ct : cutM LD SG (txt t) = some (t.sortT srt).toks := cut_text _ g1
  have rd := read_text (srt := srt) (t.sortT srt) g1
  rw [sort_rows] at rd
  refine ⟨?_, fun ps e p hp => ?_, ?_⟩
  · have := (txt_size _ t (Nat.le_refl _) g).1
    show (txt t).length ≤ 30000
    omega
  · have e : cutM LD SG (txt t) = some ps := e
    rw [ct] at e
    injection e with e
    subst e
    have := toks_slim _ g2 p hp
    have := spl_count p []
    omega
  · show (cutM LD SG (txt t)).bind (readM srt) = _
    rw [ct]
    exact rd
end K04

namespace K04
open PySem L2 DR DM TL
/-- the four errors -/
structure Errs (P : Program) (w : World) (K : PySem.W.Frag) (mg : Str → Option Value) (base : Heap) (CP CN CA CL : Addr) : Prop where
  path : XR P w K mg base "InvalidPath" "path" CP
  num : XR P w K mg base "InvalidNumber" "value" CN
  part : XR P w K mg base "InvalidPart" "value" CA
  lim : XR P w K mg base "LimitExceeded" "limit" CL
/-- what is no path of a node -/
def Bad (K : PySem.W.Frag) (H : Hp) (rs : List Row) (x : V) : Prop := (∃ t, TyX K H x t ∧ PySem.W.kitOne K t (.type "tuple") = some false) ∨
  (∃ b us, x = .ref b ∧ H b = some (.tup us) ∧ us.all plainV = true ∧ us.length ≤ 1000 ∧ us.all intV = false) ∨
  ∃ (b : Addr) (ks : List Int), x = .ref b ∧ H b = some (.tup (ks.map V.int)) ∧ ks.length ≤ 1000 ∧ (valV (plc (pathsM rs) rs.length) (ks.map fun i => (Sum.inl i : Key))).isSome = false
def Rais (C : Addr) (f : Str) (x : V) (H : Hp) (E : XK) : Prop := ∀ d H', Same H H' → H' d = some (.xd [(f, x)]) → E (.ref C) (some d) H'
theorem Rais.same {C : Addr} {f : Str} {x : V} {H H' : Hp} {E : XK} (s : Same H H') (h : Rais C f x H E) : Rais C f x H' E := fun d H2 s2 m => h d H2 (s.trans s2) m
structure MetX (P : Program) (w : World) (K : PySem.W.Frag) (mg : Str → Option Value) (base : Heap) (k : Nat) (C : Addr) (m : Str) (sp : Sp) : Prop where
  ex : ∃ f fd ps, Cls K C ∧ Meth K C m f ∧ FnOk P w K mg base (CX P w) k f fd ps sp ∧ Binds K fd ps []
def spPlaceX (K : PySem.W.Frag) (C CP : Addr) : Sp := fun vs H Q E => ∃ (a : Addr) (rs : List Row) (x : V), vs = [.ref a, x] ∧ DocAt C H a rs ∧
  ((∃ (q : Pth) (i : Nat), PthAt H x q ∧ q.length ≤ 1000 ∧ valV (plc (pathsM rs) rs.length) (pk q) = some (nv i) ∧ ∀ H', Same H H' → Q (nv i) H') ∨ (Bad K H rs x ∧ Rais CP "path" x H E))
def spBad (K : PySem.W.Frag) (C CP : Addr) : Sp := fun vs H Q E => ∃ (a : Addr) (rs : List Row) (x : V), vs = [.ref a, x] ∧ DocAt C H a rs ∧ Bad K H rs x ∧ Rais CP "path" x H E
section
variable {P : Program} {w : World} {K : PySem.W.Frag} {mg : Str → Option Value} {base : Heap}
theorem pe_mx {X : Cx} {k j : Nat} {C : Addr} {m : Str} {sp : Sp} {E : XK} {pos apos : Pos} {e o : Expr} {es : List Expr} {ta : TE} {t : TA} {pl : Sem Bool} {W : WX} (D : MetX X.prog X.w X.K X.mg X.base k C m sp) (hr : Room j X.A) (hk : k ≤ j)
    (tk : Takes X W) (hW : ∀ cls d σ H, E cls d H → W cls d σ H) (ho : PE X o ta) (ha : PA X (e :: es) t)
    (he : starEach (e :: es) X.env = (false, eval e X.env) :: starEach es X.env := by rfl) (hpl : (backTo pos (starEach es X.env)).any (·.1) = false := by rfl)
    (hev : eval (.Call (.Attribute o m apos) (e :: es) [] pos) X.env = (do
        let ov ← eval o X.env
        standAt apos.atName
        let (f, first) ← holding [ov] (getMethod ov m pl)
        callWith pos f first (backTo pos (starEach (e :: es) X.env)) (backToKw pos (keywordEach [] X.env))) := by rfl) :
    PE X (.Call (.Attribute o m apos) (e :: es) [] pos) (tMeth C m sp [] E ta t) := by
  obtain ⟨f, fd, ps, c, hm, F, hb⟩ := D.ex
  exact pe_meth ho c hm F (hr.mono hk) hb .nil (passes_call tk hW) ha he hpl hev
theorem ok_placeX {f C CP CN CA CL : Addr} {fd : FuncData} (F : Fun K "number_of" "Document.number_of" (cDoc 17) f fd) (DC : DCls K mg C) (D1 : HasIn P w K mg base C) (ER : Errs P w K mg base CP CN CA CL) : FnOk P w K mg base (CX P w) 4 f fd ["self", "path"] (spPlaceX K C CP) := by
  obtain ⟨fP, fdP, GP, bP, sP, iP⟩ := D1.ex
  refine F.okX scPlaceP (fun vs H Q E h => ?_) (fun cdv A outer s H vs Q E hr h => ?_)
  · obtain ⟨_, _, _, rfl, _⟩ := h
    rfl
  · obtain ⟨a, rs, x, rfl, dc, h⟩ := h
    have hr2 : Room 2 _ := hr.mono (by decide)
    have hu : (A.deeper (PyProof.Rows.envOfC "Document.number_of" (defScope (cDoc 17)) s.heap.objs.size f cdv)).units + 1 < cLine := by
      have := hr.units
      omega
    refine ⟨_, pss_cons (ps_if (pt_cmpR (op_notInM GP hr bP sP iP pass0) (pv 1) (pv 0) rfl) (pss_one (ps_raise rfl (takes_of rfl rfl rfl rfl) (pmk_xr ER.path hr2 (by rfl) (pa_cons (pv 1) pa_nil)))) pss_nil)
      (pss_one (ps_ret (pe_dget hu (pe_fld (pv 0) rfl) (pv 1) (by intro _ _; rfl)))), ?_⟩
    obtain ⟨dx, r, p, d, us, ws, h1, _⟩ := id dc
    rcases h with ⟨q, i, ⟨b, rfl, hb⟩, few, at_, fin⟩ | ⟨bad, er⟩
    · have e : (q.map nv) = (q.map fun (n : Nat) => ((n : Int))).map V.int := by
        rw [List.map_map]
        rfl
      have ek : (q.map fun (n : Nat) => ((n : Int))).map (fun i => (Sum.inl i : Key)) = pk q := by
        rw [List.map_map]
        rfl
      refine ⟨_, rfl, _, rfl, a, dx, _, rfl, h1, a, rs, _, rfl, dc, .inr (.inr ⟨b, q.map fun (n : Nat) => ((n : Int)), rfl, by rw [hb, e], by rw [List.length_map]; exact few, fun H' s1 => ⟨_, rfl, ?_⟩⟩)⟩
      rw [ek, at_]
      refine ⟨_, rfl, iteF ?_⟩
      obtain ⟨dx, r, p, d, us, ws, h1, h2, h3, h4, h5, h6, _⟩ := dc.same s1
      refine ⟨_, rfl, a, C, dx, _, _, rfl, h1, DC.cls, DC.places, rfl, _, rfl, d, nv i, rfl, ?_, fin _ s1⟩
      rw [← at_]
      exact DGet.t h6 (by rw [pk_v]; exact s1 _ _ hb)
    · have fin : ∀ H', Same H H' → Rais CP "path" x H' E := fun H' s1 => er.same s1
      refine ⟨_, rfl, _, rfl, a, dx, _, rfl, h1, a, rs, _, rfl, dc, ?_⟩
      rcases bad with ⟨t, ty, kt⟩ | ⟨b, us2, rfl, hb, pl, few, ni⟩ | ⟨b, ks, rfl, hb, few, no⟩
      · exact .inl ⟨t, ty, kt, fun H' s1 => ⟨_, rfl, _, rfl, iteT ⟨_, rfl, _, rfl, fin H' s1⟩⟩⟩
      · exact .inr (.inl ⟨b, us2, rfl, hb, pl, few, ni, fun H' s1 => ⟨_, rfl, _, rfl, iteT ⟨_, rfl, _, rfl, fin H' s1⟩⟩⟩)
      · refine .inr (.inr ⟨b, ks, rfl, hb, few, fun H' s1 => ⟨_, rfl, ?_⟩⟩)
        rw [no]
        exact ⟨_, rfl, iteT ⟨_, rfl, _, rfl, fin H' s1⟩⟩
end
end K04

namespace K04
open PySem L2 DR DM TL
section
variable {P : Program} {w : World} {K : PySem.W.Frag} {mg : Str → Option Value} {base : Heap}
theorem ok_kindB {f C CP : Addr} {fd : FuncData} (F : Fun K "kind" "Document.kind" (cDoc 8) f fd) (DC : DCls K mg C) (D1 : MetX P w K mg base 4 C "number_of" (spPlaceX K C CP)) : FnOk P w K mg base (CX P w) 5 f fd ["self", "path"] (spBad K C CP) := by
  refine F.okX scKindP (fun vs H Q E h => ?_) (fun cdv A outer s H vs Q E hr h => ?_)
  · obtain ⟨_, _, _, rfl, _⟩ := h
    rfl
  · obtain ⟨a, rs, x, rfl, dc, bad, er⟩ := h
    refine ⟨_, pss_one (ps_ret (pe_ix ix_tup (pe_ix ix_tup (pe_fld (pv 0) rfl) (pe_mx D1 hr (Nat.le_refl _) (takes_of rfl rfl rfl rfl) (fun _ _ _ _ z => z) (pv 0) (pa_cons (pv 1) pa_nil)) (fun _ _ => rfl)) pe_int (fun _ _ => rfl))), ?_⟩
    obtain ⟨dx, r, p, d, us, ws, h1, h2, h3, _⟩ := id dc
    exact ⟨_, rfl, a, C, dx, _, _, rfl, h1, DC.cls, DC.rows, rfl, _, rfl, a, dx, _, rfl, h1, rfl, _, rfl, a, rs, x, rfl, dc, .inr ⟨bad, er⟩⟩
theorem ok_marksB {f C CP : Addr} {fd : FuncData} (F : Fun K "marks" "Document.marks" (cDoc 9) f fd) (DC : DCls K mg C) (D1 : MetX P w K mg base 4 C "number_of" (spPlaceX K C CP)) : FnOk P w K mg base (CX P w) 5 f fd ["self", "path"] (spBad K C CP) := by
  refine F.okX scMarksP (fun vs H Q E h => ?_) (fun cdv A outer s H vs Q E hr h => ?_)
  · obtain ⟨_, _, _, rfl, _⟩ := h
    rfl
  · obtain ⟨a, rs, x, rfl, dc, bad, er⟩ := h
    refine ⟨_, pss_one (ps_ret (pe_ix ix_tup (pe_ix ix_tup (pe_fld (pv 0) rfl) (pe_mx D1 hr (Nat.le_refl _) (takes_of rfl rfl rfl rfl) (fun _ _ _ _ z => z) (pv 0) (pa_cons (pv 1) pa_nil)) (fun _ _ => rfl)) pe_int (fun _ _ => rfl))), ?_⟩
    obtain ⟨dx, r, p, d, us, ws, h1, h2, h3, _⟩ := id dc
    exact ⟨_, rfl, a, C, dx, _, _, rfl, h1, DC.cls, DC.rows, rfl, _, rfl, a, dx, _, rfl, h1, rfl, _, rfl, a, rs, x, rfl, dc, .inr ⟨bad, er⟩⟩
theorem ok_widthB {f C CP : Addr} {fd : FuncData} (F : Fun K "width" "Document.width" (cDoc 10) f fd) (T : Txt mg) (DC : DCls K mg C) (D1 : MetX P w K mg base 4 C "number_of" (spPlaceX K C CP)) (D2 : C8.Met P w K mg base 2 C "_children" (spKidsP C) []) : FnOk P w K mg base (CX P w) 5 f fd ["self", "path"] (spBad K C CP) := by
  refine F.okX scWidthP (fun vs H Q E h => ?_) (fun cdv A outer s H vs Q E hr h => ?_)
  · obtain ⟨_, _, _, rfl, _⟩ := h
    rfl
  · obtain ⟨a, rs, x, rfl, dc, bad, er⟩ := h
    refine ⟨_, pss_one (ps_ret (pe_callB call_len_seq (by rfl) T.len PySem.boot_len (pa_cons (C8.pe_mt D2 hr (by decide) (pv 0) (pa_cons (pe_mx D1 hr (Nat.le_refl _) (takes_of rfl rfl rfl rfl) (fun _ _ _ _ z => z) (pv 0) (pa_cons (pv 1) pa_nil)) pa_nil)) pa_nil))), ?_⟩
    obtain ⟨dx, r, p, d, us, ws, h1, h2, h3, _⟩ := id dc
    exact ⟨_, rfl, a, dx, _, rfl, h1, rfl, _, rfl, a, dx, _, rfl, h1, rfl, _, rfl, a, rs, x, rfl, dc, .inr ⟨bad, er⟩⟩
theorem ok_partB {f C CP : Addr} {fd : FuncData} (F : Fun K "part" "Document.part" (cDoc 11) f fd) (DC : DCls K mg C) (D1 : MetX P w K mg base 4 C "number_of" (spPlaceX K C CP)) (D2 : C8.Met P w K mg base 1 C "_end" (spEndP C) [])
    (D3 : Has P w K mg base 1 "moved" ["rows", "by"] spMoved) (D4 : C8.Mak P w K mg base 2 "Document" C (spInit C) []) : FnOk P w K mg base (CX P w) 5 f fd ["self", "path"] (spBad K C CP) := by
  obtain ⟨fM, fdM, GM, mM, kM, bM⟩ := D3
  refine F.okX scPartP (fun vs H Q E h => ?_) (fun cdv A outer s H vs Q E hr h => ?_)
  · obtain ⟨_, _, _, rfl, _⟩ := h
    rfl
  · obtain ⟨a, rs, x, rfl, dc, bad, er⟩ := h
    have hr1 : Room 1 _ := hr.mono (by decide)
    refine ⟨_, pss_cons (ps_set (i := 2) scPartP.nd rfl (Or.inl rfl) (pe_mx D1 hr (Nat.le_refl _) (takes_of rfl rfl rfl rfl) (fun _ _ _ _ z => z) (pv 0) (pa_cons (pv 1) pa_nil)))
      (pss_one (ps_ret (C8.pe_mk D4 hr (by decide) (by rfl) (pa_cons (pe_call GM hr1 (by rfl) mM kM bM .nil pass0 (pa_cons (pe_slice sl_tupA (pe_fld (pv 0) rfl) (po_some (pv 2)) (po_some (C8.pe_mt D2 hr (by decide) (pv 0) (pa_cons (pv 2) pa_nil))))
        (pa_cons (pe_un un_neg (pe_ix ix_tup (pe_ix ix_tup (pe_fld (pv 0) rfl) (pv 2) (fun _ _ => rfl)) pe_int (fun _ _ => rfl))) pa_nil))) pa_nil)))), ?_⟩
    obtain ⟨dx, r, p, d, us, ws, h1, h2, h3, _⟩ := id dc
    exact ⟨_, rfl, a, dx, _, rfl, h1, rfl, _, rfl, a, rs, x, rfl, dc, .inr ⟨bad, er⟩⟩
def spRemX (K : PySem.W.Frag) (C CP : Addr) : Sp := fun vs H Q E => ∃ (a : Addr) (rs : List Row) (x : V), vs = [.ref a, x] ∧ DocAt C H a rs ∧ (Bad K H rs x ∨ ∃ q : Pth, PthAt H x q ∧ q.length ≤ 1000 ∧ valV (plc (pathsM rs) rs.length) (pk q) = some (nv 0)) ∧ Rais CP "path" x H E
theorem ok_removedB {f C CP CN CA CL : Addr} {fd : FuncData} (F : Fun K "removed" "Document.removed" (cDoc 13) f fd) (DC : DCls K mg C) (ER : Errs P w K mg base CP CN CA CL) (D1 : MetX P w K mg base 4 C "number_of" (spPlaceX K C CP)) (D2 : C8.Met P w K mg base 1 C "_end" (spEndP C) []) (D4 : C8.Mak P w K mg base 2 "Document" C (spInit C) []) :
    FnOk P w K mg base (CX P w) 5 f fd ["self", "path"] (spRemX K C CP) := by
  refine F.okX scRemoved (fun vs H Q E h => ?_) (fun cdv A outer s H vs Q E hr h => ?_)
  · obtain ⟨_, _, _, rfl, _⟩ := h
    rfl
  · obtain ⟨a, rs, x, rfl, dc, h, er⟩ := h
    have hr2 : Room 2 _ := hr.mono (by decide)
    refine ⟨_, pss_cons (ps_set (i := 2) scRemoved.nd rfl (Or.inl rfl) (pe_mx D1 hr (Nat.le_refl _) (takes_of rfl rfl rfl rfl) (fun _ _ _ _ z => z) (pv 0) (pa_cons (pv 1) pa_nil)))
      (pss_cons (ps_if (pt_cmpR op_eq (pv 2) pe_int rfl) (pss_one (ps_raise rfl (takes_of rfl rfl rfl rfl) (pmk_xr ER.path hr2 (by rfl) (pa_cons (pv 1) pa_nil)))) pss_nil)
      (pss_one (ps_ret (C8.pe_mk D4 hr (by decide) (by rfl) (pa_cons (pe_op op_catA (pe_slice sl_tupA (pe_fld (pv 0) rfl) po_none (po_some (pv 2))) (pe_slice sl_tupA (pe_fld (pv 0) rfl) (po_some (C8.pe_mt D2 hr (by decide) (pv 0) (pa_cons (pv 2) pa_nil))) po_none)) pa_nil))))), ?_⟩
    obtain ⟨dx0, _, _, _, _, _, hd0, _⟩ := id dc
    refine ⟨_, rfl, a, dx0, _, rfl, hd0, rfl, _, rfl, a, rs, x, rfl, dc, ?_⟩
    rcases h with bad | ⟨q, px, ql, at_⟩
    · exact .inr ⟨bad, er⟩
    · refine .inl ⟨q, 0, px, ql, at_, fun H1 s1 => ?_⟩
      refine ⟨_, rfl, rfl, _, rfl, ?_⟩
      exact iteT ⟨_, rfl, _, rfl, er.same s1⟩
/-- what is no name, as is_name tells -/
def NoName (K : PySem.W.Frag) (H : Hp) (y : V) : Prop := (∃ t, y = .str t ∧ (tl t).length ≤ 30000 ∧ isName (tl t) = false) ∨ ∃ ty, TyX K H y ty ∧ PySem.W.kitOne K ty (.type "str") = some false
end
end K04

namespace K04
open PySem L2 DR DM TL
/-! ### the checks at what they refuse -/
def Saysno (sp : Sp) (vs : List V) (H : Hp) : Prop := ∀ H1, Same H H1 → ∀ (Q : VK) (E : XK), (∀ H2, Same H1 H2 → Q (.bl false) H2) → sp vs H1 Q E
def NoStr (K : PySem.W.Frag) (H : Hp) (y : V) : Prop := ∃ ty, TyX K H y ty ∧ PySem.W.kitOne K ty (.type "str") = some false
def spNoStr (K : PySem.W.Frag) : Sp := fun vs H Q _ => ∃ y, vs = [y] ∧ NoStr K H y ∧ Q (.bl false) H
def spNameO (K : PySem.W.Frag) : Sp := fun vs H Q E => spName vs H Q E ∨ spNoStr K vs H Q E
def spNoRow (K : PySem.W.Frag) : Sp := fun vs H Q _ => ∃ y ty, vs = [y] ∧ (∀ H', Same H H' → TyX K H' y ty) ∧ PySem.W.kitAny K ty [.type "list", .type "tuple"] = some false ∧ ∀ H', Same H H' → Q (.bl false) H'
def spOneNo (K : PySem.W.Frag) : Sp := fun vs H Q _ => ∃ p u, vs = [.ref p] ∧ H p = some (.lst [u]) ∧ (∀ H', Same H H' → NoStr K H' u) ∧ ∀ H', Same H H' → Q (.bl false) H'
def spNamesO (K : PySem.W.Frag) : Sp := fun vs H Q E => (spNames K vs H Q E ∨ spNamesT K vs H Q E) ∨ (spNoRow K vs H Q E ∨ spOneNo K vs H Q E)
def spBetweenN (K : PySem.W.Frag) : Sp := fun vs H Q _ => ∃ (x l m : V) (t : Value) (b1 b2 : Bool), vs = [x, l, m] ∧ TyX K H x t ∧ PySem.W.kitOne K t (.type "int") = some b1 ∧ PySem.W.kitOne K t (.type "bool") = some b2 ∧ (b1 && !b2) = false ∧ Q (.bl false) H
def spBetweenO (K : PySem.W.Frag) : Sp := fun vs H Q E => spBetween vs H Q E ∨ spBetweenN K vs H Q E
section
variable {P : Program} {w : World} {K : PySem.W.Frag} {mg : Str → Option Value} {base : Heap}
/-- what never raises, where raising is allowed -/
theorem fn_x {k : Nat} {f : Addr} {fd : FuncData} {ps : List Str} {sp : Sp} (F : FnOk P w K mg base CX0 k f fd ps sp) : FnOk P w K mg base (CX P w) k f fd ps sp :=
  { len := F.len, run := fun A out s H args us vs Q E hr e hb hv h => codeAny_mono (F.run A out s H args us vs Q E hr e hb hv h) fun r s' z => by
      cases r with
      | error e => exact False.elim z
      | ok fl => cases fl <;> exact z }
theorem ok_nameN {f : Addr} {fd : FuncData} (F : Fun K "is_name" "is_name" sName f fd) (T : Txt mg) : FnOk P w K mg base CX0 1 f fd ["value"] (spNoStr K) := by
  obtain ⟨uL, mL, rL⟩ := T.lets
  obtain ⟨uN, mN, rN⟩ := T.longest
  refine F.ok scName (fun vs H Q E h => ?_) (fun cdv A outer s H vs Q E hr h => ?_)
  · obtain ⟨_, rfl, _⟩ := h
    rfl
  · obtain ⟨y, rfl, ⟨ty, tx, kt⟩, fin⟩ := h
    refine ⟨_, pss_cons (ps_if (PW.pt (pw_or (pt_not (pt_val (pe_callB call_isi (by rfl) T.isi PyProof.Rows.boot_isinstance (pa_cons (pv 0) (pa_cons (pe_bltn (v := .ty "str") (by rfl) T.str (by decide +kernel) rfl) pa_nil)))))
        (pw_or1 (pt_not (pt_chain op_le op_le pe_int (pe_callB call_len_str (by rfl) T.len PySem.boot_len (pa_cons (pv 0) pa_nil)) (pe_glob (v := .int 8) (by rfl) mN rN)))))) (pss_one (ps_ret pe_bl)) pss_nil)
      (pss_one ps_never), ?_⟩
    refine ⟨_, rfl, y, _, ty, _, false, rfl, .ty _, tx, kt, false, rfl, ?_⟩
    exact iteT (iteT fin)
theorem ok_nameO {f : Addr} {fd : FuncData} (F : Fun K "is_name" "is_name" sName f fd) (T : Txt mg) : FnOk P w K mg base CX0 1 f fd ["value"] (spNameO K) := fn_or (ok_name F T) (ok_nameN F T)
theorem ok_noRow {f : Addr} {fd : FuncData} (F : Fun K "are_names" "are_names" sNames f fd) (T : Txt mg) : FnOk P w K mg base CX0 2 f fd ["values"] (spNoRow K) := by
  refine F.ok scNames (fun vs H Q E h => ?_) (fun cdv A outer s H vs Q E hr h => ?_)
  · obtain ⟨_, _, rfl, _⟩ := h
    rfl
  · obtain ⟨y, ty, rfl, tx, kt, fin⟩ := h
    refine ⟨_, pss_cons (ps_if (pt_not (pt_val (pe_callB call_isiT (by rfl) T.isi PyProof.Rows.boot_isinstance (pa_cons (pv 0) (pa_cons (pe_tup (pa_cons (pe_bltn (v := .ty "list") (by rfl) T.list (by decide +kernel) rfl) (pa_cons (pe_bltn (v := .ty "tuple") (by rfl) T.tuple (by decide +kernel) rfl) pa_nil))) pa_nil))))) (pss_one (ps_ret pe_bl)) pss_nil)
      (pss_one ps_never), ?_⟩
    refine ⟨_, rfl, by show 2 ≤ sizeLine; decide, fun q hq => ?_⟩
    generalize g1 : upd H q _ = H1
    have s1 : Same H H1 := g1 ▸ same_new hq
    have m1 : H1 q = some (.tup [.ty "list", .ty "tuple"]) := g1 ▸ upd_same
    exact ⟨y, q, _, ty, _, false, rfl, m1, .cons (.ty _) (.cons (.ty _) .nil), tx _ s1, kt, false, rfl, iteT (fin _ s1)⟩
theorem ok_oneNo {f : Addr} {fd : FuncData} (F : Fun K "are_names" "are_names" sNames f fd) (T : Txt mg) (D : Has P w K mg base 1 "is_name" ["value"] (spNameO K)) : FnOk P w K mg base CX0 2 f fd ["values"] (spOneNo K) := by
  obtain ⟨fN, fdN, GN, mN, kN, bN⟩ := D
  refine F.ok scNames (fun vs H Q E h => ?_) (fun cdv A outer s H vs Q E hr h => ?_)
  · obtain ⟨_, _, rfl, _⟩ := h
    rfl
  · obtain ⟨p, y, rfl, hp, no, fin⟩ := h
    have hr1 : Room 1 _ := hr.mono (by decide)
    refine ⟨_, pss_cons (ps_if (pt_not (pt_val (pe_callB call_isiT (by rfl) T.isi PyProof.Rows.boot_isinstance (pa_cons (pv 0) (pa_cons (pe_tup (pa_cons (pe_bltn (v := .ty "list") (by rfl) T.list (by decide +kernel) rfl) (pa_cons (pe_bltn (v := .ty "tuple") (by rfl) T.tuple (by decide +kernel) rfl) pa_nil))) pa_nil))))) (pss_one (ps_ret pe_bl)) pss_nil)
      (pss_one (ps_ret (pe_and (pe_callB (cr_all rfl) (by rfl) T.all PyProof.Rows.boot_all (pa_cons (pe_lc (own := [("value", 1)]) (g := gName 1) (tt := tYes) rfl scNames.nd (pi_list (pv 0))
        (blkOk_by (N := ["values", "value"]) (sc := defScope sNames) (by decide +kernel)) (fun _ _ _ _ _ => pg_name (i := 1) scNames.nd rfl (Or.inl rfl)) (fun _ _ _ _ _ => pts_nil)
        (fun _ _ _ _ _ => pe_call GN hr1 (by rfl) mN kN bN .nil pass0 (pa_cons (pv 1) pa_nil))) pa_nil))
        (pe_one (pe_cmpR op_eq (pe_lenSetT rfl (by rfl) T.len (by rfl) T.set (pv 0)) (pe_callB call_len_seq (by rfl) T.len PySem.boot_len (pa_cons (pv 0) pa_nil)) rfl))))), ?_⟩
    have B := big
    refine ⟨_, rfl, by show 2 ≤ sizeLine; decide, fun q hq => ?_⟩
    generalize g1 : upd H q _ = H1
    have s1 : Same H H1 := g1 ▸ same_new hq
    have m1 : H1 q = some (.tup [.ty "list", .ty "tuple"]) := g1 ▸ upd_same
    refine ⟨.ref p, q, _, .type "list", _, true, rfl, m1, .cons (.ty _) (.cons (.ty _) .nil), .base (.lst (s1 _ _ hp)), by rfl, true, rfl, ?_⟩
    refine iteF ⟨_, rfl, p, rfl, ⟨_, SqL.of (s1 _ _ hp)⟩, fun D hD => lc_it (walk_list (K := K) (a := p) (xs := [y])) (fun i H' => Same H1 H' ∧ H' D = some (.lst (([y].take i).map fun _ => V.bl false)))
      ⟨same_new hD, upd_same⟩ (fun i H' _ ⟨s, _⟩ => s.seq (SqL.of (s1 _ _ hp))) ?_ ?_⟩
    · rintro i x H2 H3 hi ⟨s2, m2⟩ ⟨rfl, hx⟩
      refine ⟨rfl, ?_⟩
      unfold tYes
      obtain rfl : i = 0 := Nat.lt_one_iff.mp hi
      injection hx with hx
      subst hx
      refine iteT ⟨_, rfl, .inr ⟨_, rfl, no _ (s1.trans s2), _, m2, by show 0 < _; omega, same_put s2 hD, upd_same⟩⟩
    · rintro H2 ⟨s2, m2⟩
      refine ⟨D, [false], rfl, SqL.of m2, _, rfl, ?_⟩
      exact iteF (fin _ (s1.trans s2))
theorem ok_namesO {f : Addr} {fd : FuncData} (F : Fun K "are_names" "are_names" sNames f fd) (T : Txt mg) (D : Has P w K mg base 1 "is_name" ["value"] spName) (D2 : Has P w K mg base 1 "is_name" ["value"] (spNameO K)) : FnOk P w K mg base CX0 2 f fd ["values"] (spNamesO K) :=
  fn_or (fn_or (ok_names F T D) (ok_namesT F T D)) (fn_or (ok_noRow F T) (ok_oneNo F T D2))
theorem ok_betweenN {f : Addr} {fd : FuncData} (F : Fun K "is_between" "is_between" sBetween f fd) (D1 : Has P w K mg base 1 "is_integer" ["value"] (spInt K)) : FnOk P w K mg base CX0 2 f fd ["value", "least", "most"] (spBetweenN K) := by
  obtain ⟨fI, fdI, GI, mI, kI, bI⟩ := D1
  refine F.ok scBetween (fun vs H Q E h => ?_) (fun cdv A outer s H vs Q E hr h => ?_)
  · obtain ⟨_, _, _, _, _, _, rfl, _⟩ := h
    rfl
  · obtain ⟨x, l, m, t, b1, b2, rfl, ty, k1, k2, e, fin⟩ := h
    refine ⟨_, pss_one (ps_ret (pe_and (pe_call GI hr (by rfl) mI kI bI .nil pass0 (pa_cons (pv 0) pa_nil)) (pe_one (pe_chain op_le op_le (pv 1) (pv 0) (pv 2))))), ?_⟩
    refine ⟨_, rfl, x, t, b1, b2, rfl, ty, k1, k2, _, rfl, ?_⟩
    rw [e]
    exact iteF fin
theorem ok_betweenO {f : Addr} {fd : FuncData} (F : Fun K "is_between" "is_between" sBetween f fd) (D1 : Has P w K mg base 1 "is_integer" ["value"] (spInt K)) : FnOk P w K mg base CX0 2 f fd ["value", "least", "most"] (spBetweenO K) := fn_or (ok_between F D1) (ok_betweenN F D1)
end
end K04

namespace K04
open PySem L2 DR DM TL
/-- the path of a node -/
def Good (H : Hp) (rs : List Row) (x : V) (i : Nat) : Prop := ∃ q : Pth, PthAt H x q ∧ q.length ≤ 1000 ∧ valV (plc (pathsM rs) rs.length) (pk q) = some (nv i)
def spRenX (K : PySem.W.Frag) (C CP CA : Addr) : Sp := fun vs H Q E => ∃ (a : Addr) (rs : List Row) (x y : V), vs = [.ref a, x, y] ∧ DocAt C H a rs ∧
  ((Bad K H rs x ∧ Rais CP "path" x H E) ∨ ∃ i, Good H rs x i ∧ Saysno (spNameO K) [y] H ∧ Rais CA "value" y H E)
def spMarX (K : PySem.W.Frag) (C CP CA : Addr) : Sp := fun vs H Q E => ∃ (a : Addr) (rs : List Row) (x y : V), vs = [.ref a, x, y] ∧ DocAt C H a rs ∧
  ((Bad K H rs x ∧ Rais CP "path" x H E) ∨ ∃ i, Good H rs x i ∧ Saysno (spNamesO K) [y] H ∧ Rais CA "value" y H E)
def spInsX (K : PySem.W.Frag) (C CP CN CA CL : Addr) : Sp := fun vs H Q E => ∃ (a : Addr) (rs : List Row) (x y z : V), vs = [.ref a, x, y, z] ∧ DocAt C H a rs ∧
  ((Bad K H rs x ∧ Rais CP "path" x H E) ∨ ∃ i, Good H rs x i ∧ i < rs.length ∧
    ((Saysno (spBetweenO K) [y, .int 0, nv (kidsM rs i).length] H ∧ Rais CN "value" y H E) ∨
      ∃ j, y = nv j ∧ j ≤ (kidsM rs i).length ∧
        ((∃ t, (∀ H', Same H H' → TyX K H' z t) ∧ PySem.W.kitOne K t (.ref C) = some false ∧ Rais CA "value" z H E) ∨
          ∃ b rs2, z = .ref b ∧ DocAt C H b rs2 ∧ 200 < rs.length + rs2.length ∧ Rais CL "limit" (.int 200) H E)))
section
variable {P : Program} {w : World} {K : PySem.W.Frag} {mg : Str → Option Value} {base : Heap}
theorem ok_renamedB {f C CP CN CA CL : Addr} {fd : FuncData} (F : Fun K "renamed" "Document.renamed" (cDoc 14) f fd) (DC : DCls K mg C) (ER : Errs P w K mg base CP CN CA CL) (D1 : MetX P w K mg base 4 C "number_of" (spPlaceX K C CP)) (D2 : Has P w K mg base 1 "is_name" ["value"] (spNameO K)) :
    FnOk P w K mg base (CX P w) 5 f fd ["self", "path", "kind"] (spRenX K C CP CA) := by
  obtain ⟨fN, fdN, GN, mN, kN, bN⟩ := D2
  refine F.okX scRenamed (fun vs H Q E h => ?_) (fun cdv A outer s H vs Q E hr h => ?_)
  · obtain ⟨_, _, _, _, rfl, _⟩ := h
    rfl
  · obtain ⟨a, rs, x, y, rfl, dc, h⟩ := h
    have hr1 : Room 1 _ := hr.mono (by decide)
    have hr2 : Room 2 _ := hr.mono (by decide)
    refine ⟨_, pss_cons (ps_set (i := 3) scRenamed.nd rfl (Or.inl rfl) (pe_mx D1 hr (Nat.le_refl _) (takes_of rfl rfl rfl rfl) (fun _ _ _ _ z => z) (pv 0) (pa_cons (pv 1) pa_nil)))
      (pss_cons (ps_if (pt_not (pt_val (pe_call GN hr1 (by rfl) mN kN bN .nil pass0 (pa_cons (pv 2) pa_nil)))) (pss_one (ps_raise rfl (takes_of rfl rfl rfl rfl) (pmk_xr ER.part hr2 (by rfl) (pa_cons (pv 2) pa_nil)))) pss_nil)
      (pss_cons ps_never (pss_one ps_never))), ?_⟩
    obtain ⟨dx0, _, _, _, _, _, hd0, _⟩ := id dc
    refine ⟨_, rfl, a, dx0, _, rfl, hd0, rfl, _, rfl, a, rs, x, rfl, dc, ?_⟩
    rcases h with ⟨bad, er⟩ | ⟨i, ⟨q, px, ql, at_⟩, no, er⟩
    · exact .inr ⟨bad, er⟩
    · refine .inl ⟨q, i, px, ql, at_, fun H1 s1 => ?_⟩
      refine ⟨_, rfl, no H1 s1 _ _ fun H2 s2 => ⟨_, rfl, ?_⟩⟩
      exact iteT ⟨_, rfl, _, rfl, er.same (s1.trans s2)⟩
theorem ok_markedB {f C CP CN CA CL : Addr} {fd : FuncData} (F : Fun K "marked" "Document.marked" (cDoc 15) f fd) (DC : DCls K mg C) (ER : Errs P w K mg base CP CN CA CL) (D1 : MetX P w K mg base 4 C "number_of" (spPlaceX K C CP)) (D2 : Has P w K mg base 2 "are_names" ["values"] (spNamesO K)) :
    FnOk P w K mg base (CX P w) 5 f fd ["self", "path", "marks"] (spMarX K C CP CA) := by
  obtain ⟨fN, fdN, GN, mN, kN, bN⟩ := D2
  refine F.okX scMarked (fun vs H Q E h => ?_) (fun cdv A outer s H vs Q E hr h => ?_)
  · obtain ⟨_, _, _, _, rfl, _⟩ := h
    rfl
  · obtain ⟨a, rs, x, y, rfl, dc, h⟩ := h
    have hr1 : Room 1 _ := hr.mono (by decide)
    have hr2 : Room 2 _ := hr.mono (by decide)
    refine ⟨_, pss_cons (ps_set (i := 3) scMarked.nd rfl (Or.inl rfl) (pe_mx D1 hr (Nat.le_refl _) (takes_of rfl rfl rfl rfl) (fun _ _ _ _ z => z) (pv 0) (pa_cons (pv 1) pa_nil)))
      (pss_cons (ps_if (pt_not (pt_val (pe_call GN hr2 (by rfl) mN kN bN .nil pass0 (pa_cons (pv 2) pa_nil)))) (pss_one (ps_raise rfl (takes_of rfl rfl rfl rfl) (pmk_xr ER.part hr2 (by rfl) (pa_cons (pv 2) pa_nil)))) pss_nil)
      (pss_cons ps_never (pss_one ps_never))), ?_⟩
    obtain ⟨dx0, _, _, _, _, _, hd0, _⟩ := id dc
    refine ⟨_, rfl, a, dx0, _, rfl, hd0, rfl, _, rfl, a, rs, x, rfl, dc, ?_⟩
    rcases h with ⟨bad, er⟩ | ⟨i, ⟨q, px, ql, at_⟩, no, er⟩
    · exact .inr ⟨bad, er⟩
    · refine .inl ⟨q, i, px, ql, at_, fun H1 s1 => ?_⟩
      refine ⟨_, rfl, no H1 s1 _ _ fun H2 s2 => ⟨_, rfl, ?_⟩⟩
      exact iteT ⟨_, rfl, _, rfl, er.same (s1.trans s2)⟩
theorem ok_insertedB {f C CP CN CA CL : Addr} {fd : FuncData} (F : Fun K "inserted" "Document.inserted" (cDoc 12) f fd) (T : Txt mg) (DC : DCls K mg C) (ER : Errs P w K mg base CP CN CA CL) (hm : mg "Document" = some (.ref C)) (hk : PySem.W.kitOne K (.ref C) (.ref C) = some true) (tyD : ∀ (H : Hp) (a dx : Addr) (fs : List (Str × V)), H a = some (.ins C dx fs) → TyX K H (.ref a) (.ref C))
    (D1 : MetX P w K mg base 4 C "number_of" (spPlaceX K C CP)) (D2 : C8.Met P w K mg base 2 C "_children" (spKidsP C) []) (D5 : Has P w K mg base 2 "is_between" ["value", "least", "most"] (spBetweenO K)) (D7 : PropM P w K mg base C "size" (spSizeP C)) :
    FnOk P w K mg base (CX P w) 5 f fd ["self", "path", "index", "part"] (spInsX K C CP CN CA CL) := by
  obtain ⟨fB, fdB, GB, mB, kB, bB⟩ := D5
  obtain ⟨pS, fS, fdS, prS, GS, bS⟩ := D7
  obtain ⟨uM, mMost, rMost⟩ := T.most
  refine F.okX scInserted (fun vs H Q E h => ?_) (fun cdv A outer s H vs Q E hr h => ?_)
  · obtain ⟨_, _, _, _, _, rfl, _⟩ := h
    rfl
  · obtain ⟨a, rs, x, y, z, rfl, dc, h⟩ := h
    have hr1 : Room 1 _ := hr.mono (by decide)
    have hr2 : Room 2 _ := hr.mono (by decide)
    refine ⟨_, pss_cons (ps_set (i := 4) scInserted.nd rfl (Or.inl rfl) (pe_mx D1 hr (Nat.le_refl _) (takes_of rfl rfl rfl rfl) (fun _ _ _ _ z => z) (pv 0) (pa_cons (pv 1) pa_nil)))
      (pss_cons (ps_set (i := 5) scInserted.nd rfl (Or.inl rfl) (C8.pe_mt D2 hr (by decide) (pv 0) (pa_cons (pv 4) pa_nil)))
      (pss_cons (ps_if (pt_not (pt_val (pe_call GB hr2 (by rfl) mB kB bB .nil pass0 (pa_cons (pv 2) (pa_cons pe_int (pa_cons (pe_callB call_len_seq (by rfl) T.len PySem.boot_len (pa_cons (pv 5) pa_nil)) pa_nil)))))) (pss_one (ps_raise rfl (takes_of rfl rfl rfl rfl) (pmk_xr ER.num hr2 (by rfl) (pa_cons (pv 2) pa_nil)))) pss_nil)
      (pss_cons (ps_if (pt_not (pt_val (pe_callB call_isi (by rfl) T.isi PyProof.Rows.boot_isinstance (pa_cons (pv 3) (pa_cons (pe_glob (v := .ref C) (by rfl) hm rfl) pa_nil))))) (pss_one (ps_raise rfl (takes_of rfl rfl rfl rfl) (pmk_xr ER.part hr2 (by rfl) (pa_cons (pv 3) pa_nil)))) pss_nil)
      (pss_cons (ps_if (pt_cmpR op_gt (pe_op op_add (pe_prop (pv 0) DC.cls prS GS hr2 bS .nil pass0 rfl) (pe_prop (pv 3) DC.cls prS GS hr2 bS .nil pass0 rfl)) (pe_glob (v := .int 200) (by rfl) mMost rMost) rfl) (pss_one (ps_raise rfl (takes_of rfl rfl rfl rfl) (pmk_xr ER.lim hr2 (by rfl) (pa_cons (pe_glob (v := .int 200) (by rfl) mMost rMost) pa_nil)))) pss_nil)
      (pss_cons ps_never (pss_cons ps_never (pss_cons ps_never (pss_one ps_never)))))))), ?_⟩
    obtain ⟨dx0, _, _, _, _, _, hd0, _⟩ := id dc
    refine ⟨_, rfl, a, dx0, _, rfl, hd0, rfl, _, rfl, a, rs, x, rfl, dc, ?_⟩
    rcases h with ⟨bad, er⟩ | ⟨i, ⟨q, px, ql, at_⟩, hi, h⟩
    · exact .inr ⟨bad, er⟩
    · refine .inl ⟨q, i, px, ql, at_, fun H1 s1 => ?_⟩
      refine ⟨_, rfl, a, dx0, _, rfl, s1 _ _ hd0, rfl, _, rfl, a, rs, i, rfl, dc.same s1, hi, fun L H2 nL s2 m2 => ?_⟩
      have s12 := s1.trans s2
      have kl : ((kidsM rs i).map nv).length = (kidsM rs i).length := List.length_map ..
      refine ⟨_, rfl, _, rfl, L, _, rfl, .inl (SqL.of m2), ?_⟩
      rw [kl]
      rcases h with ⟨no, er⟩ | ⟨j, rfl, hj, h⟩
      · exact no H2 s12 _ _ fun H3 s3 => ⟨_, rfl, iteT ⟨_, rfl, _, rfl, er.same (s12.trans s3)⟩⟩
      · refine .inl ⟨((j : Nat) : Int), 0, _, rfl, _, rfl, ?_⟩
        rw [decide_eq_true (show (0 : Int) ≤ ((j : Nat) : Int) by omega), decide_eq_true (show ((j : Nat) : Int) ≤ (((kidsM rs i).length : Nat) : Int) by omega)]
        refine iteF ?_
        rcases h with ⟨t, tz, kt, er⟩ | ⟨b, rs2, rfl, db, big2, er⟩
        · exact ⟨_, rfl, z, .ref C, t, _, false, rfl, .own C, tz _ s12, kt, false, rfl, iteT ⟨_, rfl, _, rfl, er.same s12⟩⟩
        · obtain ⟨dxb, _, _, _, _, _, hb2, _⟩ := id (db.same s12)
          refine ⟨_, rfl, .ref b, .ref C, .ref C, _, true, rfl, .own C, tyD _ _ _ _ hb2, hk, true, rfl, ?_⟩
          refine iteF ?_
          refine ⟨_, rfl, a, dx0, _, rfl, s12 _ _ hd0, a, rs, rfl, dc.same s12, _, rfl, b, dxb, _, rfl, hb2, b, rs2, rfl, db.same s12, _, _, rfl, rfl, _, _, rfl, rfl, _, rfl, ?_⟩
          rw [decide_eq_true (show (200 : Int) < ((rs.length : Nat) : Int) + ((rs2.length : Nat) : Int) by omega)]
          exact iteT ⟨_, rfl, er.same s12⟩
end
end K04

namespace K04
open PySem L2 DR DM TL
abbrev sCalled : Stmt := top 33
def spParseL (C CL : Addr) : Sp := fun vs H Q E => ∃ (t : Str) (rs : List Row), vs = [.str t] ∧ (tl t).length ≤ 30000 ∧ (∀ ps, cutM LD SG (tl t) = some ps → ∀ p ∈ ps, (spl [46] 0 [] p).length < 64) ∧ (cutM LD SG (tl t)).bind (readM srt) = some rs ∧ 200 < rs.length ∧ Rais CL "limit" (.int 200) H E
def spParseO (C CL : Addr) : Sp := fun vs H Q E => spParse C vs H Q E ∨ spParseL C CL vs H Q E
/-- the methods that are called -/
structure Ways (P : Program) (w : World) (K : PySem.W.Frag) (mg : Str → Option Value) (base : Heap) (C CP CN CA CL : Addr) : Prop where
  kind : MetX P w K mg base 5 C "kind" (spBad K C CP)
  marks : MetX P w K mg base 5 C "marks" (spBad K C CP)
  width : MetX P w K mg base 5 C "width" (spBad K C CP)
  part : MetX P w K mg base 5 C "part" (spBad K C CP)
  ins : MetX P w K mg base 5 C "inserted" (fun vs H Q E => spInsX K C CP CN CA CL vs H Q E ∨ spInserted K C vs H Q E)
  rem : MetX P w K mg base 5 C "removed" (spRemX K C CP)
  ren : MetX P w K mg base 5 C "renamed" (spRenX K C CP CA)
  mar : MetX P w K mg base 5 C "marked" (spMarX K C CP CA)
/-- one of the eight ways -/
def spWay (K : PySem.W.Frag) (C CP CN CA CL : Addr) (n : Nat) (a : Addr) (x y z : V) (H : Hp) (Q : VK) (E : XK) : Prop :=
  match n with
  | 0 | 1 | 2 | 3 => spBad K C CP [.ref a, x] H Q E
  | 4 => spInsX K C CP CN CA CL [.ref a, x, y, z] H Q E ∨ spInserted K C [.ref a, x, y, z] H Q E
  | 5 => spRemX K C CP [.ref a, x] H Q E
  | 6 => spRenX K C CP CA [.ref a, x, y] H Q E
  | 7 => spMarX K C CP CA [.ref a, x, y] H Q E
  | _ => False
def spCalled (K : PySem.W.Frag) (C CP CN CA CL : Addr) : Sp := fun vs H Q E => ∃ (a : Addr) (rs : List Row) (n : Nat) (x y z : V), vs = [.ref a, nv n, x, y, z] ∧ DocAt C H a rs ∧ spWay K C CP CN CA CL n a x y z H Q E
section
variable {P : Program} {w : World} {K : PySem.W.Frag} {mg : Str → Option Value} {base : Heap}
theorem ok_parseL {f C CP CN CA CL : Addr} {fd : FuncData} (F : Fun K "parse_document" "parse_document" sParse f fd) (T : Txt mg) (ER : Errs P w K mg base CP CN CA CL) (D1 : Has P w K mg base 4 "read_rows" ["text"] spRows) :
    FnOk P w K mg base (CX P w) 5 f fd ["text"] (spParseL C CL) := by
  obtain ⟨fR, fdR, GR, mR, kR, bR⟩ := D1
  obtain ⟨uM, mM, rM⟩ := T.most
  refine F.okX scParse (fun vs H Q E h => ?_) (fun cdv A outer s H vs Q E hr h => ?_)
  · obtain ⟨_, _, rfl, _⟩ := h
    rfl
  · obtain ⟨t, rs, rfl, len, small, rd, many, er⟩ := h
    have hr2 : Room 2 _ := hr.mono (by decide)
    refine ⟨_, pss_cons (ps_set (i := 1) scParse.nd rfl (Or.inl rfl) pe_non)
      (pss_cons (ps_if (pt_val (pe_callB call_isi (by rfl) T.isi PyProof.Rows.boot_isinstance (pa_cons (pv 0) (pa_cons (pe_bltn (v := .ty "str") (by rfl) T.str (by decide +kernel) rfl) pa_nil)))) (pss_one (ps_set (i := 1) scParse.nd rfl (Or.inl rfl) (pe_call GR hr (by rfl) mR kR bR .nil pass0 (pa_cons (pv 0) pa_nil)))) pss_nil)
      (pss_cons (ps_if (pt_cmpR op_isN (pv 1) pe_non rfl) (pss_one ps_never) pss_nil)
      (pss_cons (ps_if (pt_cmpR op_gt (pe_callB call_len_seq (by rfl) T.len PySem.boot_len (pa_cons (pv 1) pa_nil)) (pe_glob (v := .int 200) (by rfl) mM rM) rfl) (pss_one (ps_raise rfl (takes_of rfl rfl rfl rfl) (pmk_xr ER.lim hr2 (by rfl) (pa_cons (pe_glob (v := .int 200) (by rfl) mM rM) pa_nil)))) pss_nil)
      (pss_one ps_never)))), ?_⟩
    refine ⟨_, rfl, .str t, _, .type "str", _, true, rfl, .ty _, .base (.str t), by rfl, true, rfl, iteT ?_⟩
    refine ⟨_, rfl, t, rfl, len, small, fun z => by rw [rd] at z; (cases z), fun rs2 p vs H1 e2 _ n1 s1 m1 ra => ?_⟩
    obtain rfl : rs = rs2 := by
      rw [rd] at e2
      exact Option.some.inj e2
    refine ⟨_, rfl, rfl, false, rfl, iteF ⟨_, rfl, p, vs, rfl, .inl (SqL.of m1), _, _, rfl, rfl, _, rfl, ?_⟩⟩
    rw [ra.length]
    rw [decide_eq_true (show (200 : Int) < ((rs.length : Nat) : Int) by omega)]
    exact iteT ⟨_, rfl, er.same s1⟩
theorem scCalled : FnScope ["_law_document", "_law_way", "_law_first", "_law_second", "_law_third"] ["_law_document", "_law_way", "_law_first", "_law_second", "_law_third"] (defScope sCalled) := ⟨rfl, rfl, rfl, by decide +kernel, rfl, by decide +kernel, by decide +kernel⟩
theorem ok_called {f C CP CN CA CL : Addr} {fd : FuncData} (F : Fun K "_law_called" "_law_called" sCalled f fd) (W : Ways P w K mg base C CP CN CA CL) :
    FnOk P w K mg base (CX P w) 6 f fd ["_law_document", "_law_way", "_law_first", "_law_second", "_law_third"] (spCalled K C CP CN CA CL) := by
  refine F.okX scCalled (fun vs H Q E h => ?_) (fun cdv A outer s H vs Q E hr h => ?_)
  · obtain ⟨_, _, _, _, _, _, rfl, _⟩ := h
    rfl
  · obtain ⟨a, rs, n, x, y, z, rfl, ⟨dx, _, _, _, _, _, ha, _⟩, h⟩ := h
    refine ⟨_, pss_cons (ps_if (pt_cmpR op_lt (pv 1) pe_int rfl) (pss_one (ps_ret (pe_ifExp (pt_cmpR op_eq (pv 1) pe_int rfl)
        (pe_mx W.kind hr (Nat.le_refl _) (takes_of rfl rfl rfl rfl) (fun _ _ _ _ z => z) (pv 0) (pa_cons (pv 2) pa_nil)) (pe_mx W.marks hr (Nat.le_refl _) (takes_of rfl rfl rfl rfl) (fun _ _ _ _ z => z) (pv 0) (pa_cons (pv 2) pa_nil))))) pss_nil)
      (pss_cons (ps_if (pt_cmpR op_lt (pv 1) pe_int rfl) (pss_one (ps_ret (pe_ifExp (pt_cmpR op_eq (pv 1) pe_int rfl)
        (pe_mx W.width hr (Nat.le_refl _) (takes_of rfl rfl rfl rfl) (fun _ _ _ _ z => z) (pv 0) (pa_cons (pv 2) pa_nil)) (pe_mx W.part hr (Nat.le_refl _) (takes_of rfl rfl rfl rfl) (fun _ _ _ _ z => z) (pv 0) (pa_cons (pv 2) pa_nil))))) pss_nil)
      (pss_cons (ps_if (pt_cmpR op_lt (pv 1) pe_int rfl) (pss_one (ps_ret (pe_ifExp (pt_cmpR op_eq (pv 1) pe_int rfl)
        (pe_mx W.ins hr (Nat.le_refl _) (takes_of rfl rfl rfl rfl) (fun _ _ _ _ z => z) (pv 0) (pa_cons (pv 2) (pa_cons (pv 3) (pa_cons (pv 4) pa_nil)))) (pe_mx W.rem hr (Nat.le_refl _) (takes_of rfl rfl rfl rfl) (fun _ _ _ _ z => z) (pv 0) (pa_cons (pv 2) pa_nil))))) pss_nil)
      (pss_one (ps_ret (pe_ifExp (pt_cmpR op_eq (pv 1) pe_int rfl)
        (pe_mx W.ren hr (Nat.le_refl _) (takes_of rfl rfl rfl rfl) (fun _ _ _ _ z => z) (pv 0) (pa_cons (pv 2) (pa_cons (pv 3) pa_nil))) (pe_mx W.mar hr (Nat.le_refl _) (takes_of rfl rfl rfl rfl) (fun _ _ _ _ z => z) (pv 0) (pa_cons (pv 2) (pa_cons (pv 3) pa_nil)))))))), ?_⟩
    match n, h with
    | 0, h => exact ⟨_, rfl, _, _, rfl, rfl, _, rfl, iteT ⟨_, rfl, rfl, _, rfl, iteT ⟨_, rfl, a, dx, _, rfl, ha, rfl, _, rfl, h⟩⟩⟩
    | 1, h => exact ⟨_, rfl, _, _, rfl, rfl, _, rfl, iteT ⟨_, rfl, rfl, _, rfl, iteF ⟨_, rfl, a, dx, _, rfl, ha, rfl, _, rfl, h⟩⟩⟩
    | 2, h => exact ⟨_, rfl, _, _, rfl, rfl, _, rfl, iteF ⟨_, rfl, _, _, rfl, rfl, _, rfl, iteT ⟨_, rfl, rfl, _, rfl, iteT ⟨_, rfl, a, dx, _, rfl, ha, rfl, _, rfl, h⟩⟩⟩⟩
    | 3, h => exact ⟨_, rfl, _, _, rfl, rfl, _, rfl, iteF ⟨_, rfl, _, _, rfl, rfl, _, rfl, iteT ⟨_, rfl, rfl, _, rfl, iteF ⟨_, rfl, a, dx, _, rfl, ha, rfl, _, rfl, h⟩⟩⟩⟩
    | 4, h => exact ⟨_, rfl, _, _, rfl, rfl, _, rfl, iteF ⟨_, rfl, _, _, rfl, rfl, _, rfl, iteF ⟨_, rfl, _, _, rfl, rfl, _, rfl, iteT ⟨_, rfl, rfl, _, rfl, iteT ⟨_, rfl, a, dx, _, rfl, ha, rfl, _, rfl, _, rfl, _, rfl, h⟩⟩⟩⟩⟩
    | 5, h => exact ⟨_, rfl, _, _, rfl, rfl, _, rfl, iteF ⟨_, rfl, _, _, rfl, rfl, _, rfl, iteF ⟨_, rfl, _, _, rfl, rfl, _, rfl, iteT ⟨_, rfl, rfl, _, rfl, iteF ⟨_, rfl, a, dx, _, rfl, ha, rfl, _, rfl, h⟩⟩⟩⟩⟩
    | 6, h => exact ⟨_, rfl, _, _, rfl, rfl, _, rfl, iteF ⟨_, rfl, _, _, rfl, rfl, _, rfl, iteF ⟨_, rfl, _, _, rfl, rfl, _, rfl, iteF ⟨_, rfl, rfl, _, rfl, iteT ⟨_, rfl, a, dx, _, rfl, ha, rfl, _, rfl, _, rfl, h⟩⟩⟩⟩⟩
    | 7, h => exact ⟨_, rfl, _, _, rfl, rfl, _, rfl, iteF ⟨_, rfl, _, _, rfl, rfl, _, rfl, iteF ⟨_, rfl, _, _, rfl, rfl, _, rfl, iteF ⟨_, rfl, rfl, _, rfl, iteF ⟨_, rfl, a, dx, _, rfl, ha, rfl, _, rfl, _, rfl, h⟩⟩⟩⟩⟩
    | n + 8, h => exact h.elim
end
end K04

namespace DR
open PySem PySem.Spec PySem.Calls PyProof.Rows L2
/-- isinstance(e, c) of a caught exception that has a dict -/
def rIsCaught (K : PySem.W.Frag) (a : Addr) (cls : Value) (d : Option Addr) : List V → Hp → VK → Prop := fun xs H Q => ∃ (C dd : Addr) (fs : List (Str × V)) (c : V) (cv : Value) (b : Bool), xs = [.ref a, c] ∧ cls = .ref C ∧ d = some dd ∧ H dd = some (.xd fs) ∧ XIs K C ∧ ClsV c cv ∧ PySem.W.kitOne K (.ref C) cv = some b ∧ Q (.bl b) H
theorem call_isCaught {X : Cx} {a : Addr} {oe : Obj} {cls : Value} {d : Option Addr} {pn : List (Addr × Obj)} (hz : Zc cls d oe) (hf : ∃ vs, oe.data = .fields vs) : CallR (X.suite a ((a, oe) :: pn)) (.builtin "isinstance") (rIsCaught X.K a cls d) := by
  intro pins s σ H xs us Q I r h
  obtain ⟨C, dd, fs, c, cv, b, rfl, rfl, rfl, ea, T, kc, e, q⟩ := h
  obtain ⟨u1, u2, rfl, r1, r2⟩ := vals2 r
  obtain rfl : u1 = Value.ref a := r1
  obtain rfl := kc.eq r2
  obtain ⟨ha, _⟩ := I.pin (a, oe) (List.mem_append_left _ List.mem_cons_self)
  obtain ⟨vs, hd⟩ := hf
  have hx : ObjOk X.prog X.w H s.heap dd (.xd fs) := I.hok dd _ ea
  obtain ⟨mA, hns, hr⟩ := hx
  obtain ⟨od, ho, hl⟩ := lookIn_ns hns
  have J : PySem.W.InstAt s.heap a oe C (some od) := ⟨ha, hz.1, by unfold PySem.W.notCls; rw [hd] <;> rfl, by rw [hz.2]; exact ho⟩
  exact PySem.W.kia_one (PySem.W.kitx_exc T.cl T.ga T.gg T.sb T.ca T.cg T.tk T.ob) I.kIn J e ((fun z => by cases z)) fun tk => ⟨.bl b, H, I.tok tk, rfl, q⟩
theorem call_reprS {X : Cx} {a : Addr} {pn : List (Addr × Obj)} (hi : Idle X.A) (hu : X.A.units + 64 < cLine) : CallR (X.suite a pn) (.builtin "repr") (rRepr X.K) := call_repr (X := X.suite a pn) hi hu
end DR
namespace K04
open PySem L2 DR DM TL
abbrev sSaid : Stmt := top 34
/-- what the classes are to each other -/
structure Kin (K : PySem.W.Frag) (mg : Str → Option Value) (CP CN CA CL CS : Addr) : Prop where
  repr : mg "repr" = none
  over : mg "OverflowError" = none
  cs : mg "StyleError" = some (.ref CS)
  pp : PySem.W.exmOne K (.ref CP) (.ref CP) = some true
  np : PySem.W.exmOne K (.ref CN) (.ref CP) = some false
  nn : PySem.W.exmOne K (.ref CN) (.ref CN) = some true
  ap : PySem.W.exmOne K (.ref CA) (.ref CP) = some false
  an : PySem.W.exmOne K (.ref CA) (.ref CN) = some false
  aa : PySem.W.exmOne K (.ref CA) (.ref CA) = some true
  lp : PySem.W.exmOne K (.ref CL) (.ref CP) = some false
  ln : PySem.W.exmOne K (.ref CL) (.ref CN) = some false
  la : PySem.W.exmOne K (.ref CL) (.ref CA) = some false
  ll : PySem.W.exmOne K (.ref CL) (.ref CL) = some true
  ps : PySem.W.kitOne K (.ref CP) (.ref CS) = some true
  ns : PySem.W.kitOne K (.ref CN) (.ref CS) = some true
  as_ : PySem.W.kitOne K (.ref CA) (.ref CS) = some true
  lo : PySem.W.kitOne K (.ref CL) (.type "OverflowError") = some true
def Shows (K : PySem.W.Frag) (H : Hp) (v : V) (d : PyData) : Prop := DpE K H v d ∧ d.showable = true ∧ d.shown.length ≤ sizeLine ∧ d.depth ≤ 40
/-- how a call ends -/
inductive Ends4 (K : PySem.W.Frag) (C : Addr) (H : Hp) (a : Addr) (rs : List Row) : Nat → V → V → V → List V → Prop
  | path {n : Nat} {x y z : V} {d : PyData} : n ≤ 7 → (Bad K H rs x ∨ (n = 5 ∧ Good H rs x 0)) → Shows K H x d → Ends4 K C H a rs n x y z [.str "path", .str d.shown, .bl true]
  | num {x y z : V} {d : PyData} {i : Nat} : Good H rs x i → i < rs.length → Saysno (spBetweenO K) [y, .int 0, nv (kidsM rs i).length] H → Shows K H y d → Ends4 K C H a rs 4 x y z [.str "number", .str d.shown, .bl true]
  | part {x z : V} {i j : Nat} {t : Value} : Good H rs x i → i < rs.length → j ≤ (kidsM rs i).length → (∀ H', Same H H' → TyX K H' z t) → PySem.W.kitOne K t (.ref C) = some false → Ends4 K C H a rs 4 x (nv j) z [.str "part", z, .bl true]
  | kind {x y z : V} {i : Nat} : Good H rs x i → Saysno (spNameO K) [y] H → Ends4 K C H a rs 6 x y z [.str "part", y, .bl true]
  | marks {x y z : V} {i : Nat} : Good H rs x i → Saysno (spNamesO K) [y] H → Ends4 K C H a rs 7 x y z [.str "part", y, .bl true]
  | limit {x : V} {i j : Nat} {b : Addr} {rs2 : List Row} : Good H rs x i → i < rs.length → j ≤ (kidsM rs i).length → DocAt C H b rs2 → 200 < rs.length + rs2.length → Ends4 K C H a rs 4 x (nv j) (.ref b) [.str "limit", .int 200, .bl true]
  | fine {x : V} {j : Nat} {b : Addr} : (∀ (Q : VK) (E : XK), (∀ y H', Same H H' → Q y H') → spInserted K C [.ref a, x, nv j, .ref b] H Q E) → Ends4 K C H a rs 4 x (nv j) (.ref b) []
def spSaid (K : PySem.W.Frag) (C : Addr) : Sp := fun vs H Q _ => ∃ (a : Addr) (rs : List Row) (n : Nat) (x y z : V) (out : List V), vs = [.ref a, nv n, x, y, z] ∧ DocAt C H a rs ∧ Ends4 K C H a rs n x y z out ∧
  ∀ p H', H p = none → Same H H' → H' p = some (.lst out) → Q (.ref p) H'
section
variable {P : Program} {w : World} {K : PySem.W.Frag} {mg : Str → Option Value} {base : Heap}
theorem way_path {C CP CN CA CL a : Addr} {rs : List Row} {n : Nat} {x y z : V} {H : Hp} {Q : VK} {E : XK} (h7 : n ≤ 7) (dc : DocAt C H a rs) (bad : Bad K H rs x ∨ (n = 5 ∧ Good H rs x 0)) (er : Rais CP "path" x H E) : spWay K C CP CN CA CL n a x y z H Q E := by
  have b5 : n ≠ 5 → Bad K H rs x := fun h => bad.elim id fun z => absurd z.1 h
  match n with
  | 0 => exact ⟨a, rs, x, rfl, dc, b5 (by decide), er⟩
  | 1 => exact ⟨a, rs, x, rfl, dc, b5 (by decide), er⟩
  | 2 => exact ⟨a, rs, x, rfl, dc, b5 (by decide), er⟩
  | 3 => exact ⟨a, rs, x, rfl, dc, b5 (by decide), er⟩
  | 4 => exact .inl ⟨a, rs, x, y, z, rfl, dc, .inl ⟨b5 (by decide), er⟩⟩
  | 5 => exact ⟨a, rs, x, rfl, dc, bad.imp id fun z => z.2, er⟩
  | 6 => exact ⟨a, rs, x, y, rfl, dc, .inl ⟨b5 (by decide), er⟩⟩
  | 7 => exact ⟨a, rs, x, y, rfl, dc, .inl ⟨b5 (by decide), er⟩⟩
  | n + 8 => omega
theorem scSaid : FnScope ["_law_document", "_law_way", "_law_first", "_law_second", "_law_third", "e"] ["_law_document", "_law_way", "_law_first", "_law_second", "_law_third"] (defScope sSaid) := ⟨rfl, rfl, rfl, by decide +kernel, rfl, by decide +kernel, by decide +kernel⟩
theorem ok_said {f C CP CN CA CL CS fC : Addr} {fd fdC : FuncData} (F : Fun K "_law_said" "_law_said" sSaid f fd) (T : Txt mg) (ER : Errs P w K mg base CP CN CA CL) (U : Kin K mg CP CN CA CL CS)
    (GC : FnOk P w K mg base (CX P w) 6 fC fdC ["_law_document", "_law_way", "_law_first", "_law_second", "_law_third"] (spCalled K C CP CN CA CL)) (mC : mg "_law_called" = some (.ref fC)) (kC : PySem.W.keepIn K (.ref fC) = true) (bC : Binds K fdC ["_law_document", "_law_way", "_law_first", "_law_second", "_law_third"] []) :
    FnI P w K mg base CX0 7 f fd ["_law_document", "_law_way", "_law_first", "_law_second", "_law_third"] (spSaid K C) := by
  refine fnI_of F scSaid (fun vs H Q E h => ?_) (fun cdv A outer s H vs Q E hi hr h => ?_)
  · obtain ⟨_, _, _, _, _, _, _, rfl, _⟩ := h
    rfl
  · obtain ⟨a, rs, n, x, y, z, out, rfl, dc, e4, fin⟩ := h
    have hu : (A.deeper (PyProof.Rows.envOfC "_law_said" (defScope sSaid) s.heap.objs.size f cdv)).units + 64 < cLine := by
      have := hr.un
      omega
    refine ⟨_, pss_cons (ps_try_all (i := 5) (n := "e") rfl rfl scSaid.nd rfl rfl takes0
        (fun W pn xe tk _ => pss_one (ps_expr (pe_callS GC hr rfl mC kC bC (fun σ => passAt tk σ) (pa_cons (pv 0) (pa_cons (pv 1) (pa_cons (pv 2) (pa_cons (pv 3) (pa_cons (pv 4) pa_nil))))))))
        (.cons ⟨rfl, by decide, .inl ER.path.mg⟩ (fun a oe cls d pn hz hf => pss_one (ps_ret (pe_lst (pa_cons pe_str (pa_cons (pe_callB (call_reprS hi hu) (by rfl) U.repr PyProof.Rows.boot_repr (pa_cons (pe_xf ⟨ER.path.is.ga, ER.path.is.gg, ER.path.is.sb, ER.path.is.hd⟩ ER.path.no hz hf (pv 5)) pa_nil))
            (pa_cons (pe_callB (call_isCaught hz hf) (by rfl) T.isi PyProof.Rows.boot_isinstance (pa_cons (pv 5) (pa_cons (pe_glob (v := .ref CS) (by rfl) U.cs rfl) pa_nil))) pa_nil))))))
        (.cons ⟨rfl, by decide, .inl ER.num.mg⟩ (fun a oe cls d pn hz hf => pss_one (ps_ret (pe_lst (pa_cons pe_str (pa_cons (pe_callB (call_reprS hi hu) (by rfl) U.repr PyProof.Rows.boot_repr (pa_cons (pe_xf ⟨ER.num.is.ga, ER.num.is.gg, ER.num.is.sb, ER.num.is.hd⟩ ER.num.no hz hf (pv 5)) pa_nil))
            (pa_cons (pe_callB (call_isCaught hz hf) (by rfl) T.isi PyProof.Rows.boot_isinstance (pa_cons (pv 5) (pa_cons (pe_glob (v := .ref CS) (by rfl) U.cs rfl) pa_nil))) pa_nil))))))
        (.cons ⟨rfl, by decide, .inl ER.part.mg⟩ (fun a oe cls d pn hz hf => pss_one (ps_ret (pe_lst (pa_cons pe_str (pa_cons (pe_xf ⟨ER.part.is.ga, ER.part.is.gg, ER.part.is.sb, ER.part.is.hd⟩ ER.part.no hz hf (pv 5))
            (pa_cons (pe_callB (call_isCaught hz hf) (by rfl) T.isi PyProof.Rows.boot_isinstance (pa_cons (pv 5) (pa_cons (pe_glob (v := .ref CS) (by rfl) U.cs rfl) pa_nil))) pa_nil))))))
        (.cons ⟨rfl, by decide, .inl ER.lim.mg⟩ (fun a oe cls d pn hz hf => pss_one (ps_ret (pe_lst (pa_cons pe_str (pa_cons (pe_xf ⟨ER.lim.is.ga, ER.lim.is.gg, ER.lim.is.sb, ER.lim.is.hd⟩ ER.lim.no hz hf (pv 5))
            (pa_cons (pe_callB (call_isCaught hz hf) (by rfl) T.isi PyProof.Rows.boot_isinstance (pa_cons (pv 5) (pa_cons (pe_bltn (v := .ty "OverflowError") (by rfl) U.over (by decide +kernel) rfl) pa_nil))) pa_nil)))))) .nil)))))
      (pss_one (ps_ret (pe_lst pa_nil))), ?_⟩
    refine ⟨_, rfl, _, rfl, _, rfl, _, rfl, _, rfl, a, rs, n, x, y, z, rfl, dc, ?_⟩
    have fin' : ∀ {H1 : Hp}, Same H H1 → ∀ p, H1 p = none → Q (.ref p) (upd H1 p (.lst out)) := fun {H1} s1 p hp => fin p _ (s1.free hp) (s1.trans (same_new hp)) upd_same
    cases e4 with
    | @path _ _ _ _ d n7 bad sh =>
      obtain ⟨dv, sw, sz, dp⟩ := sh
      refine way_path n7 dc bad fun dx H1 s1 m1 => ⟨true, U.pp, fun _ e he => ?_, (fun z => by cases z)⟩
      refine ⟨_, rfl, rfl, rfl, dx, _, _, rfl, m1, by simp [List.lookup], x, d, rfl, dv.same s1, sw, sz, dp, _, rfl, _, dx, _, _, _, true, rfl, rfl, rfl, m1, ER.path.is, .own CS, U.ps, ?_⟩
      exact ⟨by show 3 ≤ sizeLine; decide, fin' s1⟩
    | @num _ _ _ d i g hi no sh =>
      obtain ⟨dv, sw, sz, dp⟩ := sh
      refine .inl ⟨a, rs, x, y, z, rfl, dc, .inr ⟨i, g, hi, .inl ⟨no, fun dx H1 s1 m1 => ⟨false, U.np, (fun z => by cases z), fun _ => ⟨true, U.nn, fun _ e he => ?_, (fun z => by cases z)⟩⟩⟩⟩⟩
      refine ⟨_, rfl, rfl, rfl, dx, _, _, rfl, m1, by simp [List.lookup], y, d, rfl, dv.same s1, sw, sz, dp, _, rfl, _, dx, _, _, _, true, rfl, rfl, rfl, m1, ER.num.is, .own CS, U.ns, ?_⟩
      exact ⟨by show 3 ≤ sizeLine; decide, fin' s1⟩
    | @part _ _ i j t g hi hj tz kt =>
      refine .inl ⟨a, rs, x, _, z, rfl, dc, .inr ⟨i, g, hi, .inr ⟨j, rfl, hj, .inl ⟨t, tz, kt, fun dx H1 s1 m1 => ⟨false, U.ap, (fun z => by cases z), fun _ => ⟨false, U.an, (fun z => by cases z), fun _ => ⟨true, U.aa, fun _ e he => ?_, (fun z => by cases z)⟩⟩⟩⟩⟩⟩⟩
      refine ⟨_, rfl, rfl, rfl, dx, _, z, rfl, m1, by simp [List.lookup], _, rfl, _, dx, _, _, _, true, rfl, rfl, rfl, m1, ER.part.is, .own CS, U.as_, ?_⟩
      exact ⟨by show 3 ≤ sizeLine; decide, fin' s1⟩
    | @kind _ _ _ i g no =>
      refine ⟨a, rs, x, y, rfl, dc, .inr ⟨i, g, no, fun dx H1 s1 m1 => ⟨false, U.ap, (fun z => by cases z), fun _ => ⟨false, U.an, (fun z => by cases z), fun _ => ⟨true, U.aa, fun _ e he => ?_, (fun z => by cases z)⟩⟩⟩⟩⟩
      refine ⟨_, rfl, rfl, rfl, dx, _, y, rfl, m1, by simp [List.lookup], _, rfl, _, dx, _, _, _, true, rfl, rfl, rfl, m1, ER.part.is, .own CS, U.as_, ?_⟩
      exact ⟨by show 3 ≤ sizeLine; decide, fin' s1⟩
    | @marks _ _ _ i g no =>
      refine ⟨a, rs, x, y, rfl, dc, .inr ⟨i, g, no, fun dx H1 s1 m1 => ⟨false, U.ap, (fun z => by cases z), fun _ => ⟨false, U.an, (fun z => by cases z), fun _ => ⟨true, U.aa, fun _ e he => ?_, (fun z => by cases z)⟩⟩⟩⟩⟩
      refine ⟨_, rfl, rfl, rfl, dx, _, y, rfl, m1, by simp [List.lookup], _, rfl, _, dx, _, _, _, true, rfl, rfl, rfl, m1, ER.part.is, .own CS, U.as_, ?_⟩
      exact ⟨by show 3 ≤ sizeLine; decide, fin' s1⟩
    | @limit _ i j b rs2 g hi hj db big =>
      refine .inl ⟨a, rs, x, _, _, rfl, dc, .inr ⟨i, g, hi, .inr ⟨j, rfl, hj, .inr ⟨b, rs2, rfl, db, big, fun dx H1 s1 m1 => ⟨false, U.lp, (fun z => by cases z), fun _ => ⟨false, U.ln, (fun z => by cases z), fun _ => ⟨false, U.la, (fun z => by cases z), fun _ => ⟨true, U.ll, fun _ e he => ?_, (fun z => by cases z)⟩⟩⟩⟩⟩⟩⟩⟩
      refine ⟨_, rfl, rfl, rfl, dx, _, (.int 200), rfl, m1, by simp [List.lookup], _, rfl, _, dx, _, _, _, true, rfl, rfl, rfl, m1, ER.lim.is, .ty _, U.lo, ?_⟩
      exact ⟨by show 3 ≤ sizeLine; decide, fin' s1⟩
    | fine ok =>
      refine .inr (ok _ _ fun v H1 s1 => ?_)
      exact ⟨by show 0 ≤ sizeLine; decide, fin' s1⟩
end
end K04

namespace K04
open PySem L2 DR DM TL
/-! ### the documents of 200 nodes and one more -/
theorem srt_nil : srt [] = [] := (srt_perm []).eq_nil
theorem wild_text' {t : Tr} (g : t.wild) (h : sz t ≤ 700) : (tl (toS (txt t))).length ≤ 30000 ∧ (∀ ps, cutM LD SG (tl (toS (txt t))) = some ps → ∀ p ∈ ps, (spl [46] 0 [] p).length < 64) ∧ (cutM LD SG (tl (toS (txt t)))).bind (readM srt) = some (t.rows srt 0) := by
  obtain ⟨g1, g2⟩ := sort_good t g
  have ct : cutM LD SG (txt t) = some (t.sortT srt).toks := cut_text _ g1
  have rd := read_text (srt := srt) (t.sortT srt) g1
  rw [sort_rows] at rd
  refine ⟨?_, fun ps e p hp => ?_, ?_⟩
  · have := (txt_size _ t (Nat.le_refl _) g).1
    show (txt t).length ≤ 30000
    omega
  · have e : cutM LD SG (txt t) = some ps := e
    rw [ct] at e
    injection e with e
    subst e
    have := toks_slim _ g2 p hp
    have := spl_count p []
    omega
  · show (cutM LD SG (txt t)).bind (readM srt) = _
    rw [ct]
    exact rd
def leafT (k : W) : Tr := .nd k [] .nil
def wideT (n : Nat) : Tr := .nd (tl "a") [] (ofL (List.replicate n (leafT (tl "b"))))
def deepT : Nat → Tr
  | 0 => leafT (tl "a")
  | n + 1 => .nd (tl "a") [] (.cons (deepT n) .nil)
theorem leaf_wild (k : W) (h : isName k = true) : (leafT k).wild := by
  rw [leafT, Tr.wild, Trs.wild]
  exact ⟨h, rfl, by decide, trivial⟩
theorem wide_wild (n : Nat) : (wideT n).wild := by
  rw [wideT, Tr.wild]
  refine ⟨by decide +kernel, rfl, by decide, wild_toL.mpr fun t h => ?_⟩
  rw [toL_ofL] at h
  rw [List.eq_of_mem_replicate h]
  exact leaf_wild _ (by decide +kernel)
theorem deep_wild : ∀ n, (deepT n).wild
  | 0 => leaf_wild _ (by decide +kernel)
  | n + 1 => by
    rw [deepT, Tr.wild, Trs.wild, Trs.wild]
    exact ⟨by decide +kernel, rfl, by decide, deep_wild n, trivial⟩
theorem leaf_rows (k : W) (d : Nat) : (leafT k).rows srt d = [(d, k, [])] := by
  rw [leafT, rows_nd, srt_nil]
  show (d, k, ([] : List W)) :: flat [] (d + 1) = _
  rw [flat_nil]
theorem flat_rep (k : W) (d : Nat) : ∀ n, flat (List.replicate n (leafT k)) d = List.replicate n (d, k, [])
  | 0 => flat_nil d
  | n + 1 => by
    rw [List.replicate_succ, flat_cons, leaf_rows, flat_rep k d n, List.replicate_succ]
    rfl
theorem wide_rows (n : Nat) : (wideT n).rows srt 0 = (0, tl "a", []) :: List.replicate n (1, tl "b", []) := by
  rw [wideT, rows_nd, srt_nil, toL_ofL, flat_rep]
theorem wide_sz (n : Nat) : sz (wideT n) = n + 1 := by
  unfold sz
  rw [wide_rows, List.length_cons, List.length_replicate]
theorem deep_sz : ∀ n, sz (deepT n) = n + 1
  | 0 => by
    unfold sz
    rw [deepT, leaf_rows]
    rfl
  | n + 1 => by
    rw [deepT, sz_nd, show (Trs.cons (deepT n) .nil).toL = [deepT n] from rfl, flat_cons, flat_nil, List.append_nil]
    have := deep_sz n
    unfold sz at this
    omega
theorem leaf_txt (k : W) : txt (leafT k) = k := by
  rw [leafT, txt_nd, srt_nil, show Trs.nil.toL = [] from rfl, if_pos rfl, List.append_nil]
  show k ++ ([] : List W).flatten = k
  exact List.append_nil k
theorem wide_txt (n : Nat) (h : 1 ≤ n) : txt (wideT n) = [97, 40] ++ joinL [44] (List.replicate n [98]) ++ [41] := by
  rw [wideT, txt_nd, srt_nil, toL_ofL, List.map_replicate, leaf_txt, if_neg (by intro z; have := congrArg List.length z; rw [List.length_replicate] at this; exact absurd this (by show ¬ n = 0; omega))]
  show [97] ++ [] ++ 40 :: (joinL [44] (List.replicate n (tl "b")) ++ [41]) = _
  rfl
theorem deep_txt : ∀ n, txt (deepT n) = (List.replicate n [97, 40]).flatten ++ [97] ++ (List.replicate n [41]).flatten
  | 0 => by
    rw [deepT, leaf_txt]
    rfl
  | n + 1 => by
    rw [deepT, txt_nd, srt_nil, show (Trs.cons (deepT n) .nil).toL = [deepT n] from rfl, if_neg (by intro z; cases z)]
    show ([97] ++ []) ++ 40 :: (joinL [44] [txt (deepT n)] ++ [41]) = _
    have e : (List.replicate (n + 1) [41]).flatten = (List.replicate n [41]).flatten ++ [41] := by
      rw [List.replicate_succ', List.flatten_append]
      rfl
    rw [show joinL [44] [txt (deepT n)] = txt (deepT n) from rfl, deep_txt n, e, List.replicate_succ]
    simp
/-! ### their nodes -/
theorem root_node (t : Tr) : (t.nodes [])[0]? = some ([], t) := by
  cases t
  rw [Tr.nodes]
  rfl
theorem kn_rep (k : W) : ∀ n m, n ≤ m → kn [] (List.replicate m (leafT k)) n = (List.range n).map fun j => ([j], leafT k)
  | 0, m, _ => rfl
  | n + 1, m, h => by
    have ih := kn_rep k n m (by omega)
    show kn [] (List.replicate m (leafT k)) n ++ (match (List.replicate m (leafT k))[n]? with | some t => t.nodes ([] ++ [n]) | none => []) = _
    rw [ih, List.getElem?_replicate, if_pos (by omega), List.range_succ, List.map_append]
    show _ ++ (leafT k).nodes [n] = _
    rw [leafT, Tr.nodes, Trs.nodes]
    rfl
theorem wide_node (n j : Nat) (h : j < n) : ((wideT n).nodes [])[j + 1]? = some ([j], leafT (tl "b")) := by
  rw [wideT, Tr.nodes, kids_nodes, toL_ofL, List.length_replicate, kn_rep _ n n (Nat.le_refl _), List.getElem?_cons_succ, List.getElem?_map, List.getElem?_range h]
  rfl
theorem deep_node : ∀ (n i : Nat) (p : Pth), i ≤ n → ((deepT n).nodes p)[i]? = some (p ++ List.replicate i 0, deepT (n - i))
  | n, 0, p, _ => by
    cases n with
    | zero =>
      rw [deepT, leafT, Tr.nodes]
      show some (p, _) = _
      rw [List.replicate_zero, List.append_nil]
    | succ n =>
      rw [deepT, Tr.nodes]
      show some (p, _) = _
      rw [List.replicate_zero, List.append_nil]
      rfl
  | 0, i + 1, p, h => absurd h (by omega)
  | n + 1, i + 1, p, h => by
    have ih := deep_node n i (p ++ [0]) (by omega)
    rw [deepT, Tr.nodes, Trs.nodes, Trs.nodes, List.append_nil, List.getElem?_cons_succ, ih, show n + 1 - (i + 1) = n - i by omega, List.append_assoc]
    rfl
theorem good_node {H : Hp} {t : Tr} {i : Nat} {q : Pth} {s : Tr} {x : V} (h : (t.nodes [])[i]? = some (q, s)) (px : PthAt H x q) (ql : q.length ≤ 1000) : Good H (t.rows srt 0) x i := ⟨q, px, ql, (node_of t i q s h).place⟩
theorem wide_cut : (wideT 199).rows srt 0 = (wideT 199).rows srt 0 ∧ ((wideT 199).rows srt 0).take 6 ++ ((wideT 199).rows srt 0).drop (endM ((wideT 199).rows srt 0) 6) = (wideT 198).rows srt 0 := by
  refine ⟨rfl, ?_⟩
  have e : endM ((wideT 199).rows srt 0) 6 = 7 := by
    unfold endM
    rw [wide_rows]
    rfl
  rw [e, wide_rows, wide_rows]
  rfl
end K04

namespace K04
open PySem L2 DR DM TL
theorem fold_cats (u : W) : ∀ (k : Nat) (a : Array Nat), ((List.replicate k (u.toArray : Array Nat)).foldl (· ++ ·) a).toList = a.toList ++ (List.replicate k u).flatten
  | 0, a => by simp
  | k + 1, a => by
    rw [List.replicate_succ, List.foldl_cons, fold_cats u k, List.replicate_succ]
    simp
theorem mul_text (u : W) (n : Int) (hu : u ≠ []) (hn : 2 ≤ n) : Txt.mul (toS u) n = toS (List.replicate n.toNat u).flatten := by
  refine ext_tl ?_
  rw [tl_toS]
  unfold Txt.mul
  rw [if_neg (by omega)]
  have h2 : ((toS u).length == 0) = false := by
    rw [toS_len]
    cases u with
    | nil => exact absurd rfl hu
    | cons _ _ => rfl
  have : (n == 1 || (toS u).length == 0) = false := by
    rw [beq_eq_false_iff_ne.mpr (by omega), h2]
    rfl
  rw [if_neg (by rw [this]; decide)]
  show ((List.replicate n.toNat (u.toArray : Array Nat)).foldl (· ++ ·) #[]).toList = _
  rw [fold_cats]
  simp
section
variable {X : Cx}
theorem op_mul_text : OpR X (binaryOp .Mult) (fun x y H Q => ∃ (u : W) (n : Int), x = sv u ∧ y = .int n ∧ u ≠ [] ∧ u.length ≤ 10 ∧ n ≤ 1000 ∧ 2 ≤ n ∧ Q (sv (List.replicate n.toNat u).flatten) H) := by
  intro pins s σ H x y v u Q I rx ry h
  obtain ⟨w, n, rfl, rfl, h0, hl, h1, h2, q⟩ := h
  obtain ⟨t, rfl⟩ := rx
  obtain ⟨t', rfl⟩ := ry
  have wl : (toS w).length = w.length := toS_len w
  refine SB.mul ⟨by simp; omega, fun g _ => ?_, fun g _ => ?_⟩ fun t' k => ⟨sv (List.replicate n.toNat w).flatten, H, I.tok _, ⟨_, by rw [mul_text w n h0 h2]⟩, q⟩
  · rw [wl]
    have : (10 : Int) ≤ (2 ^ 63 - 1) / n := (Int.le_ediv_iff_mul_le (by omega)).mpr (by omega)
    omega
  · rw [wl]
    have : w.length * n.toNat ≤ 10 * 1000 := Nat.mul_le_mul hl (by omega)
    have B := big
    unfold Builtin.Str.tooLong
    simp
    omega
end
end K04

namespace K04
open PySem L2 DR DM TL
abbrev sLimits : Stmt := top 35
def spLimits : Sp := fun vs H Q _ => vs = [] ∧ ∀ H', Same H H' → Q (.bl true) H'
def tTryAs (K : PySem.W.Frag) (c : Value) (i : Nat) (ts : Addr → Value → Option Addr → TS) (Wout : WX) (tb : WX → TS) : TS := fun D σ H => tb (wAs K c i ts Wout D) D σ H
theorem ps_hide {X : Cx} {st : Stmt} {K : PySem.W.Frag} {c : Value} {i : Nat} {ts : Addr → Value → Option Addr → TS} {Wout : WX} {tb : WX → TS} (h : PS X st (fun D σ H => tb (wAs K c i ts Wout D) D σ H)) : PS X st (tTryAs K c i ts Wout tb) := h
theorem flat3 {a : Str} {c : Bool} {i : Int} : ∀ v ∈ [V.str a, V.int i, V.bl c], sameB v := fun v h => by
  simp only [List.mem_cons, List.not_mem_nil, or_false] at h
  rcases h with rfl | rfl | rfl <;> exact .inl rfl
section
variable {P : Program} {w : World} {K : PySem.W.Frag} {mg : Str → Option Value} {base : Heap}
theorem scLimits : FnScope ["_law_wide", "_law_leaf", "_law_text_here", "e", "_law_deep"] [] (defScope sLimits) := ⟨rfl, rfl, rfl, by decide +kernel, rfl, by decide +kernel, by decide +kernel⟩
theorem ok_limits {f C CP CN CA CL CS fS : Addr} {fd fdS : FuncData} (F : Fun K "_law_limits_right" "_law_limits_right" sLimits f fd) (T : Txt mg) (DC : DCls K mg C) (ER : Errs P w K mg base CP CN CA CL) (U : Kin K mg CP CN CA CL CS)
    (D1 : Has P w K mg base 5 "parse_document" ["text"] (spParse C)) (D2 : ∃ f fd, FnOk P w K mg base (CX P w) 5 f fd ["text"] (spParseL C CL) ∧ mg "parse_document" = some (.ref f) ∧ PySem.W.keepIn K (.ref f) = true ∧ Binds K fd ["text"] [])
    (D3 : C8.Met P w K mg base 5 C "removed" (spRemoved C) []) (D4 : C8.Met P w K mg base 5 C "kind" (spKindP C) []) (D5 : PropM P w K mg base C "size" (spSizeP C))
    (GS : FnI P w K mg base CX0 7 fS fdS ["_law_document", "_law_way", "_law_first", "_law_second", "_law_third"] (spSaid K C)) (mS : mg "_law_said" = some (.ref fS)) (kS : PySem.W.keepIn K (.ref fS) = true) (bS : Binds K fdS ["_law_document", "_law_way", "_law_first", "_law_second", "_law_third"] []) :
    FnI P w K mg base CX0 8 f fd [] spLimits := by
  obtain ⟨fP, fdP, GP, mP, kP, bP⟩ := D1
  obtain ⟨fL, fdL, GL, mL, kL, bL⟩ := D2
  obtain ⟨pZ, fZ, fdZ, prZ, GZ, bZ⟩ := D5
  refine fnI_of F scLimits (fun vs H Q E h => ?_) (fun cdv A outer s H vs Q E hi hr h => ?_)
  · obtain ⟨rfl, _⟩ := h
    rfl
  · obtain ⟨rfl, fin⟩ := h
    have hu0 : (A.deeper (PyProof.Rows.envOfC "_law_limits_right" (defScope sLimits) s.heap.objs.size f cdv)).units < cLine := by
      have := hr.units
      omega
    have hr5 : Room 5 _ := hr.mono (by decide)
    have hr2 : Room 2 _ := hr.mono (by decide)
    refine ⟨_, PSs.nox (pss_cons (ps_set (i := 0) scLimits.nd rfl (Or.inl rfl) (pe_call GP hr5 (by rfl) mP kP bP .nil pass0 (pa_cons (pe_op op_add_str (pe_op op_add_str pe_str (pe_join pe_str (pe_op op_rep (pe_lst (pa_cons pe_str pa_nil)) pe_int))) pe_str) pa_nil)))
      (pss_cons (ps_set (i := 1) scLimits.nd rfl (Or.inl rfl) (pe_call GP hr5 (by rfl) mP kP bP .nil pass0 (pa_cons pe_str pa_nil)))
      (pss_cons (ps_if (PW.pt (pw_or (pt_cmpR (op_neS hu0) (pe_callI GS hi hr (by rfl) mS kS bS .nil pass0 (pa_cons (pv 0) (pa_cons pe_int (pa_cons (pe_tup pa_nil) (pa_cons pe_int (pa_cons (pv 1) pa_nil)))))) (pe_lst (pa_cons pe_str (pa_cons pe_int (pa_cons pe_bl pa_nil)))) (nomark _))
          (pw_or1 (pt_cmpR op_ne (pe_ix ix_list (pe_callI GS hi hr (by rfl) mS kS bS .nil pass0 (pa_cons (pv 0) (pa_cons pe_int (pa_cons (pe_tup (pa_cons pe_int pa_nil)) (pa_cons pe_int (pa_cons (pv 1) pa_nil)))))) pe_int (fun _ _ => rfl)) pe_str (nomark _))))) (pss_one (ps_ret pe_bl)) pss_nil)
      (pss_cons (ps_if (pt_cmpR (op_neS hu0) (pe_callI GS hi hr (by rfl) mS kS bS .nil pass0 (pa_cons (C8.pe_mt D3 hr (by decide) (pv 0) (pa_cons (pe_tup (pa_cons pe_int pa_nil)) pa_nil)) (pa_cons pe_int (pa_cons (pe_tup pa_nil) (pa_cons pe_int (pa_cons (pv 1) pa_nil)))))) (pe_lst pa_nil) (nomark _)) (pss_one (ps_ret pe_bl)) pss_nil)
      (pss_cons (ps_for PassesOwn.never rfl (pi_list (pe_lst (pa_cons (pe_op op_add_str (pe_op op_add_str pe_str (pe_join pe_str (pe_op op_rep (pe_lst (pa_cons pe_str pa_nil)) pe_int))) pe_str) (pa_cons (pe_op op_add_str (pe_op op_add_str (pe_op op_mul_text pe_str pe_int) pe_str) (pe_op op_mul_text pe_str pe_int)) pa_nil)))) (pg_name (i := 2) scLimits.nd rfl (Or.inl rfl))
        (pss_one (ps_hide (ps_try_as (i := 3) rfl rfl scLimits.nd rfl rfl ⟨rfl, by decide, .inl ER.lim.mg⟩ takes0
          (fun W pn xe tk _ => pss_cons (ps_expr (pe_callS GL hr5 rfl mL kL bL (fun σ => passAt tk σ) (pa_cons (pv 2) pa_nil))) (pss_one ps_never))
          (fun a oe cls d pn hz hf => pss_one (ps_if (pt_cmpR op_ne (pe_xf ⟨ER.lim.is.ga, ER.lim.is.gg, ER.lim.is.sb, ER.lim.is.hd⟩ ER.lim.no hz hf (pv 3)) pe_int (nomark _)) (pss_one (ps_ret pe_bl)) pss_nil))))))
      (pss_cons (ps_set (i := 4) scLimits.nd rfl (Or.inl rfl) (pe_call GP hr5 (by rfl) mP kP bP .nil pass0 (pa_cons (pe_op op_add_str (pe_op op_add_str (pe_op op_mul_text pe_str pe_int) pe_str) (pe_op op_mul_text pe_str pe_int)) pa_nil)))
      (pss_one (ps_ret (pe_and (pe_cmpR op_eq (pe_prop (pv 4) DC.cls prZ GZ hr2 bZ .nil pass0 rfl) pe_int rfl)
        (pe_and (pe_cmpR op_eq (C8.pe_mt D4 hr (by decide) (pv 4) (pa_cons (pe_op op_repT (pe_tup (pa_cons pe_int pa_nil)) pe_int) pa_nil)) pe_str rfl)
          (pe_one (pe_cmpR op_eq (pe_ix ix_list (pe_callI GS hi hr (by rfl) mS kS bS .nil pass0 (pa_cons (pv 4) (pa_cons pe_int (pa_cons (pe_op op_repT (pe_tup (pa_cons pe_int pa_nil)) pe_int) (pa_cons pe_int (pa_cons (pv 1) pa_nil)))))) pe_int (fun _ _ => rfl)) pe_str (nomark _))))))))))))), ?_⟩
    have B := big
    have wl : ∀ n, n ≤ 200 → (txt (wideT n)).length ≤ 10000 := fun n hn => by
      have := (txt_size _ (wideT n) (Nat.le_refl _) (wide_wild n)).1
      rw [wide_sz] at this
      omega
    have eb : ∀ n, (List.replicate n [V.str "b"]).flatten = ((List.replicate n [98]).map toS).map V.str := fun n => by
      have : V.str "b" = V.str (toS [98]) := congrArg V.str (by decide +kernel)
      rw [this, List.map_replicate, List.map_replicate]
      exact List.flatten_replicate_singleton ..
    have com : ("," : Str) = toS [44] := by decide +kernel
    have opn : ("a(" : Str) = toS [97, 40] := by decide +kernel
    have sht : (")" : Str) = toS [41] := by decide +kernel
    have ea : ("a" : Str) = toS [97] := by decide +kernel
    have js : ∀ n, 1 ≤ n → n ≤ 200 → (joinL [44] (List.replicate n [98])).length ≤ 10000 := fun n h1 h2 => by
      have := wl n h2
      rw [wide_txt n h1, List.length_append, List.length_append] at this
      omega
    have ws : ∀ n, 1 ≤ n → ("a(" ++ Txt.join "," ((List.replicate n [98]).map toS)) ++ ")" = toS (txt (wideT n)) := fun n h1 => by
      rw [wide_txt n h1, com, join_text, opn, sht, toS_app, toS_app]
    have l1 : ∀ n, 1 ≤ n → n ≤ 200 → ("a(" : Str).length + (Txt.join "," ((List.replicate n [98]).map toS)).length ≤ sizeLine := fun n h1 h2 => by
      have := js n h1 h2
      rw [com, join_text, opn, toS_len, toS_len]
      show 2 + _ ≤ _
      omega
    have l2 : ∀ n, 1 ≤ n → n ≤ 200 → ("a(" ++ Txt.join "," ((List.replicate n [98]).map toS)).length + (")" : Str).length ≤ sizeLine := fun n h1 h2 => by
      have := js n h1 h2
      rw [com, join_text, opn, sht, toS_app, toS_len, toS_len, List.length_append]
      show 2 + _ + 1 ≤ _
      omega
    refine ⟨⟨",", rfl⟩, by show 1 ≤ sizeLine; decide, fun p1 n1 => ⟨p1, 199, _, rfl, rfl, upd_same, by decide, by decide, by show 1 * 199 ≤ sizeLine; decide, fun p2 n2 => ⟨",", p2, (List.replicate 199 [98]).map toS, rfl, rfl, .inl (SqL.of (by rw [upd_same, ← eb]; rfl)), by decide +kernel, _, _, rfl, rfl, l1 199 (by decide) (by decide), _, _, rfl, rfl, l2 199 (by decide) (by decide), ?_⟩⟩⟩
    rw [ws 199 (by decide)]
    generalize g2 : upd (upd H p1 _) p2 _ = H2
    have s2 : Same H H2 := g2 ▸ (same_new n1).trans (same_new n2)
    obtain ⟨a1, a2, a3⟩ := wild_text' (wide_wild 199) (by rw [wide_sz]; decide)
    refine ⟨_, _, rfl, a1, a2, a3, wild_few (wide_wild 199) (by rw [wide_sz]; decide), fun wd H3 s3 dw => ?_⟩
    obtain ⟨lt, elt⟩ : ∃ t, t = leafT (tl "c") := ⟨_, rfl⟩
    have ec : ("c" : Str) = toS (txt lt) := by
      rw [elt, leaf_txt]
      decide +kernel
    have lw : lt.wild := elt ▸ leaf_wild (tl "c") (by decide +kernel)
    have lz : (lt.rows srt 0).length = 1 := by
      rw [elt, leaf_rows]
      rfl
    have lr : lt.rows srt 0 = [(0, tl "c", [])] := elt ▸ leaf_rows _ 0
    have wz : ((wideT 199).rows srt 0).length = 200 := wide_sz 199
    clear elt
    obtain ⟨c1, c2, c3⟩ := wild_text' lw (by unfold sz; omega)
    refine ⟨"c", _, rfl, by rw [ec]; exact c1, by rw [ec]; exact c2, by rw [ec]; exact c3, wild_few lw (by unfold sz; omega), fun lf H4 s4 dl => ?_⟩
    have dw4 := dw.same s4
    -- one node too many
    refine ⟨_, rfl, by show 0 ≤ sizeLine; decide, fun e5 n5 => ⟨_, rfl, ?_⟩⟩
    generalize g5 : upd H4 e5 _ = H5
    have s5 : Same H4 H5 := g5 ▸ same_new n5
    have m5 : H5 e5 = some (.tup []) := g5 ▸ upd_same
    refine ⟨wd, _, 4, .ref e5, .int 0, .ref lf, _, rfl, dw4.same s5, .limit (j := 0) (good_node (root_node _) ⟨e5, rfl, m5⟩ (by decide)) (by omega) (Nat.zero_le _) (dl.same s5) (by omega), fun p H6 np s6 m6 => ?_⟩
    refine ⟨by show 3 ≤ sizeLine; decide, fun q hq => ⟨p, q, _, rfl, rfl, SqL.of ((same_new hq) _ _ m6), SqL.of upd_same, flat3, false, rfl, iteF ?_⟩⟩
    generalize g7 : upd H6 q _ = H7
    have s7 : Same H4 H7 := s5.trans (s6.trans (g7 ▸ same_new hq))
    refine ⟨_, rfl, by show 1 ≤ sizeLine; decide, fun e8 n8 => ⟨_, rfl, ?_⟩⟩
    generalize g8 : upd H7 e8 _ = H8
    have s8 : Same H7 H8 := g8 ▸ same_new n8
    have m8 : H8 e8 = some (.tup [nv 0]) := g8 ▸ upd_same
    have s48 := s7.trans s8
    refine ⟨wd, _, 4, .ref e8, .int 0, .ref lf, _, rfl, dw4.same s48, .limit (j := 0) (good_node (wide_node 199 0 (by decide)) ⟨e8, rfl, m8⟩ (by decide)) (by omega) (Nat.zero_le _) (dl.same s48) (by omega), fun p2 H9 np2 s9 m9 => ?_⟩
    refine ⟨p2, _, 0, _, rfl, rfl, SqL.of m9, atI_nat (j := 0) rfl, rfl, false, rfl, iteF ?_⟩
    have s49 := s48.trans s9
    -- just as many
    obtain ⟨dxw, _, _, _, _, _, hw, _⟩ := id (dw4.same s49)
    refine ⟨_, rfl, wd, dxw, _, rfl, hw, rfl, by show 1 ≤ sizeLine; decide, fun eA nA => ?_⟩
    generalize gA : upd H9 eA _ = HA
    have sA : Same H9 HA := gA ▸ same_new nA
    have mA : HA eA = some (.tup [nv 5]) := gA ▸ upd_same
    have s4A := s49.trans sA
    obtain ⟨q5, i5, px5, ql5, at5⟩ : ∃ (q : Pth) (i : Nat), PthAt HA (.ref eA) q ∧ q.length ≤ 1000 ∧ i = 6 ∧ valV (plc (pathsM ((wideT 199).rows srt 0)) ((wideT 199).rows srt 0).length) (pk q) = some (nv i) :=
      ⟨[5], 6, ⟨eA, rfl, mA⟩, by decide, rfl, (node_of _ 6 _ _ (wide_node 199 5 (by decide))).place⟩
    obtain ⟨rfl, at5⟩ := at5
    refine ⟨wd, _, .ref eA, q5, 6, rfl, dw4.same s4A, px5, ql5, by omega, by decide, at5, fun rd HB sB dr => ?_⟩
    rw [wide_cut.2] at dr
    have s4B := s4A.trans sB
    refine ⟨by show 0 ≤ sizeLine; decide, fun eC nC => ⟨_, rfl, ?_⟩⟩
    generalize gC : upd HB eC _ = HC
    have sC : Same HB HC := gC ▸ same_new nC
    have mC : HC eC = some (.tup []) := gC ▸ upd_same
    have s4C := s4B.trans sC
    have wz8 : ((wideT 198).rows srt 0).length = 199 := wide_sz 198
    have few8 := wild_few (wide_wild 198) (by unfold sz; omega)
    have n8' := node_of _ 0 _ _ (root_node (wideT 198))
    have k8 : (kidsM ((wideT 198).rows srt 0) 0).length = 198 := by
      rw [n8'.kids]
      show (ofL (List.replicate 198 (leafT (tl "b")))).len = 198
      rw [ofL_len, List.length_replicate]
    have fi : Few (insM ((wideT 198).rows srt 0) (lt.rows srt 0) 0 198) := by
      refine ⟨?_, fun r hr => ?_⟩
      · unfold insM
        rw [List.length_append, List.length_append, List.length_take, List.length_drop, List.length_map]
        omega
      · unfold insM at hr
        rcases List.mem_append.mp hr with hr | hr
        · rcases List.mem_append.mp hr with hr | hr
          · exact few8.2 r (List.mem_of_mem_take hr)
          · rw [lr, wide_rows] at hr
            obtain rfl := List.mem_singleton.mp hr
            exact ⟨by decide +kernel, by decide +kernel⟩
        · exact few8.2 r (List.mem_of_mem_drop hr)
    refine ⟨rd, _, 4, .ref eC, .int 198, .ref lf, _, rfl, dr.same sC, .fine (j := 198) fun Q' E' ok => ⟨rd, lf, _, _, .ref eC, [], 0, 198, rfl, dr.same sC, dl.same s4C, ⟨eC, rfl, mC⟩, by decide, by omega, n8'.place, by omega, by omega, fi, fun c H' s' _ => ok _ H' s'⟩, fun p3 HD np3 sD mD => ?_⟩
    refine ⟨by show 0 ≤ sizeLine; decide, fun q3 hq3 => ⟨p3, q3, _, rfl, rfl, SqL.of ((same_new hq3) _ _ mD), SqL.of upd_same, (fun v h => by cases h), false, rfl, iteF ?_⟩⟩
    generalize gE : upd HD q3 _ = HE
    have s4E : Same H4 HE := s4C.trans (sD.trans (gE ▸ same_new hq3))
    -- what is too great
    have dt : ∀ n, n ≤ 200 → (txt (deepT n)).length ≤ 10000 := fun n hn => by
      have := (txt_size _ (deepT n) (Nat.le_refl _) (deep_wild n)).1
      rw [deep_sz] at this
      omega
    have eq2 : V.str "a(" = sv [97, 40] := congrArg V.str opn
    have eq1 : V.str ")" = sv [41] := congrArg V.str sht
    have dl1 : ∀ n, n ≤ 200 → (toS (List.replicate n [97, 40]).flatten).length + ("a" : Str).length ≤ sizeLine := fun n hn => by
      have := dt n hn
      rw [deep_txt, List.length_append, List.length_append] at this
      rw [toS_len]
      show _ + 1 ≤ _
      omega
    have dl2 : ∀ n, n ≤ 200 → (toS (List.replicate n [97, 40]).flatten ++ "a").length + (toS (List.replicate n [41]).flatten).length ≤ sizeLine := fun n hn => by
      have := dt n hn
      rw [deep_txt, List.length_append, List.length_append] at this
      rw [ea, toS_app, toS_len, toS_len, List.length_append]
      show _ + 1 + _ ≤ _
      omega
    have ds : ∀ n, (toS (List.replicate n [97, 40]).flatten ++ "a") ++ toS (List.replicate n [41]).flatten = toS (txt (deepT n)) := fun n => by
      rw [deep_txt, ea, toS_app, toS_app]
    refine ⟨⟨",", rfl⟩, by show 1 ≤ sizeLine; decide, fun r1 k1 => ⟨r1, 200, _, rfl, rfl, upd_same, by decide, by decide, by show 1 * 200 ≤ sizeLine; decide, fun r2 k2 => ⟨",", r2, (List.replicate 200 [98]).map toS, rfl, rfl, .inl (SqL.of (by rw [upd_same, ← eb]; rfl)), by decide +kernel, _, _, rfl, rfl, l1 200 (by decide) (by decide), _, _, rfl, rfl, l2 200 (by decide) (by decide), ?_⟩⟩⟩
    rw [ws 200 (by decide)]
    refine ⟨[97, 40], 200, eq2, rfl, by decide, by decide, by decide, by decide, _, _, rfl, rfl, dl1 200 (by decide), [41], 200, eq1, rfl, by decide, by decide, by decide, by decide, _, _, rfl, rfl, dl2 200 (by decide), by show 2 ≤ sizeLine; decide, fun r3 k3 => ?_⟩
    rw [show (toS (List.replicate (200 : Int).toNat [97, 40]).flatten ++ "a") ++ toS (List.replicate (200 : Int).toNat [41]).flatten = toS (txt (deepT 200)) from ds 200]
    generalize gF : upd _ r3 _ = HF
    have mF : HF r3 = some (.lst [sv (txt (wideT 200)), sv (txt (deepT 200))]) := gF ▸ upd_same
    have sF : Same HE HF := gF ▸ (same_new k1).trans ((same_new k2).trans (same_new k3))
    clear gF
    refine ⟨r3, rfl, ⟨_, SqL.of mF⟩, for_it (walk_list (K := K) (a := r3) (xs := [sv (txt (wideT 200)), sv (txt (deepT 200))])) (fun i σ H' => ∃ o2 o3 : Option V, σ = [some (.ref wd), some (.ref lf), o2, o3, none] ∧ Same HF H')
      ⟨none, none, rfl, Same.refl _⟩ (fun i σ H' _ ⟨_, _, _, s⟩ => s.seq (SqL.of mF)) ?_ ?_⟩
    · rintro i x σ H1 H2 hi2 ⟨o2, o3, rfl, s1⟩ ⟨rfl, hx⟩
      show gName 2 _ _ _ _
      obtain ⟨t, g, z, rfl⟩ : ∃ t : Tr, t.wild ∧ sz t = 201 ∧ x = sv (txt t) := by
        rcases List.mem_cons.mp (List.mem_of_getElem? hx) with rfl | hx
        · exact ⟨_, wide_wild 200, wide_sz 200, rfl⟩
        · obtain rfl := List.mem_singleton.mp hx
          exact ⟨_, deep_wild 200, deep_sz 200, rfl⟩
      obtain ⟨b1, b2, b3⟩ := wild_text' g (by omega)
      refine ⟨_, rfl, toS (txt t), _, rfl, b1, b2, b3, by unfold sz at z; omega, fun dx H3 s3 m3 => ⟨true, U.ll, fun _ e he => ?_, (fun z => by cases z)⟩⟩
      exact ⟨_, rfl, rfl, rfl, dx, _, .int 200, rfl, m3, by simp [List.lookup], rfl, false, rfl, iteF ⟨_, _, rfl, s1.trans s3⟩⟩
    rintro σ HG ⟨o2, o3, rfl, sG⟩
    have s4G := s4E.trans (sF.trans sG)
    refine ⟨[97, 40], 199, eq2, rfl, by decide, by decide, by decide, by decide, _, _, rfl, rfl, dl1 199 (by decide), [41], 199, eq1, rfl, by decide, by decide, by decide, by decide, _, _, rfl, rfl, dl2 199 (by decide), ?_⟩
    rw [show (toS (List.replicate (199 : Int).toNat [97, 40]).flatten ++ "a") ++ toS (List.replicate (199 : Int).toNat [41]).flatten = toS (txt (deepT 199)) from ds 199]
    obtain ⟨b1, b2, b3⟩ := wild_text' (deep_wild 199) (by rw [deep_sz]; decide)
    refine ⟨_, _, rfl, b1, b2, b3, wild_few (deep_wild 199) (by rw [deep_sz]; decide), fun dd HH sH ddc => ?_⟩
    have s4H := s4G.trans sH
    have dz : ((deepT 199).rows srt 0).length = 200 := deep_sz 199
    obtain ⟨dx, _, _, _, _, _, hdd, _⟩ := id ddc
    refine ⟨_, rfl, dd, dx, _, rfl, hdd, dd, _, rfl, ddc, rfl, true, congrArg V.bl (decide_eq_true (by rw [dz]; rfl)), iteT ?_⟩
    have re : (List.replicate (199 : Int).toNat [V.int 0]).flatten = (List.replicate 199 0).map nv := by
      rw [List.map_replicate]
      exact List.flatten_replicate_singleton ..
    have nd := node_of _ 199 _ _ (deep_node 199 199 [] (Nat.le_refl _))
    have l199 : ([] ++ List.replicate 199 0 : Pth).length ≤ 1000 := by
      rw [List.nil_append, List.length_replicate]
      decide
    refine ⟨_, rfl, dd, dx, _, rfl, hdd, rfl, by show 1 ≤ sizeLine; decide, fun u1 h1 => ⟨u1, 199, _, rfl, rfl, .inl (.inl upd_same), by simp, by decide, by decide, by decide, fun u2 h2 => ?_⟩⟩
    rw [re]
    generalize gI : upd (upd HH u1 _) u2 _ = HI
    have sI : Same HH HI := gI ▸ (same_new h1).trans (same_new h2)
    have mI : HI u2 = some (.tup ((List.replicate 199 0).map nv)) := gI ▸ upd_same
    refine ⟨dd, _, .ref u2, _, 199, rfl, ddc.same sI, ⟨u2, rfl, mI⟩, l199, by omega, nd.place, fun HJ sJ => ?_⟩
    rw [nd.row]
    refine ⟨rfl, true, congrArg V.bl (decide_eq_true (by decide +kernel)), iteT ?_⟩
    refine ⟨_, rfl, by show 1 ≤ sizeLine; decide, fun u3 h3 => ⟨u3, 199, _, rfl, rfl, .inl (.inl upd_same), by simp, by decide, by decide, by decide, fun u4 h4 => ⟨_, rfl, ?_⟩⟩⟩
    rw [re]
    generalize gK : upd (upd HJ u3 _) u4 _ = HK
    have sK : Same HH HK := sI.trans (sJ.trans (gK ▸ (same_new h3).trans (same_new h4)))
    have mK : HK u4 = some (.tup ((List.replicate 199 0).map nv)) := gK ▸ upd_same
    refine ⟨dd, _, 4, .ref u4, .int 0, .ref lf, _, rfl, ddc.same sK, .limit (j := 0) ⟨_, ⟨u4, rfl, mK⟩, l199, nd.place⟩ (by omega) (Nat.zero_le _) (dl.same (s4H.trans sK)) (by omega), fun p9 HL np9 sL mL => ?_⟩
    refine ⟨p9, _, 0, _, rfl, rfl, SqL.of mL, atI_nat (j := 0) rfl, rfl, ?_⟩
    exact fin _ (s2.trans (s3.trans (s4.trans (s4H.trans (sK.trans sL)))))
end
end K04

namespace DR
open PySem PySem.Spec PyProof.Rows L2
/-- f() -/
theorem pe_callI0 {X : Cx} {C0 : CXT} {k : Nat} {f : Addr} {fd : FuncData} {ps : List Str} {sp : Sp} {dvs : List V} {ds : List Value} {E : XK} {x : Str} {p pos : Pos} (F : FnI X.prog X.w X.K X.mg X.base C0 k f fd ps sp) (hi : Idle X.A) (hr : Room k X.A) (hg : Gl X x)
    (hm : X.mg x = some (.ref f)) (hk : PySem.W.keepIn X.K (.ref f) = true) (hb : Binds X.K fd ps ds) (hd : Vals dvs ds) (hx : Passes C0 X E) (hdb : (x == ("__debug__" : Str)) = false := by decide) : PE X (.Call (.Name x p) [] [] pos) (tCall sp dvs E tNil) := by
  constructor
  intro pins s σ H Q I h
  exact wpAny_Call_Name_kw (ld_glob I hg hm (PySem.W.callWith_K0 I.kIn hk (runI (us := []) F hi hr hb hd hx I .nil h)) hdb)
end DR
namespace K04
open PySem L2 DR DM TL
theorem wild_nd {k : W} {ms : List W} {ks : Trs} : (Tr.nd k ms ks).wild ↔ isName k = true ∧ areNames ms = true ∧ ms.length ≤ 3 ∧ ∀ t ∈ ks.toL, t.wild := by
  rw [Tr.wild, wild_toL]
theorem fits_wild {Ks Ms : List W} (gk : ∀ k ∈ Ks, isName k = true) (gm : areNames Ms = true) (l : Ms.length ≤ 3) : ∀ (n : Nat) (t : Tr) (d : Nat), sz t ≤ n → t.fits Ks Ms d → t.wild
  | 0, t, d, h, _ => absurd (sz_pos t) (by omega)
  | n + 1, .nd k ms ks, d, h, f => by
    rw [Tr.fits] at f
    obtain ⟨hk, hm, _, _, hf⟩ := f
    obtain ⟨m1, m2⟩ := areNames_mem gm
    refine wild_nd.mpr ⟨gk k hk, ?_, Nat.le_trans hm.length_le l, fun t ht => fits_wild gk gm l n t (d - 1) (by have := sz_kid (k := k) (ms := ms) ht; omega) (fits_to hf t ht)⟩
    unfold areNames
    rw [Bool.and_eq_true, List.all_eq_true, decide_eq_true_eq]
    exact ⟨fun m hm' => m1 m (hm.subset hm'), m2.sublist hm⟩
theorem fits_size {Ks Ms : List W} {d : Nat} {t : Tr} (f : t.fits Ks Ms d) : sz t ≤ nb d := by
  have := nodes_le d t f []
  rw [nodes_len t [] 0] at this
  exact this
/-- what is no list stays -/
def Keep (H H' : Hp) : Prop := ∀ c o, H c = some o → (∀ xs, o ≠ .lst xs) → H' c = some o
theorem Keep.same {H H' : Hp} (s : Same H H') : Keep H H' := fun c o e _ => s c o e
theorem Keep.trans {H H1 H2 : Hp} (a : Keep H H1) (b : Keep H1 H2) : Keep H H2 := fun c o e n => b c o (a c o e n) n
theorem Keep.put {H : Hp} {k : Addr} {xs : List V} {o : HO} (h : H k = some (.lst xs)) : Keep H (upd H k o) := fun c u e n => by
  rw [upd_ne (fun z => by rw [z, h] at e; injection e with e; exact n xs e.symm)]
  exact e
theorem PthAt.keep {H H' : Hp} {v : V} {q : Pth} (k : Keep H H') (h : PthAt H v q) : PthAt H' v q :=
  let ⟨a, e, h1⟩ := h
  ⟨a, e, k _ _ h1 fun xs z => nomatch z⟩
theorem PthsAt.keep {H H' : Hp} {ws : List V} {qs : List Pth} (k : Keep H H') (h : PthsAt H ws qs) : PthsAt H' ws qs := Paired.mapP h fun _ _ q => q.keep k
theorem RowsAt.keep {H H' : Hp} {us : List V} {rs : List Row} (k : Keep H H') (h : RowsAt H us rs) : RowsAt H' us rs := Paired.mapP h fun _ _ ⟨a, m, e, h1, h2⟩ => ⟨a, m, e, k _ _ h1 (fun xs z => nomatch z), k _ _ h2 fun xs z => nomatch z⟩
theorem DocAt.keep {C a : Addr} {H H' : Hp} {rs : List Row} (k : Keep H H') (h : DocAt C H a rs) : DocAt C H' a rs :=
  let ⟨dx, r, p, d, us, ws, h1, h2, h3, h4, h5, h6, h7⟩ := h
  ⟨dx, r, p, d, us, ws, k _ _ h1 (fun xs z => nomatch z), k _ _ h2 (fun xs z => nomatch z), h3.keep k, k _ _ h4 (fun xs z => nomatch z), h5.keep k, k _ _ h6 (fun xs z => nomatch z), h7⟩
def rCatV : R2 := fun x y H Q => ∃ a b xs ys, x = .ref a ∧ y = .ref b ∧ H a = some (.tup xs) ∧ H b = some (.tup ys) ∧ xs.length + ys.length ≤ sizeLine ∧ ∀ r H', Same H H' → H' r = some (.tup (xs ++ ys)) → Q (.ref r) H'
theorem op_catV {X : Cx} : OpR X (binaryOp .Add) rCatV := by
  intro pins s σ H x y v u Q I rx ry ⟨a, b, xs, ys, e1, e2, h1, h2, len, fin⟩
  exact op_catA pins s σ H x y v u Q I rx ry ⟨a, b, xs, ys, e1, e2, .inl (.inl h1), .inl (.inl h2), len, fun z => fin b H (Same.refl _) (by rw [z]; exact h2), fun _ z => fin a H (Same.refl _) (by rw [z, List.append_nil]; exact h1), fun _ _ p hp => fin p _ (same_new hp) upd_same⟩
end K04

namespace K04
open PySem L2 DR DM TL
/-! ### what is shown -/
theorem join_le (y : W) (b : Nat) : ∀ l : List W, (∀ w ∈ l, w.length ≤ b) → (joinL y l).length ≤ l.length * (b + y.length)
  | [], _ => Nat.zero_le _
  | [w], h => by
    have := h w (List.mem_cons_self ..)
    show w.length ≤ 1 * (b + y.length)
    omega
  | w :: v :: l, h => by
    have h1 := h w (List.mem_cons_self ..)
    have ih := join_le y b (v :: l) fun x hx => h x (List.mem_cons_of_mem _ hx)
    show (w ++ (y ++ joinL y (v :: l))).length ≤ _
    rw [List.length_append, List.length_append]
    rw [List.length_cons, Nat.add_mul, Nat.one_mul]
    omega
theorem ints_ok : ∀ zs : List Int, (∀ z ∈ zs, z.natAbs < 1000) → PyData.showableAll (zs.map PyData.int) = true ∧ PyData.depthAll (zs.map PyData.int) = 0
  | [], _ => ⟨by simp [PyData.showableAll], by simp [PyData.depthAll]⟩
  | z :: zs, h => by
    obtain ⟨a, b⟩ := ints_ok zs fun x hx => h x (List.mem_cons_of_mem _ hx)
    have h1 := h z (List.mem_cons_self ..)
    have h2 := Nat.log2_le_self z.natAbs
    exact ⟨by simp [PyData.showableAll, PyData.showable, a]; omega, by simp [PyData.depthAll, PyData.depth, b]⟩
theorem ints_shown : ∀ zs : List Int, PyData.shownAll (zs.map PyData.int) = (zs.map fun i => tl (Str.ofString (toString i))).map toS
  | [] => by simp [PyData.shownAll]
  | z :: zs => by
    have ih := ints_shown zs
    rw [List.map_cons, List.map_cons, List.map_cons, ← ih]
    simp only [PyData.shownAll, PyData.shown]
    exact congrArg (· :: _) (ext_tl (tl_toS _).symm)
theorem dpall_ints {K : PySem.W.Frag} {H : Hp} : ∀ zs : List Int, DpAll K H (zs.map V.int) (zs.map PyData.int)
  | [] => .nil
  | z :: zs => .cons (.int z) (dpall_ints zs)
theorem small_shown : ∀ n : Nat, n < 40 → (tl (Str.ofString (toString ((n : Int) - 1)))).length ≤ 100 := by decide +kernel
theorem small_int {z : Int} (h1 : -1 ≤ z) (h2 : z < 39) : (tl (Str.ofString (toString z))).length ≤ 100 := by
  have := small_shown (z + 1).toNat (by omega)
  rwa [show (((z + 1).toNat : Nat) : Int) - 1 = z by omega] at this
/-- a tuple of small integers is shown -/
theorem shows_ints {K : PySem.W.Frag} {H : Hp} {b : Addr} {zs : List Int} (h : H b = some (.tup (zs.map V.int))) (l : zs.length ≤ 100) (sm : ∀ z ∈ zs, -1 ≤ z ∧ z < 39) : Shows K H (.ref b) (.tuple (zs.map PyData.int)) := by
  obtain ⟨a, c⟩ := ints_ok zs fun z hz => by have := sm z hz; omega
  refine ⟨.inl (.tup (.inl (.inl h)) (dpall_ints zs)), by simp only [PyData.showable]; exact a, ?_, by simp only [PyData.depth]; omega⟩
  have B := big
  simp only [PyData.shown, PySem.tupleText]
  rw [ints_shown, show ∀ l, (Str.ofString ", ").join l = Txt.join (toS [44, 32]) l from fun l => by rw [show (Str.ofString ", ") = toS [44, 32] from by decide +kernel]; exact (PySem.StrLaws.glued_eq_join _ _).symm, join_text, show (Str.ofString "(") = toS [40] from by decide +kernel, toS_app]
  have j := join_le [44, 32] 100 (zs.map fun i => tl (Str.ofString (toString i))) fun w hw => by
    obtain ⟨z, hz, rfl⟩ := List.mem_map.mp hw
    exact small_int (sm z hz).1 (sm z hz).2
  rw [List.length_map] at j
  have j2 : zs.length * (100 + [44, 32].length) ≤ 100 * 102 := Nat.mul_le_mul_right _ l
  generalize joinL [44, 32] _ = jl at j ⊢
  split
  · rw [show (Str.ofString ",)") = toS [44, 41] from by decide +kernel, toS_app, toS_len, List.length_append, List.length_append]
    show 1 + _ + 2 ≤ _
    omega
  · rw [show (Str.ofString ")") = toS [41] from by decide +kernel, toS_app, toS_len, List.length_append, List.length_append]
    show 1 + _ + 1 ≤ _
    omega
/-! ### paths -/
theorem at_small {Ks Ms : List W} : ∀ (q : Pth) (t s : Tr) (d : Nat), t.fits Ks Ms d → t.at_ q = some s → ∀ i ∈ q, i < 3
  | [], _, _, _, _, _, i, h => by cases h
  | j :: q, .nd k ms ks, s, d, f, h, i, hi => by
    rw [Tr.fits] at f
    obtain ⟨_, _, l3, _, hf⟩ := f
    rw [Tr.at_] at h
    cases e : ks.toL[j]? with
    | none =>
      rw [e] at h
      cases h
    | some u =>
      rw [e] at h
      have lt : j < ks.toL.length := (List.getElem?_eq_some_iff.mp e).1
      rw [toL_len] at lt
      rcases List.mem_cons.mp hi with rfl | hi
      · omega
      · exact at_small q u s (d - 1) (fits_to hf u (List.mem_of_getElem? e)) h i hi
/-- what is no node's path is not found -/
theorem not_place {t : Tr} {q : Pth} (h : t.at_ q = none) : (valV (plc (pathsM (t.rows srt 0)) (t.rows srt 0).length) (pk q)).isSome = false := by
  refine Bool.eq_false_iff.mpr fun z => ?_
  obtain ⟨q2, m2', e2⟩ := plc_only _ _ z
  have e2 := pk_inj e2
  rw [path_text] at m2'
  obtain ⟨x2, hx2, e3⟩ := List.mem_map.mp m2'
  obtain ⟨r2, e4, a4⟩ := nodes_at t [] x2 hx2
  have e4 : x2.1 = r2 := e4
  have e3 : x2.1 = q2 := e3
  rw [← e4, e3, ← e2, h] at a4
  cases a4
theorem neg_place {qs : List Pth} {n : Nat} (q : Pth) : (valV (plc qs n) (((q.map fun (n : Nat) => (n : Int)) ++ [-1]).map fun i => (Sum.inl i : Key))).isSome = false := by
  refine Bool.eq_false_iff.mpr fun z => ?_
  obtain ⟨q2, _, e⟩ := plc_only n _ z
  have m : (Sum.inl (-1) : Key) ∈ pk q2 := by
    rw [← e, List.map_append]
    exact List.mem_append_right _ (List.mem_cons_self ..)
  unfold pk at m
  obtain ⟨a, _, ha⟩ := List.mem_map.mp m
  injection ha with ha
  have ha : ((a : Nat) : Int) = -1 := ha
  omega
end K04

namespace K04
open PySem L2 DR DM TL
def OddP (K : PySem.W.Frag) (rs : List Row) (H : Hp) (x : V) : Prop := ∃ d, ∀ H', Same H H' → Bad K H' rs x ∧ Shows K H' x d
theorem shows_of {K : PySem.W.Frag} {H : Hp} {x : V} {d : PyData} (h : DpE K H x d) (s : d.showable = true ∧ d.depth ≤ 40 ∧ d.shown.length ≤ 100) : Shows K H x d := ⟨h, s.1, Nat.le_trans s.2.2 (by show 100 ≤ sizeLine; decide), s.2.1⟩
theorem odd1 {K : PySem.W.Frag} {H : Hp} {rs : List Row} {q : Pth} {wd : Nat} {l0 l1 r3 r4 l5 l6 d7 : Addr} (c0 : H l0 = some (.lst [.int 0])) (c1 : H l1 = some (.tup ([((wd : Nat) : Int) + 9, 0].map V.int))) (c3 : H r3 = some (.tup (q.map nv ++ [nv wd]))) (c4 : H r4 = some (.tup (q.map nv ++ [.int (-1)])))
    (c5 : H l5 = some (.tup [.bl true])) (c6 : H l6 = some (.tup [.non])) (c7 : H d7 = some (.dK [])) (small : ∀ i ∈ q, i < 3) (w3 : wd ≤ 3) (ql : q.length ≤ 20) (nw : (valV (plc (pathsM rs) rs.length) (pk (q ++ [wd]))).isSome = false) (n9 : (valV (plc (pathsM rs) rs.length) (pk [wd + 9, 0])).isSome = false) :
    ∀ x ∈ [V.non, .int 5, .str "", .ref l0, .ref l1, .ref r3, .ref r4, .ref l5, .ref l6, .ref d7], OddP K rs H x := by
  have e3 : q.map nv ++ [nv wd] = ((q ++ [wd]).map fun (n : Nat) => ((n : Int))).map V.int := by
    rw [List.map_map, List.map_append]
    rfl
  have e4 : q.map nv ++ [.int (-1)] = ((q.map fun (n : Nat) => ((n : Int))) ++ [-1]).map V.int := by
    rw [List.map_append, List.map_map]
    rfl
  have key : ∀ p : Pth, (p.map fun (n : Nat) => ((n : Int))).map (fun i => (Sum.inl i : Key)) = pk p := fun p => by
    rw [List.map_map]
    rfl
  intro x h
  simp only [List.mem_cons, List.not_mem_nil, or_false] at h
  rcases h with rfl | rfl | rfl | rfl | rfl | rfl | rfl | rfl | rfl | rfl
  · exact ⟨.none, fun H' s => ⟨.inl ⟨_, .base .non, by rfl⟩, shows_of (.inl .non) (by decide +kernel)⟩⟩
  · exact ⟨.int 5, fun H' s => ⟨.inl ⟨_, .base (.int 5), by rfl⟩, shows_of (.inl (.int 5)) (by decide +kernel)⟩⟩
  · exact ⟨.str "", fun H' s => ⟨.inl ⟨_, .base (.str ""), by rfl⟩, shows_of (.inl (.str "")) (by decide +kernel)⟩⟩
  · exact ⟨.list [.int 0], fun H' s => ⟨.inl ⟨_, .base (.lst (s _ _ c0)), by rfl⟩, shows_of (.inl (.lst (SqL.of (s _ _ c0)) (.cons (.int 0) .nil))) (by decide +kernel)⟩⟩
  · refine ⟨.tuple ([((wd : Nat) : Int) + 9, 0].map .int), fun H' s => ⟨.inr (.inr ⟨l1, _, rfl, s _ _ c1, by show 2 ≤ 1000; decide, ?_⟩), shows_ints (s _ _ c1) (by show 2 ≤ 100; decide) fun z hz => ?_⟩⟩
    · have := n9
      exact this
    · simp only [List.mem_cons, List.not_mem_nil, or_false] at hz
      omega
  · refine ⟨.tuple (((q ++ [wd]).map fun (n : Nat) => ((n : Int))).map .int), fun H' s => ⟨.inr (.inr ⟨r3, _, rfl, by rw [s _ _ c3, e3], by rw [List.length_map, List.length_append]; show _ + 1 ≤ _; omega, ?_⟩), shows_ints (by rw [s _ _ c3, e3]) (by rw [List.length_map, List.length_append]; show _ + 1 ≤ _; omega) fun z hz => ?_⟩⟩
    · rw [key]
      exact nw
    · obtain ⟨n, hn, rfl⟩ := List.mem_map.mp hz
      rcases List.mem_append.mp hn with hn | hn
      · have := small n hn
        omega
      · have := List.mem_singleton.mp hn
        omega
  · refine ⟨.tuple (((q.map fun (n : Nat) => ((n : Int))) ++ [-1]).map .int), fun H' s => ⟨.inr (.inr ⟨r4, _, rfl, by rw [s _ _ c4, e4], by rw [List.length_append, List.length_map]; show _ + 1 ≤ _; omega, neg_place q⟩), shows_ints (by rw [s _ _ c4, e4]) (by rw [List.length_append, List.length_map]; show _ + 1 ≤ _; omega) fun z hz => ?_⟩⟩
    rcases List.mem_append.mp hz with hz | hz
    · obtain ⟨n, hn, rfl⟩ := List.mem_map.mp hz
      have := small n hn
      omega
    · have := List.mem_singleton.mp hz
      omega
  · exact ⟨.tuple [.bool true], fun H' s => ⟨.inr (.inl ⟨l5, _, rfl, s _ _ c5, rfl, by decide, rfl⟩), shows_of (.inl (.tup (.inl (.inl (s _ _ c5))) (.cons (.bl true) .nil))) (by decide +kernel)⟩⟩
  · exact ⟨.tuple [.none], fun H' s => ⟨.inr (.inl ⟨l6, _, rfl, s _ _ c6, rfl, by decide, rfl⟩), shows_of (.inl (.tup (.inl (.inl (s _ _ c6))) (.cons .non .nil))) (by decide +kernel)⟩⟩
  · exact ⟨.dict [], fun H' s => ⟨.inl ⟨.type "dict", .base (.dK (s _ _ c7)), by rfl⟩, shows_of (.inr ⟨d7, rfl, s _ _ c7, rfl⟩) (by decide +kernel)⟩⟩
end K04

namespace K04
open PySem L2 DR DM TL
theorem at_fits {Ks Ms : List W} : ∀ (q : Pth) (t s : Tr) (d : Nat), t.fits Ks Ms d → t.at_ q = some s → ∃ d', s.fits Ks Ms d'
  | [], t, s, d, f, h => by
    rw [at_nil] at h
    exact ⟨d, Option.some.inj h ▸ f⟩
  | j :: q, .nd k ms ks, s, d, f, h => by
    rw [Tr.fits] at f
    obtain ⟨_, _, l3, _, hf⟩ := f
    rw [Tr.at_] at h
    cases e : ks.toL[j]? with
    | none =>
      rw [e] at h
      cases h
    | some u =>
      rw [e] at h
      exact at_fits q u s (d - 1) (fits_to hf u (List.mem_of_getElem? e)) h
theorem kids_small {Ks Ms : List W} {d : Nat} : ∀ {t : Tr}, t.fits Ks Ms d → t.kids.len ≤ 3
  | .nd k ms ks, f => by
    rw [Tr.fits] at f
    exact f.2.2.1
theorem kids_none {i : Nat} {r : Pth} : ∀ {t : Tr}, t.kids.len ≤ i → t.at_ (i :: r) = none
  | .nd k ms ks, h => by
    have h : ks.len ≤ i := h
    rw [Tr.at_, List.getElem?_eq_none (by rw [toL_len]; exact h)]
def OddN (K : PySem.W.Frag) (n : Nat) (H : Hp) (x : V) : Prop := ∃ d, ∀ H', Same H H' → Saysno (spBetweenO K) [x, .int 0, nv n] H' ∧ Shows K H' x d
theorem no_int {K : PySem.W.Frag} {n : Nat} {z : Int} {H : Hp} (h : ¬ (0 ≤ z ∧ z ≤ n)) : Saysno (spBetweenO K) [.int z, .int 0, nv n] H := fun H1 s Q E fin => .inl ⟨z, 0, _, rfl, by
  have e : (decide (0 ≤ z) && decide (z ≤ ((n : Nat) : Int))) = false := by
    rw [Bool.eq_false_iff]
    intro c
    simp only [Bool.and_eq_true, decide_eq_true_eq] at c
    exact h c
  rw [e]
  exact fin _ (Same.refl _)⟩
theorem no_ty {K : PySem.W.Frag} {n : Nat} {x : V} {t : Value} {H : Hp} (b1 b2 : Bool) (tx : ∀ H', Same H H' → TyX K H' x t) (k1 : PySem.W.kitOne K t (.type "int") = some b1) (k2 : PySem.W.kitOne K t (.type "bool") = some b2) (e : (b1 && !b2) = false) : Saysno (spBetweenO K) [x, .int 0, nv n] H :=
  fun H1 s Q E fin => .inr ⟨x, _, _, t, b1, b2, rfl, tx _ s, k1, k2, e, fin _ (Same.refl _)⟩
theorem shows_int {K : PySem.W.Frag} {H : Hp} {z : Int} (h1 : -1 ≤ z) (h2 : z < 39) : Shows K H (.int z) (.int z) := by
  refine ⟨.inl (.int z), ?_, ?_, by simp [PyData.depth]⟩
  · have := Nat.log2_le_self z.natAbs
    simp [PyData.showable]
    omega
  · rw [PyData.shown_int]
    have := small_int h1 h2
    have B := big
    rw [show (Str.ofString (toString z)).length = (tl (Str.ofString (toString z))).length from len_tl _]
    omega
theorem odd2 {K : PySem.W.Frag} {H : Hp} {wd : Nat} {m0 : Addr} (c0 : H m0 = some (.lst [.int 0])) (w3 : wd ≤ 3) : ∀ x ∈ [V.int (-1), .int (((wd : Nat) : Int) + 1), .non, .bl true, .str "0", .ref m0, .int (10 ^ 20)], OddN K wd H x := by
  intro x h
  simp only [List.mem_cons, List.not_mem_nil, or_false] at h
  rcases h with rfl | rfl | rfl | rfl | rfl | rfl | rfl
  · exact ⟨.int (-1), fun H' s => ⟨no_int (by omega), shows_int (by decide) (by decide)⟩⟩
  · exact ⟨.int (((wd : Nat) : Int) + 1), fun H' s => ⟨no_int (by omega), shows_int (by omega) (by omega)⟩⟩
  · exact ⟨.none, fun H' s => ⟨no_ty false false (fun _ _ => .base .non) (by rfl) (by rfl) rfl, shows_of (.inl .non) (by decide +kernel)⟩⟩
  · exact ⟨.bool true, fun H' s => ⟨no_ty true true (fun _ _ => .base (.bl true)) (by rfl) (by rfl) rfl, shows_of (.inl (.bl true)) (by decide +kernel)⟩⟩
  · exact ⟨.str "0", fun H' s => ⟨no_ty false false (fun _ _ => .base (.str "0")) (by rfl) (by rfl) rfl, shows_of (.inl (.str "0")) (by decide +kernel)⟩⟩
  · exact ⟨.list [.int 0], fun H' s => ⟨no_ty false false (fun _ s2 => .base (.lst (s2 _ _ (s _ _ c0)))) (by rfl) (by rfl) rfl, shows_of (.inl (.lst (SqL.of (s _ _ c0)) (.cons (.int 0) .nil))) (by decide +kernel)⟩⟩
  · exact ⟨.int (10 ^ 20), fun H' s => ⟨no_int (by omega), shows_of (.inl (.int _)) (by decide +kernel)⟩⟩
def OddA (K : PySem.W.Frag) (C : Addr) (H : Hp) (z : V) : Prop := sameB z ∧ ∃ t, (∀ H', Same H H' → TyX K H' z t) ∧ PySem.W.kitOne K t (.ref C) = some false
/-- what a document is not -/
structure NoDoc (K : PySem.W.Frag) (C : Addr) : Prop where
  n : PySem.W.kitOne K (.type "NoneType") (.ref C) = some false
  i : PySem.W.kitOne K (.type "int") (.ref C) = some false
  s : PySem.W.kitOne K (.type "str") (.ref C) = some false
  l : PySem.W.kitOne K (.type "list") (.ref C) = some false
theorem odd3 {K : PySem.W.Frag} {C : Addr} (N : NoDoc K C) {H : Hp} {t : Str} {m0 : Addr} {us : List V} (c0 : H m0 = some (.lst us)) : ∀ x ∈ [V.non, .int 5, .str "a", .str t, .ref m0], OddA K C H x := by
  intro x h
  simp only [List.mem_cons, List.not_mem_nil, or_false] at h
  rcases h with rfl | rfl | rfl | rfl | rfl
  · exact ⟨.inl rfl, _, fun _ _ => .base .non, N.n⟩
  · exact ⟨.inl rfl, _, fun _ _ => .base (.int 5), N.i⟩
  · exact ⟨.inl rfl, _, fun _ _ => .base (.str _), N.s⟩
  · exact ⟨.inl rfl, _, fun _ _ => .base (.str _), N.s⟩
  · exact ⟨.inr ⟨_, rfl⟩, _, fun _ s => .base (.lst (s _ _ c0)), N.l⟩
def OddK (K : PySem.W.Frag) (H : Hp) (y : V) : Prop := sameB y ∧ ∀ H', Same H H' → Saysno (spNameO K) [y] H'
theorem no_name {K : PySem.W.Frag} {H : Hp} {t : Str} (l : (tl t).length ≤ 30000) (n : isName (tl t) = false) : Saysno (spNameO K) [.str t] H := fun H1 s Q E fin => .inl ⟨t, rfl, l, fun H2 s2 => by rw [n]; exact fin _ s2⟩
theorem no_str {K : PySem.W.Frag} {H : Hp} {y : V} {t : Value} (tx : ∀ H', Same H H' → TyX K H' y t) (k : PySem.W.kitOne K t (.type "str") = some false) : Saysno (spNameO K) [y] H := fun H1 s Q E fin => .inr ⟨y, rfl, ⟨t, tx _ s, k⟩, fin _ (Same.refl _)⟩
theorem odd4 {K : PySem.W.Frag} {H : Hp} {m0 : Addr} {us : List V} (c0 : H m0 = some (.lst us)) : ∀ x ∈ [V.non, .int 5, .str "", .str "A", .str "a1", .str "abcdefghi", .str "a b", .ref m0], OddK K H x := by
  intro x h
  simp only [List.mem_cons, List.not_mem_nil, or_false] at h
  rcases h with rfl | rfl | rfl | rfl | rfl | rfl | rfl | rfl
  · exact ⟨.inl rfl, fun H' s => no_str (fun _ _ => .base .non) (by rfl)⟩
  · exact ⟨.inl rfl, fun H' s => no_str (fun _ _ => .base (.int 5)) (by rfl)⟩
  · exact ⟨.inl rfl, fun H' s => no_name (by decide +kernel) (by decide +kernel)⟩
  · exact ⟨.inl rfl, fun H' s => no_name (by decide +kernel) (by decide +kernel)⟩
  · exact ⟨.inl rfl, fun H' s => no_name (by decide +kernel) (by decide +kernel)⟩
  · exact ⟨.inl rfl, fun H' s => no_name (by decide +kernel) (by decide +kernel)⟩
  · exact ⟨.inl rfl, fun H' s => no_name (by decide +kernel) (by decide +kernel)⟩
  · exact ⟨.inr ⟨_, rfl⟩, fun H' s => no_str (fun _ s2 => .base (.lst (s2 _ _ (s _ _ c0)))) (by rfl)⟩
def OddM (K : PySem.W.Frag) (H : Hp) (y : V) : Prop := sameB y ∧ ∀ H', Same H H' → Saysno (spNamesO K) [y] H'
theorem no_row {K : PySem.W.Frag} {H : Hp} {y : V} {t : Value} (tx : ∀ H', Same H H' → TyX K H' y t) (k : PySem.W.kitAny K t [.type "list", .type "tuple"] = some false) : Saysno (spNamesO K) [y] H := fun H1 s Q E fin => .inr (.inl ⟨y, t, rfl, fun H2 s2 => tx _ (s.trans s2), k, fin⟩)
theorem no_names {K : PySem.W.Frag} {H : Hp} {p : Addr} {ts : List Str} (h : H p = some (.lst (ts.map V.str)) ∨ H p = some (.tup (ts.map V.str))) (l : ts.length ≤ 1000) (m : ∀ t ∈ ts, (tl t).length ≤ 30000) (n : areNames (ts.map tl) = false) : Saysno (spNamesO K) [.ref p] H := fun H1 s Q E fin => by
  rcases h with h | h
  · exact .inl (.inl ⟨p, ts, rfl, s _ _ h, l, m, fun H2 s2 => by rw [n]; exact fin _ s2⟩)
  · exact .inl (.inr ⟨p, ts, rfl, s _ _ h, l, m, fun H2 s2 => by rw [n]; exact fin _ s2⟩)
theorem no_one {K : PySem.W.Frag} {H : Hp} {p : Addr} {u : V} (h : H p = some (.lst [u])) (n : ∀ H', Same H H' → NoStr K H' u) : Saysno (spNamesO K) [.ref p] H := fun H1 s Q E fin => .inr (.inr ⟨p, u, rfl, s _ _ h, fun H2 s2 => n _ (s.trans s2), fin⟩)
theorem odd5 {K : PySem.W.Frag} {H : Hp} {m1 m2 m3 m4 m5 m6 d8 : Addr} {us : List V} (c1 : H m1 = some (.lst [.str "hot", .str "hot"])) (c2 : H m2 = some (.lst [.str "A"])) (c3 : H m3 = some (.lst [.non])) (c4 : H m4 = some (.tup [.str "a", .str ""])) (c5 : H m5 = some (.lst us)) (c6 : H m6 = some (.lst [.ref m5])) (c8 : H d8 = some (.dK [])) :
    ∀ x ∈ [V.non, .str "hot", .ref m1, .ref m2, .ref m3, .ref m4, .ref m6, .ref d8, .int 5], OddM K H x := by
  intro x h
  simp only [List.mem_cons, List.not_mem_nil, or_false] at h
  rcases h with rfl | rfl | rfl | rfl | rfl | rfl | rfl | rfl | rfl
  · exact ⟨.inl rfl, fun H' s => no_row (fun _ _ => .base .non) (by rfl)⟩
  · exact ⟨.inl rfl, fun H' s => no_row (fun _ _ => .base (.str _)) (by rfl)⟩
  · exact ⟨.inr ⟨_, rfl⟩, fun H' s => no_names (ts := ["hot", "hot"]) (.inl (s _ _ c1)) (by decide) (by decide +kernel) (by decide +kernel)⟩
  · exact ⟨.inr ⟨_, rfl⟩, fun H' s => no_names (ts := ["A"]) (.inl (s _ _ c2)) (by decide) (by decide +kernel) (by decide +kernel)⟩
  · exact ⟨.inr ⟨_, rfl⟩, fun H' s => no_one (s _ _ c3) fun _ _ => ⟨_, .base .non, by rfl⟩⟩
  · exact ⟨.inr ⟨_, rfl⟩, fun H' s => no_names (ts := ["a", ""]) (.inr (s _ _ c4)) (by decide) (by decide +kernel) (by decide +kernel)⟩
  · exact ⟨.inr ⟨_, rfl⟩, fun H' s => no_one (s _ _ c6) fun _ s2 => ⟨_, .base (.lst (s2 _ _ (s _ _ c5))), by rfl⟩⟩
  · exact ⟨.inr ⟨_, rfl⟩, fun H' s => no_row (fun _ s2 => .base (.dK (s2 _ _ (s _ _ c8)))) (by rfl)⟩
  · exact ⟨.inl rfl, fun H' s => no_row (fun _ _ => .base (.int 5)) (by rfl)⟩
end K04

namespace K04
open PySem L2 DR DM TL
abbrev sLaw : Stmt := top 36
def KS : List W := [tl "a", tl "item"]
def MS : List W := [tl "hot"]
def spLaw (K : PySem.W.Frag) : Sp := fun vs H Q _ => ∃ (a : Addr) (ns : List Int), vs = [.ref a] ∧ SqL K H a (ns.map V.int) ∧ ns.length ≤ 63 ∧ ∀ H', Q (.bl true) H'
structure LDefs (P : Program) (w : World) (K : PySem.W.Frag) (mg : Str → Option Value) (base : Heap) (C : Addr) : Prop where
  pool : Has P w K mg base 1 "_law_pool" ["_law_script", "_law_k"] (spPool K)
  take : Has P w K mg base 1 "_law_take" ["_law_pool_here", "_law_many"] spTake
  node : Has P w K mg base 4 "_law_node" ["_law_pool_here", "_law_depth", "_law_kinds", "_law_marks"] (spNode KS MS 2)
  text : Has P w K mg base 22 "_law_text" ["_law_node_here"] (spTextW 20)
  paths : Has P w K mg base 22 "_law_paths" ["_law_node_here", "_law_path"] (spPathsW 20)
  parse : Has P w K mg base 5 "parse_document" ["text"] (spParse C)
  ptext : PropM P w K mg base C "text" (spTextP C)
  width : C8.Met P w K mg base 5 C "width" (spWidthP C) []
  nodoc : NoDoc K C
  said : ∃ f fd, FnI P w K mg base CX0 7 f fd ["_law_document", "_law_way", "_law_first", "_law_second", "_law_third"] (spSaid K C) ∧ mg "_law_said" = some (.ref f) ∧ PySem.W.keepIn K (.ref f) = true ∧ Binds K fd ["_law_document", "_law_way", "_law_first", "_law_second", "_law_third"] []
  limits : ∃ f fd, FnI P w K mg base CX0 8 f fd [] spLimits ∧ mg "_law_limits_right" = some (.ref f) ∧ PySem.W.keepIn K (.ref f) = true ∧ Binds K fd [] []
theorem pow20 : CPow 10 20 := ⟨by decide, by decide, by decide⟩
theorem flatS {a b : Str} {c : Bool} : ∀ v ∈ [V.str a, V.str b, V.bl c], sameB v := fun v h => by
  simp only [List.mem_cons, List.not_mem_nil, or_false] at h
  rcases h with rfl | rfl | rfl <;> exact .inl rfl
theorem flatV {a : Str} {x : V} {c : Bool} (g : sameB x) : ∀ v ∈ [V.str a, x, V.bl c], sameB v := fun v h => by
  simp only [List.mem_cons, List.not_mem_nil, or_false] at h
  rcases h with rfl | rfl | rfl
  · exact .inl rfl
  · exact g
  · exact .inl rfl
section
variable {P : Program} {w : World} {K : PySem.W.Frag} {mg : Str → Option Value} {base : Heap}
theorem scLaw : FnScope ["_law_script", "_law_k", "_law_pool_here", "_law_node_here", "_law_document", "_law_paths_here", "_law_path", "_law_width", "_law_odd", "_law_way"] ["_law_script"] (defScope sLaw) := ⟨rfl, rfl, rfl, by decide +kernel, rfl, by decide +kernel, by decide +kernel⟩
theorem ok_law {f C : Addr} {fd : FuncData} (F : Fun K "law" "law" sLaw f fd) (T : Txt mg) (DC : DCls K mg C) (rp : mg "repr" = none) (D : LDefs P w K mg base C) : FnI P w K mg base CX0 24 f fd ["_law_script"] (spLaw K) := by
  obtain ⟨f1, fd1, G1, m1, k1, b1⟩ := D.pool
  obtain ⟨f2, fd2, G2, m2, k2, b2⟩ := D.take
  obtain ⟨f3, fd3, G3, m3, k3, b3⟩ := D.node
  obtain ⟨f4, fd4, G4, m4, k4, b4⟩ := D.text
  obtain ⟨f5, fd5, G5, m5, k5, b5⟩ := D.paths
  obtain ⟨f9, fd9, G9, m9, k9, b9⟩ := D.parse
  obtain ⟨pT, fT, fdT, prT, GT, bT⟩ := D.ptext
  obtain ⟨fS, fdS, GS, mS, kS, bS⟩ := D.said
  obtain ⟨fLm, fdLm, GLm, mLm, kLm, bLm⟩ := D.limits
  refine fnI_of F scLaw (fun vs H Q E h => ?_) (fun cdv A outer s H vs Q E hi hr h => ?_)
  · obtain ⟨_, _, rfl, _⟩ := h
    rfl
  · obtain ⟨sc, ns, rfl, hS, len, fin⟩ := h
    have hu := hr.units
    have hu0 : (A.deeper (PyProof.Rows.envOfC "law" (defScope sLaw) s.heap.objs.size f cdv)).units < cLine := by
      have := hr.units
      omega
    have hr1 : Room 1 _ := hr.mono (by decide)
    have hr2 : Room 2 _ := hr.mono (by decide)
    have hr4 : Room 4 _ := hr.mono (by decide)
    have hr5 : Room 5 _ := hr.mono (by decide)
    have hr7 : Room 7 _ := hr.mono (by decide)
    have hr8 : Room 8 _ := hr.mono (by decide)
    have hrT : Room 22 _ := hr.mono (by decide)
    refine ⟨_, PSs.nox (pss_cons (ps_if (pt_not (pt_val (pe_callI0 GLm hi hr8 (by rfl) mLm kLm bLm .nil pass0))) (pss_one (ps_ret pe_bl)) pss_nil)
      (pss_cons (ps_for PassesOwn.never rfl (pi_range1 (by rfl) T.range (pa_cons (pe_callB (call_max2 rfl) (by rfl) T.max PyProof.Rows.boot_max (pa_cons pe_int (pa_cons (pe_callB (call_min2 rfl) (by rfl) T.min PyProof.Rows.boot_min (pa_cons pe_int (pa_cons (pe_callB call_len_seq (by rfl) T.len PySem.boot_len (pa_cons (pv 0) pa_nil)) pa_nil))) pa_nil))) pa_nil)) (pg_name (i := 1) scLaw.nd rfl (Or.inl rfl)) (pss_cons (ps_set (i := 2) scLaw.nd rfl (Or.inl rfl) (pe_call G1 hr1 (by rfl) m1 k1 b1 .nil pass0 (pa_cons (pv 0) (pa_cons (pv 1) pa_nil))))
      (pss_cons (ps_set (i := 3) scLaw.nd rfl (Or.inl rfl) (pe_call G3 hr4 (by rfl) m3 k3 b3 .nil pass0 (pa_cons (pv 2) (pa_cons pe_int (pa_cons (pe_lst (pa_cons pe_str (pa_cons pe_str pa_nil))) (pa_cons (pe_lst (pa_cons pe_str pa_nil)) pa_nil))))))
      (pss_cons (ps_par (i := 4) (j := 5) (by rfl) scLaw.nd rfl rfl (by decide) rfl rfl (pa_cons (pe_call G9 hr5 (by rfl) m9 k9 b9 .nil pass0 (pa_cons (pe_call G4 hrT (by rfl) m4 k4 b4 .nil pass0 (pa_cons (pv 3) pa_nil)) pa_nil)) (pa_cons (pe_call G5 hrT (by rfl) m5 k5 b5 .nil pass0 (pa_cons (pv 3) (pa_cons (pe_tup pa_nil) pa_nil))) pa_nil)) (by rfl))
      (pss_cons (ps_set (i := 6) scLaw.nd rfl (Or.inl rfl) (pe_ix ix_list (pv 5) (pe_call G2 hr1 (by rfl) m2 k2 b2 .nil pass0 (pa_cons (pv 2) (pa_cons (pe_callB call_len_seq (by rfl) T.len PySem.boot_len (pa_cons (pv 5) pa_nil)) pa_nil))) (fun _ _ => rfl)))
      (pss_cons (ps_set (i := 7) scLaw.nd rfl (Or.inl rfl) (C8.pe_mt D.width hr (by decide) (pv 4) (pa_cons (pv 6) pa_nil)))
      (pss_cons (ps_for PassesOwn.never rfl (pi_list (pe_lst (pa_cons pe_non (pa_cons pe_int (pa_cons pe_str (pa_cons (pe_lst (pa_cons pe_int pa_nil)) (pa_cons (pe_tup (pa_cons (pe_op op_add (pv 7) pe_int) (pa_cons pe_int pa_nil))) (pa_cons (pe_op op_catV (pv 6) (pe_tup (pa_cons (pv 7) pa_nil))) (pa_cons (pe_op op_catV (pv 6) (pe_tup (pa_cons (pe_un un_neg pe_int) pa_nil))) (pa_cons (pe_tup (pa_cons pe_bl pa_nil)) (pa_cons (pe_tup (pa_cons pe_non pa_nil)) (pa_cons pe_dnewK pa_nil)))))))))))) (pg_name (i := 8) scLaw.nd rfl (Or.inl rfl)) (pss_one (ps_for PassesOwn.never rfl (pi_range1 (by rfl) T.range (pa_cons pe_int pa_nil)) (pg_name (i := 9) scLaw.nd rfl (Or.inl rfl)) (pss_one (ps_if (pt_cmpR (op_neS hu0) (pe_callI GS hi hr7 (by rfl) mS kS bS .nil pass0 (pa_cons (pv 4) (pa_cons (pv 9) (pa_cons (pv 8) (pa_cons pe_non (pa_cons pe_non pa_nil)))))) (pe_lst (pa_cons pe_str (pa_cons (pe_callB (call_repr hi hu) (by rfl) rp PyProof.Rows.boot_repr (pa_cons (pv 8) pa_nil)) (pa_cons pe_bl pa_nil)))) (nomark _)) (pss_one (ps_ret pe_bl)) pss_nil)))))
      (pss_cons (ps_if (pt_cmpR (op_neS hu0) (pe_callI GS hi hr7 (by rfl) mS kS bS .nil pass0 (pa_cons (pv 4) (pa_cons pe_int (pa_cons (pe_tup pa_nil) (pa_cons pe_int (pa_cons pe_int pa_nil)))))) (pe_lst (pa_cons pe_str (pa_cons pe_str (pa_cons pe_bl pa_nil)))) (nomark _)) (pss_one (ps_ret pe_bl)) pss_nil)
      (pss_cons (ps_for PassesOwn.never rfl (pi_list (pe_lst (pa_cons (pe_un un_neg pe_int) (pa_cons (pe_op op_add (pv 7) pe_int) (pa_cons pe_non (pa_cons pe_bl (pa_cons pe_str (pa_cons (pe_lst (pa_cons pe_int pa_nil)) (pa_cons (pe_op op_pow pe_int pe_int) pa_nil))))))))) (pg_name (i := 8) scLaw.nd rfl (Or.inl rfl)) (pss_one (ps_if (pt_cmpR (op_neS hu0) (pe_callI GS hi hr7 (by rfl) mS kS bS .nil pass0 (pa_cons (pv 4) (pa_cons pe_int (pa_cons (pv 6) (pa_cons (pv 8) (pa_cons pe_non pa_nil)))))) (pe_lst (pa_cons pe_str (pa_cons (pe_callB (call_repr hi hu) (by rfl) rp PyProof.Rows.boot_repr (pa_cons (pv 8) pa_nil)) (pa_cons pe_bl pa_nil)))) (nomark _)) (pss_one (ps_ret pe_bl)) pss_nil)))
      (pss_cons (ps_for PassesOwn.never rfl (pi_list (pe_lst (pa_cons pe_non (pa_cons pe_int (pa_cons pe_str (pa_cons (pe_prop (pv 4) DC.cls prT GT hr2 bT .nil pass0 rfl) (pa_cons (pe_lst (pa_cons (pv 4) pa_nil)) pa_nil))))))) (pg_name (i := 8) scLaw.nd rfl (Or.inl rfl)) (pss_one (ps_if (pt_cmpR (op_neS hu0) (pe_callI GS hi hr7 (by rfl) mS kS bS .nil pass0 (pa_cons (pv 4) (pa_cons pe_int (pa_cons (pv 6) (pa_cons pe_int (pa_cons (pv 8) pa_nil)))))) (pe_lst (pa_cons pe_str (pa_cons (pv 8) (pa_cons pe_bl pa_nil)))) (nomark _)) (pss_one (ps_ret pe_bl)) pss_nil)))
      (pss_cons (ps_for PassesOwn.never rfl (pi_list (pe_lst (pa_cons pe_non (pa_cons pe_int (pa_cons pe_str (pa_cons pe_str (pa_cons pe_str (pa_cons pe_str (pa_cons pe_str (pa_cons (pe_lst (pa_cons pe_str pa_nil)) pa_nil)))))))))) (pg_name (i := 8) scLaw.nd rfl (Or.inl rfl)) (pss_one (ps_if (pt_cmpR (op_neS hu0) (pe_callI GS hi hr7 (by rfl) mS kS bS .nil pass0 (pa_cons (pv 4) (pa_cons pe_int (pa_cons (pv 6) (pa_cons (pv 8) (pa_cons pe_int pa_nil)))))) (pe_lst (pa_cons pe_str (pa_cons (pv 8) (pa_cons pe_bl pa_nil)))) (nomark _)) (pss_one (ps_ret pe_bl)) pss_nil)))
      (pss_one (ps_for PassesOwn.never rfl (pi_list (pe_lst (pa_cons pe_non (pa_cons pe_str (pa_cons (pe_lst (pa_cons pe_str (pa_cons pe_str pa_nil))) (pa_cons (pe_lst (pa_cons pe_str pa_nil)) (pa_cons (pe_lst (pa_cons pe_non pa_nil)) (pa_cons (pe_tup (pa_cons pe_str (pa_cons pe_str pa_nil))) (pa_cons (pe_lst (pa_cons (pe_lst (pa_cons pe_str pa_nil)) pa_nil)) (pa_cons pe_dnewK (pa_cons pe_int pa_nil))))))))))) (pg_name (i := 8) scLaw.nd rfl (Or.inl rfl)) (pss_one (ps_if (pt_cmpR (op_neS hu0) (pe_callI GS hi hr7 (by rfl) mS kS bS .nil pass0 (pa_cons (pv 4) (pa_cons pe_int (pa_cons (pv 6) (pa_cons (pv 8) (pa_cons pe_int pa_nil)))))) (pe_lst (pa_cons pe_str (pa_cons (pv 8) (pa_cons pe_bl pa_nil)))) (nomark _)) (pss_one (ps_ret pe_bl)) pss_nil)))))))))))))))
      (pss_one (ps_ret pe_bl)))), ?_⟩
    refine ⟨rfl, fun H0 s0 => ⟨_, rfl, iteF ?_⟩⟩
    have B := big
    refine ⟨_, rfl, sc, _, rfl, .inl (s0.seq hS), _, _, rfl, _, _, rfl, ?_⟩
    generalize hn : (if (if ((List.map V.int ns).length : Int) < 8 then ((List.map V.int ns).length : Int) else 8) > 1 then (if ((List.map V.int ns).length : Int) < 8 then ((List.map V.int ns).length : Int) else 8) else 1) = n
    have n12 : 1 ≤ n ∧ n ≤ 8 := by
      rw [← hn]
      split <;> split <;> omega
    refine ⟨n, rfl, by omega, by omega, for_it (walk_range (lo := 0) (n := n.toNat)) (fun i σ H2 => ∃ o1 o2 o3 o4 o5 o6 o7 o8 o9 : Option V, σ = [some (.ref sc), o1, o2, o3, o4, o5, o6, o7, o8, o9] ∧ Same H0 H2) ⟨_, _, _, _, _, _, _, _, _, rfl, Same.refl _⟩ (fun _ _ _ _ _ => trivial) ?_ ?_⟩
    · rintro i x σ H1 H2 hi2 ⟨o1, o2, o3, o4, o5, o6, o7, o8, o9, rfl, s2⟩ ⟨rfl, rfl⟩
      have z0 : (0 : Int) + ((i : Nat) : Int) = ((i : Nat) : Int) := Int.zero_add _
      show gName 1 (V.int ((0 : Int) + ((i : Nat) : Int))) _ _ _
      rw [z0]
      refine ⟨_, rfl, _, rfl, sc, ns, _, rfl, (s0.trans s2).seq hS, len, by omega, by omega, fun p pa pb H3 np s3 hp => ?_⟩
      refine ⟨_, rfl, by show 2 ≤ sizeLine; decide, fun ka hka => ?_⟩
      generalize g4 : upd H3 ka _ = H4
      have s4 : Same H3 H4 := g4 ▸ same_new hka
      have k4' : H4 ka = some (.lst (KS.map sv)) := g4 ▸ upd_same
      refine ⟨by show 1 ≤ sizeLine; decide, fun ma hma => ?_⟩
      generalize g6 : upd H4 ma _ = H6
      have s6 : Same H4 H6 := g6 ▸ same_new hma
      have m6 : H6 ma = some (.lst (MS.map sv)) := g6 ▸ upd_same
      have p6 : Pool H6 p pa pb := ⟨s6 _ _ (s4 _ _ hp.1), hp.2⟩
      have s26 : Same H2 H6 := s3.trans (s4.trans s6)
      refine ⟨p, ka, ma, pa, pb, rfl, p6, s6 _ _ k4', m6, fun v t H7 a7 b7 o7' p7 nd ft => ?_⟩
      have s27 : Same H2 H7 := fun x o e => o7' x o (fun z => by rw [z, np] at e; cases e) (s26 _ _ e)
      generalize (fun c => H6 c = none) = N at nd
      have g0 : t.wild := fits_wild (by decide +kernel) (by decide +kernel) (by decide) _ t 2 (Nat.le_refl _) ft
      have z20 : sz t ≤ 20 := Nat.le_trans (fits_size ft) (by decide)
      refine ⟨_, rfl, v, t, N, rfl, nd, g0, z20, fun H8 s8 => ?_⟩
      obtain ⟨lT, sT, rT⟩ := wild_text g0 (by omega)
      refine ⟨toS (txt t), t.rows srt 0, rfl, lT, sT, rT, wild_few g0 (by omega), fun dd H9 s9 dc => ?_⟩
      have s79 := s8.trans s9
      refine ⟨_, rfl, by show 0 ≤ sizeLine; decide, fun eA nA => ?_⟩
      generalize gA : upd H9 eA _ = HA
      have sA : Same H9 HA := gA ▸ same_new nA
      have mA : HA eA = some (.tup []) := gA ▸ upd_same
      have s7A := s79.trans sA
      refine ⟨v, .ref eA, t, N, [], rfl, NodeAt.move (fun _ h => h) (fun c u _ e => s7A _ _ e) t v nd, z20, ⟨eA, rfl, mA⟩, by show 0 + 20 ≤ 150; decide, fun PD pw HB nB sB mB pwB => ?_⟩
      have s7B := s7A.trans sB
      have pB : Pool HB p a7 b7 := ⟨s7B _ _ p7.1, p7.2⟩
      have nl : (t.nodes []).length = sz t := nodes_len t [] 0
      have pwl : pw.length = sz t := by rw [pwB.length, List.length_map, nl]
      have szp := sz_pos t
      refine ⟨_, _, rfl, _, rfl, _, rfl, _, rfl, PD, _, rfl, .inl (SqL.of mB), p, _, a7, b7, rfl, pB, by omega, by omega, fun ii a3 b3 i0 i1 q1 q2 q3 => ?_⟩
      obtain ⟨j, rfl⟩ : ∃ j : Nat, ii = (j : Int) := ⟨ii.toNat, by omega⟩
      generalize gC : upd HB p _ = HC
      have kC : Keep HB HC := gC ▸ Keep.put pB.1
      have mC : HC PD = some (.lst pw) := by
        rw [← gC, upd_ne (fun z => by rw [z] at nB; rw [s7A _ _ p7.1] at nB; cases nB)]
        exact mB
      have s2C : Same H2 HC := fun c o e => by
        rw [← gC, upd_ne (fun z => by rw [z, np] at e; cases e)]
        exact s7B _ _ (s27 _ _ e)
      clear gC
      have il : j < (t.nodes []).length := by omega
      obtain ⟨⟨q, u⟩, hn'⟩ : ∃ x, (t.nodes [])[j]? = some x := ⟨_, List.getElem?_eq_getElem il⟩
      obtain ⟨px, hx, pth⟩ := prd_get2 pwB (i := j) (r := q) (by rw [List.getElem?_map, hn']; rfl)
      have pthC : PthAt HC px q := pth.keep kC
      obtain ⟨r, er, hat⟩ := nodes_at t [] (q, u) (List.mem_of_getElem? hn')
      have er : q = r := er
      subst er
      have hat : t.at_ q = some u := hat
      have small := at_small q t u 2 ft hat
      have no := node_of t j q u hn'
      have ql : q.length ≤ 20 := by
        have m : (t.rows srt 0).getD j (0, [], []) ∈ t.rows srt 0 := by
          rw [List.getD_eq_getElem?_getD, List.getElem?_eq_getElem no.lt]
          exact List.getElem_mem ..
        obtain ⟨w1, _⟩ := wild_rows _ t 0 (Nat.le_refl _) g0 _ m
        rw [no.row] at w1
        have w1 : q.length + 1 ≤ 0 + sz t := w1
        omega
      have dcC : DocAt C HC dd (t.rows srt 0) := (dc.same (sA.trans sB)).keep kC
      obtain ⟨dx, _, _, _, _, _, hdd, _⟩ := id dcC
      refine ⟨PD, _, _, _, rfl, rfl, SqL.of mC, atI_nat hx, ?_⟩
      obtain ⟨pq, rfl, hpq⟩ := id pthC
      refine ⟨_, rfl, dd, dx, _, rfl, hdd, rfl, _, rfl, dd, _, .ref pq, q, j, rfl, dcC, pthC, by omega, no.lt, no.place, fun HD sD => ?_⟩
      have w3 : (kidsM (t.rows srt 0) j).length ≤ 3 := by
        obtain ⟨d', fu⟩ := at_fits q t u 2 ft hat
        rw [no.kids]
        exact kids_small fu
      have wk : (kidsM (t.rows srt 0) j).length = u.kids.len := no.kids
      generalize hw : (kidsM (t.rows srt 0) j).length = wd at w3 wk ⊢
      have dcD := dcC.same sD
      have hqD : HD pq = some (.tup (q.map nv)) := sD _ _ hpq
      -- what is no path
      refine ⟨by show 1 ≤ sizeLine; decide, fun l0 n0 => ?_⟩
      generalize h0 : upd HD l0 _ = A0
      have t0 : Same HD A0 := h0 ▸ same_new n0
      have c0 : A0 l0 = some (.lst [.int 0]) := h0 ▸ upd_same
      refine ⟨_, rfl, _, _, rfl, rfl, by show 2 ≤ sizeLine; decide, fun l1 n1 => ?_⟩
      generalize h1 : upd A0 l1 _ = A1
      have t1 : Same A0 A1 := h1 ▸ same_new n1
      have c1 : A1 l1 = some (.tup ([((wd : Nat) : Int) + 9, 0].map V.int)) := h1 ▸ upd_same
      refine ⟨_, rfl, _, rfl, by show 1 ≤ sizeLine; decide, fun l2 n2 => ?_⟩
      generalize h2 : upd A1 l2 _ = A2
      have t2 : Same A1 A2 := h2 ▸ same_new n2
      have c2 : A2 l2 = some (.tup [nv wd]) := h2 ▸ upd_same
      refine ⟨pq, l2, _, _, rfl, rfl, (t0.trans (t1.trans t2)) _ _ hqD, c2, by rw [List.length_map]; show _ + 1 ≤ _; omega, fun l3 A3 t3 c3 => ?_⟩
      refine ⟨_, rfl, _, rfl, by show 1 ≤ sizeLine; decide, fun l4 n4 => ?_⟩
      generalize h4 : upd A3 l4 _ = A4
      have t4 : Same A3 A4 := h4 ▸ same_new n4
      have c4 : A4 l4 = some (.tup [.int (-1)]) := h4 ▸ upd_same
      have tD4 : Same HD A4 := t0.trans (t1.trans (t2.trans (t3.trans t4)))
      refine ⟨pq, l4, _, _, rfl, rfl, tD4 _ _ hqD, c4, by rw [List.length_map]; show _ + 1 ≤ _; omega, fun l5 A5 t5 c5 => ?_⟩
      refine ⟨by show 1 ≤ sizeLine; decide, fun l6 n6 => ?_⟩
      generalize h6 : upd A5 l6 _ = A6
      have t6 : Same A5 A6 := h6 ▸ same_new n6
      have c6 : A6 l6 = some (.tup [.bl true]) := h6 ▸ upd_same
      refine ⟨by show 1 ≤ sizeLine; decide, fun l7 n7 => ?_⟩
      generalize h7 : upd A6 l7 _ = A7
      have t7 : Same A6 A7 := h7 ▸ same_new n7
      have c7 : A7 l7 = some (.tup [.non]) := h7 ▸ upd_same
      refine fun d8 n8 => ?_
      generalize h8 : upd A7 d8 _ = A8
      have t8 : Same A7 A8 := h8 ▸ same_new n8
      have c8 : A8 d8 = some (.dK []) := h8 ▸ upd_same
      refine ⟨by show 10 ≤ sizeLine; decide, fun q9 n9 => ?_⟩
      generalize h9 : upd A8 q9 _ = A9
      have t9 : Same A8 A9 := h9 ▸ same_new n9
      have m9 : A9 q9 = some (.lst [.non, .int 5, .str "", .ref l0, .ref l1, .ref l3, .ref l5, .ref l6, .ref l7, .ref d8]) := h9 ▸ upd_same
      have u8 := t8.trans t9
      have u7 := t7.trans u8
      have u6 := t6.trans u7
      have u5 := t5.trans u6
      have u4 := t4.trans u5
      have u3 := t3.trans u4
      have u2 := t2.trans u3
      have u1 := t1.trans u2
      have uD := t0.trans u1
      have nw : (valV (plc (pathsM (t.rows srt 0)) (t.rows srt 0).length) (pk (q ++ [wd]))).isSome = false := by
        refine not_place ?_
        rw [at_snoc q t u wd hat]
        exact kids_none (by omega)
      have n9' : (valV (plc (pathsM (t.rows srt 0)) (t.rows srt 0).length) (pk [wd + 9, 0])).isSome = false := by
        have := kids_small ft
        exact not_place (kids_none (by omega))
      have odd := odd1 (K := K) (H := A9) (rs := t.rows srt 0) (u1 _ _ c0) (u2 _ _ c1) (u4 _ _ c3) (u6 _ _ c5) (u7 _ _ c6) (u8 _ _ c7) (t9 _ _ c8) small w3 ql nw n9'
      refine ⟨q9, rfl, ⟨_, SqL.of m9⟩, for_it (walk_list (K := K) (a := q9) (xs := [.non, .int 5, .str "", .ref l0, .ref l1, .ref l3, .ref l5, .ref l6, .ref l7, .ref d8])) (fun k σ H' => ∃ o8 o9 : Option V, σ = [some (.ref sc), some (.int ((i : Nat) : Int)), some (.ref p), some v, some (.ref dd), some (.ref PD), some (.ref pq), some (nv wd), o8, o9] ∧ Same A9 H')
        ⟨_, _, rfl, Same.refl _⟩ (fun k σ H' _ ⟨_, _, _, s⟩ => s.seq (SqL.of m9)) ?_ ?_⟩
      · rintro k x σ Ha Hb hk ⟨o8, o9, rfl, sa⟩ ⟨rfl, hx⟩
        obtain ⟨d, od⟩ := odd x (List.mem_of_getElem? hx)
        refine ⟨8, rfl, by decide, by decide, for_it (walk_range (lo := 0) (n := 8)) (fun k2 σ H' => ∃ o9 : Option V, σ = [some (.ref sc), some (.int ((i : Nat) : Int)), some (.ref p), some v, some (.ref dd), some (.ref PD), some (.ref pq), some (nv wd), some x, o9] ∧ Same Hb H') ⟨_, rfl, Same.refl _⟩ (fun _ _ _ _ _ => trivial) ?_ ?_⟩
        · rintro k2 y σ Hc Hd hk2 ⟨o9', rfl, sc2⟩ ⟨rfl, rfl⟩
          have z1 : (0 : Int) + ((k2 : Nat) : Int) = ((k2 : Nat) : Int) := Int.zero_add _
          show gName 9 (V.int ((0 : Int) + ((k2 : Nat) : Int))) _ _ _
          rw [z1]
          obtain ⟨b1, b2⟩ := od _ (sa.trans sc2)
          refine ⟨_, rfl, _, rfl, _, rfl, dd, _, k2, x, .non, .non, _, rfl, dcD.same (uD.trans (sa.trans sc2)), .path (by omega) (.inl b1) b2, fun p5 He np5 se me => ?_⟩
          obtain ⟨_, r1, r2, r3, r4⟩ := od _ (sa.trans (sc2.trans se))
          refine ⟨_, rfl, x, d, rfl, r1, r2, r3, r4, by show 3 ≤ sizeLine; decide, fun p6 n6' => ⟨p5, p6, _, rfl, rfl, SqL.of ((same_new n6') _ _ me), SqL.of upd_same, flatS, false, rfl, iteF ?_⟩⟩
          exact ⟨_, rfl, sc2.trans (se.trans (same_new n6'))⟩
        · rintro σ Hc ⟨o9', rfl, sc2⟩
          exact ⟨_, _, rfl, sa.trans sc2⟩
      rintro σ B0 ⟨o8, o9, rfl, v0⟩
      have w0 := uD.trans v0
      -- the root is not removed
      refine ⟨_, rfl, by show 0 ≤ sizeLine; decide, fun e1 k1 => ?_⟩
      generalize j1 : upd B0 e1 _ = B1
      have v1 : Same B0 B1 := j1 ▸ same_new k1
      have f1 : B1 e1 = some (.tup []) := j1 ▸ upd_same
      refine ⟨dd, _, 5, .ref e1, .int 0, .int 0, _, rfl, dcD.same (w0.trans v1), .path (by decide) (.inr ⟨rfl, good_node (root_node _) ⟨e1, rfl, f1⟩ (by decide)⟩) (shows_of (d := .tuple []) (.inl (.tup (.inl (.inl f1)) .nil)) (by decide +kernel)), fun p2 B2 k2 v2 f2 => ?_⟩
      have shn : (PyData.tuple []).shown = "()" := by decide +kernel
      rw [shn] at f2
      refine ⟨by show 3 ≤ sizeLine; decide, fun p3 k3 => ⟨p2, p3, _, rfl, rfl, SqL.of ((same_new k3) _ _ f2), SqL.of upd_same, flatS, false, rfl, iteF ?_⟩⟩
      generalize j3 : upd B2 p3 _ = B3
      have w3' : Same HD B3 := w0.trans (v1.trans (v2.trans (j3 ▸ same_new k3)))
      clear j3
      -- numbers
      refine ⟨_, rfl, _, rfl, _, _, rfl, rfl, by show 1 ≤ sizeLine; decide, fun m0 k4 => ?_⟩
      generalize j4 : upd B3 m0 _ = B4
      have v4 : Same B3 B4 := j4 ▸ same_new k4
      have f4 : B4 m0 = some (.lst [.int 0]) := j4 ▸ upd_same
      refine ⟨_, _, rfl, rfl, pow20, by show 7 ≤ sizeLine; decide, fun q5 k5 => ?_⟩
      generalize j5 : upd B4 q5 _ = B5
      have v5 : Same B4 B5 := j5 ▸ same_new k5
      have f5 : B5 q5 = some (.lst [V.int (-1), .int (((wd : Nat) : Int) + 1), .non, .bl true, .str "0", .ref m0, .int (10 ^ 20)]) := j5 ▸ upd_same
      have w5 := w3'.trans (v4.trans v5)
      have odd := odd2 (K := K) (H := B5) (v5 _ _ f4) w3
      refine ⟨q5, rfl, ⟨_, SqL.of f5⟩, for_it (walk_list (K := K) (a := q5) (xs := [V.int (-1), .int (((wd : Nat) : Int) + 1), .non, .bl true, .str "0", .ref m0, .int (10 ^ 20)])) (fun k σ H' => ∃ o8 o9 : Option V, σ = [some (.ref sc), some (.int ((i : Nat) : Int)), some (.ref p), some v, some (.ref dd), some (.ref PD), some (.ref pq), some (nv wd), o8, o9] ∧ Same B5 H')
        ⟨_, _, rfl, Same.refl _⟩ (fun k σ H' _ ⟨_, _, _, s⟩ => s.seq (SqL.of f5)) ?_ ?_⟩
      · rintro k x σ Ha Hb hk ⟨o8, o9, rfl, sa⟩ ⟨rfl, hx⟩
        have wx := w5.trans sa
        have gd : Good Hb (t.rows srt 0) (.ref pq) j := ⟨q, ⟨pq, rfl, wx _ _ hqD⟩, by omega, no.place⟩
        obtain ⟨d, od⟩ := odd x (List.mem_of_getElem? hx)
        obtain ⟨b1, b2⟩ := od _ sa
        refine ⟨_, rfl, _, rfl, _, rfl, dd, _, 4, .ref pq, x, .non, _, rfl, dcD.same wx, .num gd no.lt (by rw [hw]; exact b1) b2, fun p5 He np5 se me => ?_⟩
        obtain ⟨_, r1, r2, r3, r4⟩ := od _ (sa.trans se)
        refine ⟨_, rfl, x, d, rfl, r1, r2, r3, r4, by show 3 ≤ sizeLine; decide, fun p6 n6' => ⟨p5, p6, _, rfl, rfl, SqL.of ((same_new n6') _ _ me), SqL.of upd_same, flatS, false, rfl, iteF ?_⟩⟩
        exact ⟨_, _, rfl, sa.trans (se.trans (same_new n6'))⟩
      rintro σ C0 ⟨o8, o9, rfl, x0⟩
      have y0 := w5.trans x0
      clear odd m0 k4 j4 v4 f4 q5 k5 j5 v5 f5
      -- parts
      obtain ⟨dx3, _, _, _, _, _, hdd3, _⟩ := id (dcD.same y0)
      refine ⟨_, rfl, dd, dx3, _, rfl, hdd3, dd, _, rfl, dcD.same y0, _, rfl, by show 1 ≤ sizeLine; decide, fun m0 k4 => ?_⟩
      generalize j4 : upd C0 m0 _ = B4
      have v4 : Same C0 B4 := j4 ▸ same_new k4
      have f4 : B4 m0 = some (.lst [.ref dd]) := j4 ▸ upd_same
      refine ⟨by show 5 ≤ sizeLine; decide, fun q5 k5 => ?_⟩
      generalize j5 : upd B4 q5 _ = B5
      have v5 : Same B4 B5 := j5 ▸ same_new k5
      have f5 : B5 q5 = some (.lst [V.non, .int 5, .str "a", sv (outM (t.rows srt 0)), .ref m0]) := j5 ▸ upd_same
      have w6 := y0.trans (v4.trans v5)
      have odd := odd3 (K := K) D.nodoc (H := B5) (t := toS (outM (t.rows srt 0))) (v5 _ _ f4)
      refine ⟨q5, rfl, ⟨_, SqL.of f5⟩, for_it (walk_list (K := K) (a := q5) (xs := [V.non, .int 5, .str "a", sv (outM (t.rows srt 0)), .ref m0])) (fun k σ H' => ∃ o8 o9 : Option V, σ = [some (.ref sc), some (.int ((i : Nat) : Int)), some (.ref p), some v, some (.ref dd), some (.ref PD), some (.ref pq), some (nv wd), o8, o9] ∧ Same B5 H')
        ⟨_, _, rfl, Same.refl _⟩ (fun k σ H' _ ⟨_, _, _, s⟩ => s.seq (SqL.of f5)) ?_ ?_⟩
      · rintro k x σ Ha Hb hk ⟨o8, o9, rfl, sa⟩ ⟨rfl, hx⟩
        have wx := w6.trans sa
        have gd : Good Hb (t.rows srt 0) (.ref pq) j := ⟨q, ⟨pq, rfl, wx _ _ hqD⟩, by omega, no.place⟩
        obtain ⟨sb, od⟩ := odd x (List.mem_of_getElem? hx)
        refine ⟨_, rfl, _, rfl, _, rfl, dd, _, 4, .ref pq, .int 0, x, _, rfl, dcD.same wx, .part (j := 0) gd no.lt (Nat.zero_le _) (fun H5 s5 => od.choose_spec.1 _ (sa.trans s5)) od.choose_spec.2, fun p5 He np5 se me => ?_⟩
        refine ⟨_, rfl, by show 3 ≤ sizeLine; decide, fun p6 n6' => ⟨p5, p6, _, rfl, rfl, SqL.of ((same_new n6') _ _ me), SqL.of upd_same, flatV sb, false, rfl, iteF ?_⟩⟩
        exact ⟨_, _, rfl, sa.trans (se.trans (same_new n6'))⟩
      rintro σ C1 ⟨o8, o9, rfl, x1⟩
      have y1 := w6.trans x1
      clear odd m0 k4 j4 v4 f4 q5 k5 j5 v5 f5
      -- kinds
      refine ⟨by show 1 ≤ sizeLine; decide, fun m0 k4 => ?_⟩
      generalize j4 : upd C1 m0 _ = B4
      have v4 : Same C1 B4 := j4 ▸ same_new k4
      have f4 : B4 m0 = some (.lst [.str "a"]) := j4 ▸ upd_same
      refine ⟨by show 8 ≤ sizeLine; decide, fun q5 k5 => ?_⟩
      generalize j5 : upd B4 q5 _ = B5
      have v5 : Same B4 B5 := j5 ▸ same_new k5
      have f5 : B5 q5 = some (.lst [V.non, .int 5, .str "", .str "A", .str "a1", .str "abcdefghi", .str "a b", .ref m0]) := j5 ▸ upd_same
      have w7 := y1.trans (v4.trans v5)
      have odd := odd4 (K := K) (H := B5) (v5 _ _ f4)
      refine ⟨q5, rfl, ⟨_, SqL.of f5⟩, for_it (walk_list (K := K) (a := q5) (xs := [V.non, .int 5, .str "", .str "A", .str "a1", .str "abcdefghi", .str "a b", .ref m0])) (fun k σ H' => ∃ o8 o9 : Option V, σ = [some (.ref sc), some (.int ((i : Nat) : Int)), some (.ref p), some v, some (.ref dd), some (.ref PD), some (.ref pq), some (nv wd), o8, o9] ∧ Same B5 H')
        ⟨_, _, rfl, Same.refl _⟩ (fun k σ H' _ ⟨_, _, _, s⟩ => s.seq (SqL.of f5)) ?_ ?_⟩
      · rintro k x σ Ha Hb hk ⟨o8, o9, rfl, sa⟩ ⟨rfl, hx⟩
        have wx := w7.trans sa
        have gd : Good Hb (t.rows srt 0) (.ref pq) j := ⟨q, ⟨pq, rfl, wx _ _ hqD⟩, by omega, no.place⟩
        obtain ⟨sb, od⟩ := odd x (List.mem_of_getElem? hx)
        refine ⟨_, rfl, _, rfl, _, rfl, dd, _, 6, .ref pq, x, .int 0, _, rfl, dcD.same wx, .kind gd (od _ sa), fun p5 He np5 se me => ?_⟩
        refine ⟨_, rfl, by show 3 ≤ sizeLine; decide, fun p6 n6' => ⟨p5, p6, _, rfl, rfl, SqL.of ((same_new n6') _ _ me), SqL.of upd_same, flatV sb, false, rfl, iteF ?_⟩⟩
        exact ⟨_, _, rfl, sa.trans (se.trans (same_new n6'))⟩
      rintro σ C2 ⟨o8, o9, rfl, x2⟩
      have y2 := w7.trans x2
      clear odd m0 k4 j4 v4 f4 q5 k5 j5 v5 f5
      -- marks
      refine ⟨by show 2 ≤ sizeLine; decide, fun m1 k1' => ?_⟩
      generalize j1' : upd C2 m1 _ = D1
      have a1 : Same C2 D1 := j1' ▸ same_new k1'
      have b1 : D1 m1 = some (.lst [.str "hot", .str "hot"]) := j1' ▸ upd_same
      refine ⟨by show 1 ≤ sizeLine; decide, fun m2 k2' => ?_⟩
      generalize j2' : upd D1 m2 _ = D2
      have a2 : Same D1 D2 := j2' ▸ same_new k2'
      have b2 : D2 m2 = some (.lst [.str "A"]) := j2' ▸ upd_same
      refine ⟨by show 1 ≤ sizeLine; decide, fun m3 k3' => ?_⟩
      generalize j3' : upd D2 m3 _ = D3
      have a3 : Same D2 D3 := j3' ▸ same_new k3'
      have b3 : D3 m3 = some (.lst [.non]) := j3' ▸ upd_same
      refine ⟨by show 2 ≤ sizeLine; decide, fun m4 k4' => ?_⟩
      generalize j4' : upd D3 m4 _ = D4
      have a4 : Same D3 D4 := j4' ▸ same_new k4'
      have b4 : D4 m4 = some (.tup [.str "a", .str ""]) := j4' ▸ upd_same
      refine ⟨by show 1 ≤ sizeLine; decide, fun m5 k5' => ?_⟩
      generalize j5' : upd D4 m5 _ = D5
      have a5 : Same D4 D5 := j5' ▸ same_new k5'
      have b5 : D5 m5 = some (.lst [.str "a"]) := j5' ▸ upd_same
      refine ⟨by show 1 ≤ sizeLine; decide, fun m6 k6' => ?_⟩
      generalize j6' : upd D5 m6 _ = D6
      have a6 : Same D5 D6 := j6' ▸ same_new k6'
      have b6 : D6 m6 = some (.lst [.ref m5]) := j6' ▸ upd_same
      refine fun m8 k8' => ?_
      generalize j8' : upd D6 m8 _ = D8
      have a8 : Same D6 D8 := j8' ▸ same_new k8'
      have b8 : D8 m8 = some (.dK []) := j8' ▸ upd_same
      refine ⟨by show 9 ≤ sizeLine; decide, fun q5 k5 => ?_⟩
      generalize j5 : upd D8 q5 _ = B5
      have v5 : Same D8 B5 := j5 ▸ same_new k5
      have f5 : B5 q5 = some (.lst [V.non, .str "hot", .ref m1, .ref m2, .ref m3, .ref m4, .ref m6, .ref m8, .int 5]) := j5 ▸ upd_same
      have z8 := a8.trans v5
      have z6 := a6.trans z8
      have z5 := a5.trans z6
      have z4 := a4.trans z5
      have z3 := a3.trans z4
      have z2 := a2.trans z3
      have w8 := y2.trans (a1.trans z2)
      have odd := odd5 (K := K) (H := B5) (z2 _ _ b1) (z3 _ _ b2) (z4 _ _ b3) (z5 _ _ b4) (z6 _ _ b5) (z8 _ _ b6) (v5 _ _ b8)
      refine ⟨q5, rfl, ⟨_, SqL.of f5⟩, for_it (walk_list (K := K) (a := q5) (xs := [V.non, .str "hot", .ref m1, .ref m2, .ref m3, .ref m4, .ref m6, .ref m8, .int 5])) (fun k σ H' => ∃ o8 o9 : Option V, σ = [some (.ref sc), some (.int ((i : Nat) : Int)), some (.ref p), some v, some (.ref dd), some (.ref PD), some (.ref pq), some (nv wd), o8, o9] ∧ Same B5 H')
        ⟨_, _, rfl, Same.refl _⟩ (fun k σ H' _ ⟨_, _, _, s⟩ => s.seq (SqL.of f5)) ?_ ?_⟩
      · rintro k x σ Ha Hb hk ⟨o8, o9, rfl, sa⟩ ⟨rfl, hx⟩
        have wx := w8.trans sa
        have gd : Good Hb (t.rows srt 0) (.ref pq) j := ⟨q, ⟨pq, rfl, wx _ _ hqD⟩, by omega, no.place⟩
        obtain ⟨sb, od⟩ := odd x (List.mem_of_getElem? hx)
        refine ⟨_, rfl, _, rfl, _, rfl, dd, _, 7, .ref pq, x, .int 0, _, rfl, dcD.same wx, .marks gd (od _ sa), fun p5 He np5 se me => ?_⟩
        refine ⟨_, rfl, by show 3 ≤ sizeLine; decide, fun p6 n6' => ⟨p5, p6, _, rfl, rfl, SqL.of ((same_new n6') _ _ me), SqL.of upd_same, flatV sb, false, rfl, iteF ?_⟩⟩
        exact ⟨_, _, rfl, sa.trans (se.trans (same_new n6'))⟩
      rintro σ C3 ⟨o8, o9, rfl, x3⟩
      exact ⟨_, _, _, _, _, _, _, _, _, rfl, s2.trans (s2C.trans (sD.trans (w8.trans x3)))⟩
    · rintro σ H2 ⟨o1, o2, o3, o4, o5, o6, o7, o8, o9, rfl, s2⟩
      exact fin _
end
end K04

namespace K04
open PySem L2 DR DM TL
theorem exm_one {K : PySem.W.Frag} {S T : Addr} {r : Bool} (b : PySem.W.subIn K (.ref T) (.type "BaseException") = some true) (i : (PySem.W.clsIn K T).isSome = true) (t : PySem.W.typeIn K (.ref T) = some (.type "type")) (s : PySem.W.subIn K (.ref S) (.ref T) = some r) : PySem.W.exmOne K (.ref S) (.ref T) = some r := by
  unfold PySem.W.exmOne PySem.W.kitCls
  simp [b, i, t, s]
abbrev sIP : Stmt := inClass (top 12) 0
theorem iniP {P : Program} {w : World} {K : PySem.W.Frag} {mg : Str → Option Value} {base : Heap} {C f : Addr} {fd : FuncData} (F : Fun K "__init__" "InvalidPath.__init__" sIP f fd) (S : XSt K C) (no : PySem.W.findIn K (.ref C) "path" = some none) : FnOk P w K mg base CX0 1 f fd ["self", "path"] (spIni C "path") := by
  have sc : FnScope ["self", "path"] ["self", "path"] (defScope sIP) := ⟨rfl, rfl, rfl, by decide +kernel, rfl, by decide +kernel, by decide +kernel⟩
  refine F.ok sc (fun vs H Q E h => ?_) (fun cdv A outer s H vs Q E hr h => ?_)
  · obtain ⟨_, _, rfl, _⟩ := h
    rfl
  · obtain ⟨a, v, rfl, ha, fin⟩ := h
    exact ⟨_, pss_one (ps_ostB (pv 0) (pv 1)), _, rfl, _, rfl, a, C, rfl, S, no, ha, fin⟩
abbrev sIN : Stmt := inClass (top 13) 0
theorem iniN {P : Program} {w : World} {K : PySem.W.Frag} {mg : Str → Option Value} {base : Heap} {C f : Addr} {fd : FuncData} (F : Fun K "__init__" "InvalidNumber.__init__" sIN f fd) (S : XSt K C) (no : PySem.W.findIn K (.ref C) "value" = some none) : FnOk P w K mg base CX0 1 f fd ["self", "value"] (spIni C "value") := by
  have sc : FnScope ["self", "value"] ["self", "value"] (defScope sIN) := ⟨rfl, rfl, rfl, by decide +kernel, rfl, by decide +kernel, by decide +kernel⟩
  refine F.ok sc (fun vs H Q E h => ?_) (fun cdv A outer s H vs Q E hr h => ?_)
  · obtain ⟨_, _, rfl, _⟩ := h
    rfl
  · obtain ⟨a, v, rfl, ha, fin⟩ := h
    exact ⟨_, pss_one (ps_ostB (pv 0) (pv 1)), _, rfl, _, rfl, a, C, rfl, S, no, ha, fin⟩
abbrev sIA : Stmt := inClass (top 14) 0
theorem iniA {P : Program} {w : World} {K : PySem.W.Frag} {mg : Str → Option Value} {base : Heap} {C f : Addr} {fd : FuncData} (F : Fun K "__init__" "InvalidPart.__init__" sIA f fd) (S : XSt K C) (no : PySem.W.findIn K (.ref C) "value" = some none) : FnOk P w K mg base CX0 1 f fd ["self", "value"] (spIni C "value") := by
  have sc : FnScope ["self", "value"] ["self", "value"] (defScope sIA) := ⟨rfl, rfl, rfl, by decide +kernel, rfl, by decide +kernel, by decide +kernel⟩
  refine F.ok sc (fun vs H Q E h => ?_) (fun cdv A outer s H vs Q E hr h => ?_)
  · obtain ⟨_, _, rfl, _⟩ := h
    rfl
  · obtain ⟨a, v, rfl, ha, fin⟩ := h
    exact ⟨_, pss_one (ps_ostB (pv 0) (pv 1)), _, rfl, _, rfl, a, C, rfl, S, no, ha, fin⟩
abbrev sIL : Stmt := inClass (top 15) 0
theorem iniL {P : Program} {w : World} {K : PySem.W.Frag} {mg : Str → Option Value} {base : Heap} {C f : Addr} {fd : FuncData} (F : Fun K "__init__" "LimitExceeded.__init__" sIL f fd) (S : XSt K C) (no : PySem.W.findIn K (.ref C) "limit" = some none) : FnOk P w K mg base CX0 1 f fd ["self", "limit"] (spIni C "limit") := by
  have sc : FnScope ["self", "limit"] ["self", "limit"] (defScope sIL) := ⟨rfl, rfl, rfl, by decide +kernel, rfl, by decide +kernel, by decide +kernel⟩
  refine F.ok sc (fun vs H Q E h => ?_) (fun cdv A outer s H vs Q E hr h => ?_)
  · obtain ⟨_, _, rfl, _⟩ := h
    rfl
  · obtain ⟨a, v, rfl, ha, fin⟩ := h
    exact ⟨_, pss_one (ps_ostB (pv 0) (pv 1)), _, rfl, _, rfl, a, C, rfl, S, no, ha, fin⟩
theorem all_mk {l : PySem.W.OpenLaw} {w : World} {K : PySem.W.Frag} {h : Heap} {mg : Str → Option Value} {fa C CS CP CN CA CL f_init f_textP f_sizeP f_hasP f_kindP f_marksP f_widthP f_partP f_insP f_remP f_renP f_marP f_placeP f_endP f_kidsP f_int f_between f_name f_names f_cut f_parse f_rows f_head f_text f_paths f_moved f_isPath f_pool f_take f_node f_ltext f_lpaths f_called f_said f_limits f_law f_IP f_IN f_IA f_IL p_textP p_sizeP : Addr} (X : K.In h) (G : h.Ns mainGlobals mg) (hfa : mg "law" = some (.ref fa))
    {od_init an_init od_textP an_textP od_sizeP an_sizeP od_hasP an_hasP od_kindP an_kindP od_marksP an_marksP od_widthP an_widthP od_partP an_partP od_insP an_insP od_remP an_remP od_renP an_renP od_marP an_marP od_placeP an_placeP od_endP an_endP od_kidsP an_kidsP od_int an_int od_between an_between od_name an_name od_names an_names od_cut an_cut od_parse an_parse od_rows an_rows od_head an_head od_text an_text od_paths an_paths od_moved an_moved od_isPath an_isPath od_pool an_pool od_take an_take od_node an_node od_ltext an_ltext od_lpaths an_lpaths od_called an_called od_said an_said od_limits an_limits od_law an_law od_IP an_IP od_IN an_IN od_IA an_IA od_IL an_IL : Option Addr} {sl_init sl_textP sl_sizeP sl_hasP sl_kindP sl_marksP sl_widthP sl_partP sl_insP sl_remP sl_renP sl_marP sl_placeP sl_endP sl_kidsP sl_int sl_between sl_name sl_names sl_cut sl_parse sl_rows sl_head sl_text sl_paths sl_moved sl_isPath sl_pool sl_take sl_node sl_ltext sl_lpaths sl_called sl_said sl_limits sl_law sl_IP sl_IN sl_IA sl_IL : Array (Option Value)} {oc_init kV_init dc_init pm_init cd_init ct_init oc_textP kV_textP dc_textP pm_textP cd_textP ct_textP oc_sizeP kV_sizeP dc_sizeP pm_sizeP cd_sizeP ct_sizeP oc_hasP kV_hasP dc_hasP pm_hasP cd_hasP ct_hasP oc_kindP kV_kindP dc_kindP pm_kindP cd_kindP ct_kindP oc_marksP kV_marksP dc_marksP pm_marksP cd_marksP ct_marksP oc_widthP kV_widthP dc_widthP pm_widthP cd_widthP ct_widthP oc_partP kV_partP dc_partP pm_partP cd_partP ct_partP oc_insP kV_insP dc_insP pm_insP cd_insP ct_insP oc_remP kV_remP dc_remP pm_remP cd_remP ct_remP oc_renP kV_renP dc_renP pm_renP cd_renP ct_renP oc_marP kV_marP dc_marP pm_marP cd_marP ct_marP oc_placeP kV_placeP dc_placeP pm_placeP cd_placeP ct_placeP oc_endP kV_endP dc_endP pm_endP cd_endP ct_endP oc_kidsP kV_kidsP dc_kidsP pm_kidsP cd_kidsP ct_kidsP oc_int kV_int dc_int pm_int cd_int ct_int oc_between kV_between dc_between pm_between cd_between ct_between oc_name kV_name dc_name pm_name cd_name ct_name oc_names kV_names dc_names pm_names cd_names ct_names oc_cut kV_cut dc_cut pm_cut cd_cut ct_cut oc_parse kV_parse dc_parse pm_parse cd_parse ct_parse oc_rows kV_rows dc_rows pm_rows cd_rows ct_rows oc_head kV_head dc_head pm_head cd_head ct_head oc_text kV_text dc_text pm_text cd_text ct_text oc_paths kV_paths dc_paths pm_paths cd_paths ct_paths oc_moved kV_moved dc_moved pm_moved cd_moved ct_moved oc_isPath kV_isPath dc_isPath pm_isPath cd_isPath ct_isPath oc_pool kV_pool dc_pool pm_pool cd_pool ct_pool oc_take kV_take dc_take pm_take cd_take ct_take oc_node kV_node dc_node pm_node cd_node ct_node oc_ltext kV_ltext dc_ltext pm_ltext cd_ltext ct_ltext oc_lpaths kV_lpaths dc_lpaths pm_lpaths cd_lpaths ct_lpaths oc_called kV_called dc_called pm_called cd_called ct_called oc_said kV_said dc_said pm_said cd_said ct_said oc_limits kV_limits dc_limits pm_limits cd_limits ct_limits oc_law kV_law dc_law pm_law cd_law ct_law oc_IP kV_IP dc_IP pm_IP cd_IP ct_IP oc_IN kV_IN dc_IN pm_IN cd_IN ct_IN oc_IA kV_IA dc_IA pm_IA cd_IA ct_IA oc_IL kV_IL dc_IL pm_IL cd_IL ct_IL u_LETTERS u_LONGEST_NAME u_MOST_NODES : Value} {rest_textP rest_sizeP : List Value}
    (aC : PySem.W.nsIn K mainGlobals "Document" = some (some (.ref C)))
    (pgC : PySem.W.plainGet K C Str.empty = true)
    (hdC : PySem.W.hasDictIn K C = true)
    (poC : PySem.W.plainOver K C = true)
    (saC : PySem.W.findIn K (.ref C) "__setattr__" = some (some (.builtin "object.__setattr__")))
    (n_rows : PySem.W.findIn K (.ref C) "_rows" = some none)
    (n_paths : PySem.W.findIn K (.ref C) "_paths" = some none)
    (n_places : PySem.W.findIn K (.ref C) "_places" = some none)
    (n_text : PySem.W.findIn K (.ref C) "_text" = some none)
    (mkC : PySem.W.makesIn K C = true)
    (kC : PySem.W.keepIn K (.ref C) = true)
    (moC : PySem.W.mroIn K C (.type "object") = some true)
    (caC : PySem.W.findIn K (.ref C) "__class__" = some (some (.builtin "object.__class__")))
    (sgC : PySem.W.specialIn K (.builtin "object.__class__") "__get__" = some (some (.builtin "getset_descriptor.__get__")))
    (tkC : PySem.W.takesIn K (.builtin "object.__class__") = some true)
    (aS : PySem.W.nsIn K mainGlobals "StyleError" = some (some (.ref CS)))
    (aCP : PySem.W.nsIn K mainGlobals "InvalidPath" = some (some (.ref CP)))
    (aIP : PySem.W.findIn K (.ref CP) "__init__" = some (some (.ref f_IP)))
    (tIP : PySem.W.typeIn K (.ref f_IP) = some (.type "function"))
    (lIP : K.lookup f_IP = some ⟨oc_IP, od_IP, .func (PySem.W.fnOf "__init__" "InvalidPath.__init__" (defArgs sIP) (defBody sIP) (defScope sIP) .none kV_IP dc_IP pm_IP an_IP cd_IP ct_IP), sl_IP⟩)
    (cIP : PySem.W.codeIn K cd_IP "InvalidPath.__init__" = true)
    (kIP : PySem.W.keepIn K (.ref f_IP) = true)
    (kCP : PySem.W.keepIn K (.ref CP) = true)
    (qCP : PySem.W.excInitIn K CP [.type "ValueError", .type "Exception", .type "BaseException", .type "object"] "ValueError.__new__" = true)
    (oCP : PySem.W.excOver K CP [.type "ValueError", .type "Exception", .type "BaseException", .type "object"] = true)
    (sCP : PySem.W.findIn K (.ref CP) "__setattr__" = some (some (.builtin "object.__setattr__")))
    (hCP : PySem.W.hasDictIn K CP = true)
    (gCP : PySem.W.findIn K (.ref CP) "__getattribute__" = some (some (.builtin "BaseException.__getattribute__")))
    (ggCP : PySem.W.findIn K (.ref CP) "__getattr__" = some none)
    (bCP : PySem.W.subIn K (.ref CP) (.type "BaseException") = some true)
    (nCP : PySem.W.findIn K (.ref CP) "path" = some none)
    (iCP : PySem.W.isClsIn K CP = true)
    (caCP : PySem.W.findIn K (.ref CP) "__class__" = some (some (.builtin "object.__class__")))
    (mCP : PySem.W.mroIn K CP (.type "object") = some true)
    (tyCP : PySem.W.typeIn K (.ref CP) = some (.type "type"))
    (aCN : PySem.W.nsIn K mainGlobals "InvalidNumber" = some (some (.ref CN)))
    (aIN : PySem.W.findIn K (.ref CN) "__init__" = some (some (.ref f_IN)))
    (tIN : PySem.W.typeIn K (.ref f_IN) = some (.type "function"))
    (lIN : K.lookup f_IN = some ⟨oc_IN, od_IN, .func (PySem.W.fnOf "__init__" "InvalidNumber.__init__" (defArgs sIN) (defBody sIN) (defScope sIN) .none kV_IN dc_IN pm_IN an_IN cd_IN ct_IN), sl_IN⟩)
    (cIN : PySem.W.codeIn K cd_IN "InvalidNumber.__init__" = true)
    (kIN : PySem.W.keepIn K (.ref f_IN) = true)
    (kCN : PySem.W.keepIn K (.ref CN) = true)
    (qCN : PySem.W.excInitIn K CN [.type "ValueError", .type "Exception", .type "BaseException", .type "object"] "ValueError.__new__" = true)
    (oCN : PySem.W.excOver K CN [.type "ValueError", .type "Exception", .type "BaseException", .type "object"] = true)
    (sCN : PySem.W.findIn K (.ref CN) "__setattr__" = some (some (.builtin "object.__setattr__")))
    (hCN : PySem.W.hasDictIn K CN = true)
    (gCN : PySem.W.findIn K (.ref CN) "__getattribute__" = some (some (.builtin "BaseException.__getattribute__")))
    (ggCN : PySem.W.findIn K (.ref CN) "__getattr__" = some none)
    (bCN : PySem.W.subIn K (.ref CN) (.type "BaseException") = some true)
    (nCN : PySem.W.findIn K (.ref CN) "value" = some none)
    (iCN : PySem.W.isClsIn K CN = true)
    (caCN : PySem.W.findIn K (.ref CN) "__class__" = some (some (.builtin "object.__class__")))
    (mCN : PySem.W.mroIn K CN (.type "object") = some true)
    (tyCN : PySem.W.typeIn K (.ref CN) = some (.type "type"))
    (aCA : PySem.W.nsIn K mainGlobals "InvalidPart" = some (some (.ref CA)))
    (aIA : PySem.W.findIn K (.ref CA) "__init__" = some (some (.ref f_IA)))
    (tIA : PySem.W.typeIn K (.ref f_IA) = some (.type "function"))
    (lIA : K.lookup f_IA = some ⟨oc_IA, od_IA, .func (PySem.W.fnOf "__init__" "InvalidPart.__init__" (defArgs sIA) (defBody sIA) (defScope sIA) .none kV_IA dc_IA pm_IA an_IA cd_IA ct_IA), sl_IA⟩)
    (cIA : PySem.W.codeIn K cd_IA "InvalidPart.__init__" = true)
    (kIA : PySem.W.keepIn K (.ref f_IA) = true)
    (kCA : PySem.W.keepIn K (.ref CA) = true)
    (qCA : PySem.W.excInitIn K CA [.type "ValueError", .type "Exception", .type "BaseException", .type "object"] "ValueError.__new__" = true)
    (oCA : PySem.W.excOver K CA [.type "ValueError", .type "Exception", .type "BaseException", .type "object"] = true)
    (sCA : PySem.W.findIn K (.ref CA) "__setattr__" = some (some (.builtin "object.__setattr__")))
    (hCA : PySem.W.hasDictIn K CA = true)
    (gCA : PySem.W.findIn K (.ref CA) "__getattribute__" = some (some (.builtin "BaseException.__getattribute__")))
    (ggCA : PySem.W.findIn K (.ref CA) "__getattr__" = some none)
    (bCA : PySem.W.subIn K (.ref CA) (.type "BaseException") = some true)
    (nCA : PySem.W.findIn K (.ref CA) "value" = some none)
    (iCA : PySem.W.isClsIn K CA = true)
    (caCA : PySem.W.findIn K (.ref CA) "__class__" = some (some (.builtin "object.__class__")))
    (mCA : PySem.W.mroIn K CA (.type "object") = some true)
    (tyCA : PySem.W.typeIn K (.ref CA) = some (.type "type"))
    (aCL : PySem.W.nsIn K mainGlobals "LimitExceeded" = some (some (.ref CL)))
    (aIL : PySem.W.findIn K (.ref CL) "__init__" = some (some (.ref f_IL)))
    (tIL : PySem.W.typeIn K (.ref f_IL) = some (.type "function"))
    (lIL : K.lookup f_IL = some ⟨oc_IL, od_IL, .func (PySem.W.fnOf "__init__" "LimitExceeded.__init__" (defArgs sIL) (defBody sIL) (defScope sIL) .none kV_IL dc_IL pm_IL an_IL cd_IL ct_IL), sl_IL⟩)
    (cIL : PySem.W.codeIn K cd_IL "LimitExceeded.__init__" = true)
    (kIL : PySem.W.keepIn K (.ref f_IL) = true)
    (kCL : PySem.W.keepIn K (.ref CL) = true)
    (qCL : PySem.W.excInitIn K CL [.type "OverflowError", .type "ArithmeticError", .type "Exception", .type "BaseException", .type "object"] "OverflowError.__new__" = true)
    (oCL : PySem.W.excOver K CL [.type "OverflowError", .type "ArithmeticError", .type "Exception", .type "BaseException", .type "object"] = true)
    (sCL : PySem.W.findIn K (.ref CL) "__setattr__" = some (some (.builtin "object.__setattr__")))
    (hCL : PySem.W.hasDictIn K CL = true)
    (gCL : PySem.W.findIn K (.ref CL) "__getattribute__" = some (some (.builtin "BaseException.__getattribute__")))
    (ggCL : PySem.W.findIn K (.ref CL) "__getattr__" = some none)
    (bCL : PySem.W.subIn K (.ref CL) (.type "BaseException") = some true)
    (nCL : PySem.W.findIn K (.ref CL) "limit" = some none)
    (iCL : PySem.W.isClsIn K CL = true)
    (caCL : PySem.W.findIn K (.ref CL) "__class__" = some (some (.builtin "object.__class__")))
    (mCL : PySem.W.mroIn K CL (.type "object") = some true)
    (tyCL : PySem.W.typeIn K (.ref CL) = some (.type "type"))
    (ssPP : PySem.W.subIn K (.ref CP) (.ref CP) = some true)
    (ssNP : PySem.W.subIn K (.ref CN) (.ref CP) = some false)
    (ssNN : PySem.W.subIn K (.ref CN) (.ref CN) = some true)
    (ssAP : PySem.W.subIn K (.ref CA) (.ref CP) = some false)
    (ssAN : PySem.W.subIn K (.ref CA) (.ref CN) = some false)
    (ssAA : PySem.W.subIn K (.ref CA) (.ref CA) = some true)
    (ssLP : PySem.W.subIn K (.ref CL) (.ref CP) = some false)
    (ssLN : PySem.W.subIn K (.ref CL) (.ref CN) = some false)
    (ssLA : PySem.W.subIn K (.ref CL) (.ref CA) = some false)
    (ssLL : PySem.W.subIn K (.ref CL) (.ref CL) = some true)
    (ktP : PySem.W.kitOne K (.ref CP) (.ref CS) = some true)
    (ktN : PySem.W.kitOne K (.ref CN) (.ref CS) = some true)
    (ktA : PySem.W.kitOne K (.ref CA) (.ref CS) = some true)
    (ktL : PySem.W.kitOne K (.ref CL) (.type "OverflowError") = some true)
    (fi_init : PySem.W.findIn K (.ref C) "__init__" = some (some (.ref f_init)))
    (l_init : K.lookup f_init = some ⟨oc_init, od_init, .func (PySem.W.fnOf "__init__" "Document.__init__" (defArgs (cDoc 0)) (defBody (cDoc 0)) (defScope (cDoc 0)) .none kV_init dc_init pm_init an_init cd_init ct_init), sl_init⟩)
    (c_init : PySem.W.codeIn K cd_init "Document.__init__" = true)
    (k_init : PySem.W.keepIn K (.ref f_init) = true)
    (i_init : PySem.W.isFn K (.ref f_init) = true)
    (fi_textP : PySem.W.findIn K (.ref C) "text" = some (some (.ref p_textP)))
    (sp_textP : PySem.W.specialIn K (.ref p_textP) "__get__" = some (some (.builtin "property.__get__")))
    (tk_textP : PySem.W.takesIn K (.ref p_textP) = some true)
    (re_textP : PySem.W.recIn K p_textP "property" = some (.ref f_textP :: rest_textP))
    (l_textP : K.lookup f_textP = some ⟨oc_textP, od_textP, .func (PySem.W.fnOf "text" "Document.text" (defArgs (cDoc 1)) (defBody (cDoc 1)) (defScope (cDoc 1)) .none kV_textP dc_textP pm_textP an_textP cd_textP ct_textP), sl_textP⟩)
    (c_textP : PySem.W.codeIn K cd_textP "Document.text" = true)
    (k_textP : PySem.W.keepIn K (.ref f_textP) = true)
    (i_textP : PySem.W.isFn K (.ref f_textP) = true)
    (fi_sizeP : PySem.W.findIn K (.ref C) "size" = some (some (.ref p_sizeP)))
    (sp_sizeP : PySem.W.specialIn K (.ref p_sizeP) "__get__" = some (some (.builtin "property.__get__")))
    (tk_sizeP : PySem.W.takesIn K (.ref p_sizeP) = some true)
    (re_sizeP : PySem.W.recIn K p_sizeP "property" = some (.ref f_sizeP :: rest_sizeP))
    (l_sizeP : K.lookup f_sizeP = some ⟨oc_sizeP, od_sizeP, .func (PySem.W.fnOf "size" "Document.size" (defArgs (cDoc 2)) (defBody (cDoc 2)) (defScope (cDoc 2)) .none kV_sizeP dc_sizeP pm_sizeP an_sizeP cd_sizeP ct_sizeP), sl_sizeP⟩)
    (c_sizeP : PySem.W.codeIn K cd_sizeP "Document.size" = true)
    (k_sizeP : PySem.W.keepIn K (.ref f_sizeP) = true)
    (i_sizeP : PySem.W.isFn K (.ref f_sizeP) = true)
    (fi_hasP : PySem.W.findIn K (.ref C) "__contains__" = some (some (.ref f_hasP)))
    (l_hasP : K.lookup f_hasP = some ⟨oc_hasP, od_hasP, .func (PySem.W.fnOf "__contains__" "Document.__contains__" (defArgs (cDoc 4)) (defBody (cDoc 4)) (defScope (cDoc 4)) .none kV_hasP dc_hasP pm_hasP an_hasP cd_hasP ct_hasP), sl_hasP⟩)
    (c_hasP : PySem.W.codeIn K cd_hasP "Document.__contains__" = true)
    (k_hasP : PySem.W.keepIn K (.ref f_hasP) = true)
    (i_hasP : PySem.W.isFn K (.ref f_hasP) = true)
    (fi_kindP : PySem.W.findIn K (.ref C) "kind" = some (some (.ref f_kindP)))
    (l_kindP : K.lookup f_kindP = some ⟨oc_kindP, od_kindP, .func (PySem.W.fnOf "kind" "Document.kind" (defArgs (cDoc 8)) (defBody (cDoc 8)) (defScope (cDoc 8)) .none kV_kindP dc_kindP pm_kindP an_kindP cd_kindP ct_kindP), sl_kindP⟩)
    (c_kindP : PySem.W.codeIn K cd_kindP "Document.kind" = true)
    (k_kindP : PySem.W.keepIn K (.ref f_kindP) = true)
    (i_kindP : PySem.W.isFn K (.ref f_kindP) = true)
    (fi_marksP : PySem.W.findIn K (.ref C) "marks" = some (some (.ref f_marksP)))
    (l_marksP : K.lookup f_marksP = some ⟨oc_marksP, od_marksP, .func (PySem.W.fnOf "marks" "Document.marks" (defArgs (cDoc 9)) (defBody (cDoc 9)) (defScope (cDoc 9)) .none kV_marksP dc_marksP pm_marksP an_marksP cd_marksP ct_marksP), sl_marksP⟩)
    (c_marksP : PySem.W.codeIn K cd_marksP "Document.marks" = true)
    (k_marksP : PySem.W.keepIn K (.ref f_marksP) = true)
    (i_marksP : PySem.W.isFn K (.ref f_marksP) = true)
    (fi_widthP : PySem.W.findIn K (.ref C) "width" = some (some (.ref f_widthP)))
    (l_widthP : K.lookup f_widthP = some ⟨oc_widthP, od_widthP, .func (PySem.W.fnOf "width" "Document.width" (defArgs (cDoc 10)) (defBody (cDoc 10)) (defScope (cDoc 10)) .none kV_widthP dc_widthP pm_widthP an_widthP cd_widthP ct_widthP), sl_widthP⟩)
    (c_widthP : PySem.W.codeIn K cd_widthP "Document.width" = true)
    (k_widthP : PySem.W.keepIn K (.ref f_widthP) = true)
    (i_widthP : PySem.W.isFn K (.ref f_widthP) = true)
    (fi_partP : PySem.W.findIn K (.ref C) "part" = some (some (.ref f_partP)))
    (l_partP : K.lookup f_partP = some ⟨oc_partP, od_partP, .func (PySem.W.fnOf "part" "Document.part" (defArgs (cDoc 11)) (defBody (cDoc 11)) (defScope (cDoc 11)) .none kV_partP dc_partP pm_partP an_partP cd_partP ct_partP), sl_partP⟩)
    (c_partP : PySem.W.codeIn K cd_partP "Document.part" = true)
    (k_partP : PySem.W.keepIn K (.ref f_partP) = true)
    (i_partP : PySem.W.isFn K (.ref f_partP) = true)
    (fi_insP : PySem.W.findIn K (.ref C) "inserted" = some (some (.ref f_insP)))
    (l_insP : K.lookup f_insP = some ⟨oc_insP, od_insP, .func (PySem.W.fnOf "inserted" "Document.inserted" (defArgs (cDoc 12)) (defBody (cDoc 12)) (defScope (cDoc 12)) .none kV_insP dc_insP pm_insP an_insP cd_insP ct_insP), sl_insP⟩)
    (c_insP : PySem.W.codeIn K cd_insP "Document.inserted" = true)
    (k_insP : PySem.W.keepIn K (.ref f_insP) = true)
    (i_insP : PySem.W.isFn K (.ref f_insP) = true)
    (fi_remP : PySem.W.findIn K (.ref C) "removed" = some (some (.ref f_remP)))
    (l_remP : K.lookup f_remP = some ⟨oc_remP, od_remP, .func (PySem.W.fnOf "removed" "Document.removed" (defArgs (cDoc 13)) (defBody (cDoc 13)) (defScope (cDoc 13)) .none kV_remP dc_remP pm_remP an_remP cd_remP ct_remP), sl_remP⟩)
    (c_remP : PySem.W.codeIn K cd_remP "Document.removed" = true)
    (k_remP : PySem.W.keepIn K (.ref f_remP) = true)
    (i_remP : PySem.W.isFn K (.ref f_remP) = true)
    (fi_renP : PySem.W.findIn K (.ref C) "renamed" = some (some (.ref f_renP)))
    (l_renP : K.lookup f_renP = some ⟨oc_renP, od_renP, .func (PySem.W.fnOf "renamed" "Document.renamed" (defArgs (cDoc 14)) (defBody (cDoc 14)) (defScope (cDoc 14)) .none kV_renP dc_renP pm_renP an_renP cd_renP ct_renP), sl_renP⟩)
    (c_renP : PySem.W.codeIn K cd_renP "Document.renamed" = true)
    (k_renP : PySem.W.keepIn K (.ref f_renP) = true)
    (i_renP : PySem.W.isFn K (.ref f_renP) = true)
    (fi_marP : PySem.W.findIn K (.ref C) "marked" = some (some (.ref f_marP)))
    (l_marP : K.lookup f_marP = some ⟨oc_marP, od_marP, .func (PySem.W.fnOf "marked" "Document.marked" (defArgs (cDoc 15)) (defBody (cDoc 15)) (defScope (cDoc 15)) .none kV_marP dc_marP pm_marP an_marP cd_marP ct_marP), sl_marP⟩)
    (c_marP : PySem.W.codeIn K cd_marP "Document.marked" = true)
    (k_marP : PySem.W.keepIn K (.ref f_marP) = true)
    (i_marP : PySem.W.isFn K (.ref f_marP) = true)
    (fi_placeP : PySem.W.findIn K (.ref C) "number_of" = some (some (.ref f_placeP)))
    (l_placeP : K.lookup f_placeP = some ⟨oc_placeP, od_placeP, .func (PySem.W.fnOf "number_of" "Document.number_of" (defArgs (cDoc 17)) (defBody (cDoc 17)) (defScope (cDoc 17)) .none kV_placeP dc_placeP pm_placeP an_placeP cd_placeP ct_placeP), sl_placeP⟩)
    (c_placeP : PySem.W.codeIn K cd_placeP "Document.number_of" = true)
    (k_placeP : PySem.W.keepIn K (.ref f_placeP) = true)
    (i_placeP : PySem.W.isFn K (.ref f_placeP) = true)
    (fi_endP : PySem.W.findIn K (.ref C) "_end" = some (some (.ref f_endP)))
    (l_endP : K.lookup f_endP = some ⟨oc_endP, od_endP, .func (PySem.W.fnOf "_end" "Document._end" (defArgs (cDoc 18)) (defBody (cDoc 18)) (defScope (cDoc 18)) .none kV_endP dc_endP pm_endP an_endP cd_endP ct_endP), sl_endP⟩)
    (c_endP : PySem.W.codeIn K cd_endP "Document._end" = true)
    (k_endP : PySem.W.keepIn K (.ref f_endP) = true)
    (i_endP : PySem.W.isFn K (.ref f_endP) = true)
    (fi_kidsP : PySem.W.findIn K (.ref C) "_children" = some (some (.ref f_kidsP)))
    (l_kidsP : K.lookup f_kidsP = some ⟨oc_kidsP, od_kidsP, .func (PySem.W.fnOf "_children" "Document._children" (defArgs (cDoc 19)) (defBody (cDoc 19)) (defScope (cDoc 19)) .none kV_kidsP dc_kidsP pm_kidsP an_kidsP cd_kidsP ct_kidsP), sl_kidsP⟩)
    (c_kidsP : PySem.W.codeIn K cd_kidsP "Document._children" = true)
    (k_kidsP : PySem.W.keepIn K (.ref f_kidsP) = true)
    (i_kidsP : PySem.W.isFn K (.ref f_kidsP) = true)
    (a_int : PySem.W.nsIn K mainGlobals "is_integer" = some (some (.ref f_int)))
    (l_int : K.lookup f_int = some ⟨oc_int, od_int, .func (PySem.W.fnOf "is_integer" "is_integer" (defArgs sInt) (defBody sInt) (defScope sInt) .none kV_int dc_int pm_int an_int cd_int ct_int), sl_int⟩)
    (c_int : PySem.W.codeIn K cd_int "is_integer" = true)
    (k_int : PySem.W.keepIn K (.ref f_int) = true)
    (a_between : PySem.W.nsIn K mainGlobals "is_between" = some (some (.ref f_between)))
    (l_between : K.lookup f_between = some ⟨oc_between, od_between, .func (PySem.W.fnOf "is_between" "is_between" (defArgs sBetween) (defBody sBetween) (defScope sBetween) .none kV_between dc_between pm_between an_between cd_between ct_between), sl_between⟩)
    (c_between : PySem.W.codeIn K cd_between "is_between" = true)
    (k_between : PySem.W.keepIn K (.ref f_between) = true)
    (a_name : PySem.W.nsIn K mainGlobals "is_name" = some (some (.ref f_name)))
    (l_name : K.lookup f_name = some ⟨oc_name, od_name, .func (PySem.W.fnOf "is_name" "is_name" (defArgs sName) (defBody sName) (defScope sName) .none kV_name dc_name pm_name an_name cd_name ct_name), sl_name⟩)
    (c_name : PySem.W.codeIn K cd_name "is_name" = true)
    (k_name : PySem.W.keepIn K (.ref f_name) = true)
    (a_names : PySem.W.nsIn K mainGlobals "are_names" = some (some (.ref f_names)))
    (l_names : K.lookup f_names = some ⟨oc_names, od_names, .func (PySem.W.fnOf "are_names" "are_names" (defArgs sNames) (defBody sNames) (defScope sNames) .none kV_names dc_names pm_names an_names cd_names ct_names), sl_names⟩)
    (c_names : PySem.W.codeIn K cd_names "are_names" = true)
    (k_names : PySem.W.keepIn K (.ref f_names) = true)
    (a_cut : PySem.W.nsIn K mainGlobals "cut" = some (some (.ref f_cut)))
    (l_cut : K.lookup f_cut = some ⟨oc_cut, od_cut, .func (PySem.W.fnOf "cut" "cut" (defArgs sCut) (defBody sCut) (defScope sCut) .none kV_cut dc_cut pm_cut an_cut cd_cut ct_cut), sl_cut⟩)
    (c_cut : PySem.W.codeIn K cd_cut "cut" = true)
    (k_cut : PySem.W.keepIn K (.ref f_cut) = true)
    (a_parse : PySem.W.nsIn K mainGlobals "parse_document" = some (some (.ref f_parse)))
    (l_parse : K.lookup f_parse = some ⟨oc_parse, od_parse, .func (PySem.W.fnOf "parse_document" "parse_document" (defArgs sParse) (defBody sParse) (defScope sParse) .none kV_parse dc_parse pm_parse an_parse cd_parse ct_parse), sl_parse⟩)
    (c_parse : PySem.W.codeIn K cd_parse "parse_document" = true)
    (k_parse : PySem.W.keepIn K (.ref f_parse) = true)
    (a_rows : PySem.W.nsIn K mainGlobals "read_rows" = some (some (.ref f_rows)))
    (l_rows : K.lookup f_rows = some ⟨oc_rows, od_rows, .func (PySem.W.fnOf "read_rows" "read_rows" (defArgs sRows) (defBody sRows) (defScope sRows) .none kV_rows dc_rows pm_rows an_rows cd_rows ct_rows), sl_rows⟩)
    (c_rows : PySem.W.codeIn K cd_rows "read_rows" = true)
    (k_rows : PySem.W.keepIn K (.ref f_rows) = true)
    (a_head : PySem.W.nsIn K mainGlobals "read_head" = some (some (.ref f_head)))
    (l_head : K.lookup f_head = some ⟨oc_head, od_head, .func (PySem.W.fnOf "read_head" "read_head" (defArgs sHead) (defBody sHead) (defScope sHead) .none kV_head dc_head pm_head an_head cd_head ct_head), sl_head⟩)
    (c_head : PySem.W.codeIn K cd_head "read_head" = true)
    (k_head : PySem.W.keepIn K (.ref f_head) = true)
    (a_text : PySem.W.nsIn K mainGlobals "text_of" = some (some (.ref f_text)))
    (l_text : K.lookup f_text = some ⟨oc_text, od_text, .func (PySem.W.fnOf "text_of" "text_of" (defArgs sText) (defBody sText) (defScope sText) .none kV_text dc_text pm_text an_text cd_text ct_text), sl_text⟩)
    (c_text : PySem.W.codeIn K cd_text "text_of" = true)
    (k_text : PySem.W.keepIn K (.ref f_text) = true)
    (a_paths : PySem.W.nsIn K mainGlobals "paths_of" = some (some (.ref f_paths)))
    (l_paths : K.lookup f_paths = some ⟨oc_paths, od_paths, .func (PySem.W.fnOf "paths_of" "paths_of" (defArgs sPaths) (defBody sPaths) (defScope sPaths) .none kV_paths dc_paths pm_paths an_paths cd_paths ct_paths), sl_paths⟩)
    (c_paths : PySem.W.codeIn K cd_paths "paths_of" = true)
    (k_paths : PySem.W.keepIn K (.ref f_paths) = true)
    (a_moved : PySem.W.nsIn K mainGlobals "moved" = some (some (.ref f_moved)))
    (l_moved : K.lookup f_moved = some ⟨oc_moved, od_moved, .func (PySem.W.fnOf "moved" "moved" (defArgs sMoved) (defBody sMoved) (defScope sMoved) .none kV_moved dc_moved pm_moved an_moved cd_moved ct_moved), sl_moved⟩)
    (c_moved : PySem.W.codeIn K cd_moved "moved" = true)
    (k_moved : PySem.W.keepIn K (.ref f_moved) = true)
    (a_isPath : PySem.W.nsIn K mainGlobals "is_path" = some (some (.ref f_isPath)))
    (l_isPath : K.lookup f_isPath = some ⟨oc_isPath, od_isPath, .func (PySem.W.fnOf "is_path" "is_path" (defArgs sIsPath) (defBody sIsPath) (defScope sIsPath) .none kV_isPath dc_isPath pm_isPath an_isPath cd_isPath ct_isPath), sl_isPath⟩)
    (c_isPath : PySem.W.codeIn K cd_isPath "is_path" = true)
    (k_isPath : PySem.W.keepIn K (.ref f_isPath) = true)
    (a_pool : PySem.W.nsIn K mainGlobals "_law_pool" = some (some (.ref f_pool)))
    (l_pool : K.lookup f_pool = some ⟨oc_pool, od_pool, .func (PySem.W.fnOf "_law_pool" "_law_pool" (defArgs sPool) (defBody sPool) (defScope sPool) .none kV_pool dc_pool pm_pool an_pool cd_pool ct_pool), sl_pool⟩)
    (c_pool : PySem.W.codeIn K cd_pool "_law_pool" = true)
    (k_pool : PySem.W.keepIn K (.ref f_pool) = true)
    (a_take : PySem.W.nsIn K mainGlobals "_law_take" = some (some (.ref f_take)))
    (l_take : K.lookup f_take = some ⟨oc_take, od_take, .func (PySem.W.fnOf "_law_take" "_law_take" (defArgs sTake) (defBody sTake) (defScope sTake) .none kV_take dc_take pm_take an_take cd_take ct_take), sl_take⟩)
    (c_take : PySem.W.codeIn K cd_take "_law_take" = true)
    (k_take : PySem.W.keepIn K (.ref f_take) = true)
    (a_node : PySem.W.nsIn K mainGlobals "_law_node" = some (some (.ref f_node)))
    (l_node : K.lookup f_node = some ⟨oc_node, od_node, .func (PySem.W.fnOf "_law_node" "_law_node" (defArgs sNode) (defBody sNode) (defScope sNode) .none kV_node dc_node pm_node an_node cd_node ct_node), sl_node⟩)
    (c_node : PySem.W.codeIn K cd_node "_law_node" = true)
    (k_node : PySem.W.keepIn K (.ref f_node) = true)
    (a_ltext : PySem.W.nsIn K mainGlobals "_law_text" = some (some (.ref f_ltext)))
    (l_ltext : K.lookup f_ltext = some ⟨oc_ltext, od_ltext, .func (PySem.W.fnOf "_law_text" "_law_text" (defArgs sLText) (defBody sLText) (defScope sLText) .none kV_ltext dc_ltext pm_ltext an_ltext cd_ltext ct_ltext), sl_ltext⟩)
    (c_ltext : PySem.W.codeIn K cd_ltext "_law_text" = true)
    (k_ltext : PySem.W.keepIn K (.ref f_ltext) = true)
    (a_lpaths : PySem.W.nsIn K mainGlobals "_law_paths" = some (some (.ref f_lpaths)))
    (l_lpaths : K.lookup f_lpaths = some ⟨oc_lpaths, od_lpaths, .func (PySem.W.fnOf "_law_paths" "_law_paths" (defArgs sLPaths) (defBody sLPaths) (defScope sLPaths) .none kV_lpaths dc_lpaths pm_lpaths an_lpaths cd_lpaths ct_lpaths), sl_lpaths⟩)
    (c_lpaths : PySem.W.codeIn K cd_lpaths "_law_paths" = true)
    (k_lpaths : PySem.W.keepIn K (.ref f_lpaths) = true)
    (a_called : PySem.W.nsIn K mainGlobals "_law_called" = some (some (.ref f_called)))
    (l_called : K.lookup f_called = some ⟨oc_called, od_called, .func (PySem.W.fnOf "_law_called" "_law_called" (defArgs sCalled) (defBody sCalled) (defScope sCalled) .none kV_called dc_called pm_called an_called cd_called ct_called), sl_called⟩)
    (c_called : PySem.W.codeIn K cd_called "_law_called" = true)
    (k_called : PySem.W.keepIn K (.ref f_called) = true)
    (a_said : PySem.W.nsIn K mainGlobals "_law_said" = some (some (.ref f_said)))
    (l_said : K.lookup f_said = some ⟨oc_said, od_said, .func (PySem.W.fnOf "_law_said" "_law_said" (defArgs sSaid) (defBody sSaid) (defScope sSaid) .none kV_said dc_said pm_said an_said cd_said ct_said), sl_said⟩)
    (c_said : PySem.W.codeIn K cd_said "_law_said" = true)
    (k_said : PySem.W.keepIn K (.ref f_said) = true)
    (a_limits : PySem.W.nsIn K mainGlobals "_law_limits_right" = some (some (.ref f_limits)))
    (l_limits : K.lookup f_limits = some ⟨oc_limits, od_limits, .func (PySem.W.fnOf "_law_limits_right" "_law_limits_right" (defArgs sLimits) (defBody sLimits) (defScope sLimits) .none kV_limits dc_limits pm_limits an_limits cd_limits ct_limits), sl_limits⟩)
    (c_limits : PySem.W.codeIn K cd_limits "_law_limits_right" = true)
    (k_limits : PySem.W.keepIn K (.ref f_limits) = true)
    (a_law : PySem.W.nsIn K mainGlobals "law" = some (some (.ref f_law)))
    (l_law : K.lookup f_law = some ⟨oc_law, od_law, .func (PySem.W.fnOf "law" "law" (defArgs sLaw) (defBody sLaw) (defScope sLaw) .none kV_law dc_law pm_law an_law cd_law ct_law), sl_law⟩)
    (c_law : PySem.W.codeIn K cd_law "law" = true)
    (k_law : PySem.W.keepIn K (.ref f_law) = true)
    (z_int : PySem.W.nsIn K mainGlobals "int" = some none)
    (z_bool : PySem.W.nsIn K mainGlobals "bool" = some none)
    (z_str : PySem.W.nsIn K mainGlobals "str" = some none)
    (z_list : PySem.W.nsIn K mainGlobals "list" = some none)
    (z_tuple : PySem.W.nsIn K mainGlobals "tuple" = some none)
    (z_set : PySem.W.nsIn K mainGlobals "set" = some none)
    (z_len : PySem.W.nsIn K mainGlobals "len" = some none)
    (z_all : PySem.W.nsIn K mainGlobals "all" = some none)
    (z_sorted : PySem.W.nsIn K mainGlobals "sorted" = some none)
    (z_isinstance : PySem.W.nsIn K mainGlobals "isinstance" = some none)
    (z_enumerate : PySem.W.nsIn K mainGlobals "enumerate" = some none)
    (z_range : PySem.W.nsIn K mainGlobals "range" = some none)
    (z_max : PySem.W.nsIn K mainGlobals "max" = some none)
    (z_min : PySem.W.nsIn K mainGlobals "min" = some none)
    (z_repr : PySem.W.nsIn K mainGlobals "repr" = some none)
    (z_OverflowError : PySem.W.nsIn K mainGlobals "OverflowError" = some none)
    (g_LETTERS : PySem.W.nsIn K mainGlobals "LETTERS" = some (some u_LETTERS))
    (r_LETTERS : RelV (.str (toS lets)) u_LETTERS)
    (g_LONGEST_NAME : PySem.W.nsIn K mainGlobals "LONGEST_NAME" = some (some u_LONGEST_NAME))
    (r_LONGEST_NAME : RelV (.int 8) u_LONGEST_NAME)
    (g_MOST_NODES : PySem.W.nsIn K mainGlobals "MOST_NODES" = some (some u_MOST_NODES))
    (r_MOST_NODES : RelV (.int 200) u_MOST_NODES)
    (kitC : PySem.W.kitOne K (.ref C) (.ref C) = some true)
    (knN : PySem.W.kitOne K (.type "NoneType") (.ref C) = some false)
    (knI : PySem.W.kitOne K (.type "int") (.ref C) = some false)
    (knS : PySem.W.kitOne K (.type "str") (.ref C) = some false)
    (knLi : PySem.W.kitOne K (.type "list") (.ref C) = some false) :
    ∃ fd : FuncData, (∀ (s : Shared) (v : Value), BindsTo s fd ⟨[v], []⟩ [("_law_script", v)]) ∧ ∀ base : Heap, K.In base → base.Ns mainGlobals mg → FnI l.prog w K mg base CX0 24 fa fd ["_law_script"] (spLaw K) := by
  have e := hfa.symm.trans (PySem.W.mg_of X G a_law)
  cases e
  have F_init := fun_mk (st := (cDoc 0)) l_init c_init k_init
  have F_textP := fun_mk (st := (cDoc 1)) l_textP c_textP k_textP
  have F_sizeP := fun_mk (st := (cDoc 2)) l_sizeP c_sizeP k_sizeP
  have F_hasP := fun_mk (st := (cDoc 4)) l_hasP c_hasP k_hasP
  have F_kindP := fun_mk (st := (cDoc 8)) l_kindP c_kindP k_kindP
  have F_marksP := fun_mk (st := (cDoc 9)) l_marksP c_marksP k_marksP
  have F_widthP := fun_mk (st := (cDoc 10)) l_widthP c_widthP k_widthP
  have F_partP := fun_mk (st := (cDoc 11)) l_partP c_partP k_partP
  have F_insP := fun_mk (st := (cDoc 12)) l_insP c_insP k_insP
  have F_remP := fun_mk (st := (cDoc 13)) l_remP c_remP k_remP
  have F_renP := fun_mk (st := (cDoc 14)) l_renP c_renP k_renP
  have F_marP := fun_mk (st := (cDoc 15)) l_marP c_marP k_marP
  have F_placeP := fun_mk (st := (cDoc 17)) l_placeP c_placeP k_placeP
  have F_endP := fun_mk (st := (cDoc 18)) l_endP c_endP k_endP
  have F_kidsP := fun_mk (st := (cDoc 19)) l_kidsP c_kidsP k_kidsP
  have F_int := fun_mk (st := sInt) l_int c_int k_int
  have F_between := fun_mk (st := sBetween) l_between c_between k_between
  have F_name := fun_mk (st := sName) l_name c_name k_name
  have F_names := fun_mk (st := sNames) l_names c_names k_names
  have F_cut := fun_mk (st := sCut) l_cut c_cut k_cut
  have F_parse := fun_mk (st := sParse) l_parse c_parse k_parse
  have F_rows := fun_mk (st := sRows) l_rows c_rows k_rows
  have F_head := fun_mk (st := sHead) l_head c_head k_head
  have F_text := fun_mk (st := sText) l_text c_text k_text
  have F_paths := fun_mk (st := sPaths) l_paths c_paths k_paths
  have F_moved := fun_mk (st := sMoved) l_moved c_moved k_moved
  have F_isPath := fun_mk (st := sIsPath) l_isPath c_isPath k_isPath
  have F_pool := fun_mk (st := sPool) l_pool c_pool k_pool
  have F_take := fun_mk (st := sTake) l_take c_take k_take
  have F_node := fun_mk (st := sNode) l_node c_node k_node
  have F_ltext := fun_mk (st := sLText) l_ltext c_ltext k_ltext
  have F_lpaths := fun_mk (st := sLPaths) l_lpaths c_lpaths k_lpaths
  have F_called := fun_mk (st := sCalled) l_called c_called k_called
  have F_said := fun_mk (st := sSaid) l_said c_said k_said
  have F_limits := fun_mk (st := sLimits) l_limits c_limits k_limits
  have F_law := fun_mk (st := sLaw) l_law c_law k_law
  have F_IP := fun_mk (st := sIP) lIP cIP kIP
  have F_IN := fun_mk (st := sIN) lIN cIN kIN
  have F_IA := fun_mk (st := sIA) lIA cIA kIA
  have F_IL := fun_mk (st := sIL) lIL cIL kIL
  have T : Txt mg := ⟨PySem.W.mg_none_of X G z_int, PySem.W.mg_none_of X G z_bool, PySem.W.mg_none_of X G z_str, PySem.W.mg_none_of X G z_list, PySem.W.mg_none_of X G z_tuple, PySem.W.mg_none_of X G z_set, PySem.W.mg_none_of X G z_len, PySem.W.mg_none_of X G z_all, PySem.W.mg_none_of X G z_sorted, PySem.W.mg_none_of X G z_isinstance, PySem.W.mg_none_of X G z_enumerate, PySem.W.mg_none_of X G z_range, PySem.W.mg_none_of X G z_max, PySem.W.mg_none_of X G z_min, ⟨_, PySem.W.mg_of X G g_LETTERS, r_LETTERS⟩, ⟨_, PySem.W.mg_of X G g_LONGEST_NAME, r_LONGEST_NAME⟩, ⟨_, PySem.W.mg_of X G g_MOST_NODES, r_MOST_NODES⟩⟩
  have DC : DCls K mg C := ⟨⟨pgC, hdC, poC, saC⟩, n_rows, n_paths, n_places, n_text⟩
  have tyD : ∀ (H : Hp) (a dx : Addr) (fs : List (Str × V)), H a = some (.ins C dx fs) → TyX K H (.ref a) (.ref C) := fun H a dx fs e => .base (.ins e DC.cls caC sgC tkC moC)
  have b_init := F_init.binds (ps := ["self", "rows"]) fun _ _ _ _ _ _ us hl => match us, hl with | [_, _], _ => rfl
  have b_textP := F_textP.binds (ps := ["self"]) fun _ _ _ _ _ _ us hl => match us, hl with | [_], _ => rfl
  have b_sizeP := F_sizeP.binds (ps := ["self"]) fun _ _ _ _ _ _ us hl => match us, hl with | [_], _ => rfl
  have b_hasP := F_hasP.binds (ps := ["self", "path"]) fun _ _ _ _ _ _ us hl => match us, hl with | [_, _], _ => rfl
  have b_kindP := F_kindP.binds (ps := ["self", "path"]) fun _ _ _ _ _ _ us hl => match us, hl with | [_, _], _ => rfl
  have b_marksP := F_marksP.binds (ps := ["self", "path"]) fun _ _ _ _ _ _ us hl => match us, hl with | [_, _], _ => rfl
  have b_widthP := F_widthP.binds (ps := ["self", "path"]) fun _ _ _ _ _ _ us hl => match us, hl with | [_, _], _ => rfl
  have b_partP := F_partP.binds (ps := ["self", "path"]) fun _ _ _ _ _ _ us hl => match us, hl with | [_, _], _ => rfl
  have b_insP := F_insP.binds (ps := ["self", "path", "index", "part"]) fun _ _ _ _ _ _ us hl => match us, hl with | [_, _, _, _], _ => rfl
  have b_remP := F_remP.binds (ps := ["self", "path"]) fun _ _ _ _ _ _ us hl => match us, hl with | [_, _], _ => rfl
  have b_renP := F_renP.binds (ps := ["self", "path", "kind"]) fun _ _ _ _ _ _ us hl => match us, hl with | [_, _, _], _ => rfl
  have b_marP := F_marP.binds (ps := ["self", "path", "marks"]) fun _ _ _ _ _ _ us hl => match us, hl with | [_, _, _], _ => rfl
  have b_placeP := F_placeP.binds (ps := ["self", "path"]) fun _ _ _ _ _ _ us hl => match us, hl with | [_, _], _ => rfl
  have b_endP := F_endP.binds (ps := ["self", "at"]) fun _ _ _ _ _ _ us hl => match us, hl with | [_, _], _ => rfl
  have b_kidsP := F_kidsP.binds (ps := ["self", "at"]) fun _ _ _ _ _ _ us hl => match us, hl with | [_, _], _ => rfl
  have b_int := F_int.binds (ps := ["value"]) fun _ _ _ _ _ _ us hl => match us, hl with | [_], _ => rfl
  have b_between := F_between.binds (ps := ["value", "least", "most"]) fun _ _ _ _ _ _ us hl => match us, hl with | [_, _, _], _ => rfl
  have b_name := F_name.binds (ps := ["value"]) fun _ _ _ _ _ _ us hl => match us, hl with | [_], _ => rfl
  have b_names := F_names.binds (ps := ["values"]) fun _ _ _ _ _ _ us hl => match us, hl with | [_], _ => rfl
  have b_cut := F_cut.binds (ps := ["text", "letters", "signs"]) fun _ _ _ _ _ _ us hl => match us, hl with | [_, _, _], _ => rfl
  have b_parse := F_parse.binds (ps := ["text"]) fun _ _ _ _ _ _ us hl => match us, hl with | [_], _ => rfl
  have b_rows := F_rows.binds (ps := ["text"]) fun _ _ _ _ _ _ us hl => match us, hl with | [_], _ => rfl
  have b_head := F_head.binds (ps := ["text"]) fun _ _ _ _ _ _ us hl => match us, hl with | [_], _ => rfl
  have b_text := F_text.binds (ps := ["rows"]) fun _ _ _ _ _ _ us hl => match us, hl with | [_], _ => rfl
  have b_paths := F_paths.binds (ps := ["rows"]) fun _ _ _ _ _ _ us hl => match us, hl with | [_], _ => rfl
  have b_moved := F_moved.binds (ps := ["rows", "by"]) fun _ _ _ _ _ _ us hl => match us, hl with | [_, _], _ => rfl
  have b_isPath := F_isPath.binds (ps := ["value"]) fun _ _ _ _ _ _ us hl => match us, hl with | [_], _ => rfl
  have b_pool := F_pool.binds (ps := ["_law_script", "_law_k"]) fun _ _ _ _ _ _ us hl => match us, hl with | [_, _], _ => rfl
  have b_take := F_take.binds (ps := ["_law_pool_here", "_law_many"]) fun _ _ _ _ _ _ us hl => match us, hl with | [_, _], _ => rfl
  have b_node := F_node.binds (ps := ["_law_pool_here", "_law_depth", "_law_kinds", "_law_marks"]) fun _ _ _ _ _ _ us hl => match us, hl with | [_, _, _, _], _ => rfl
  have b_ltext := F_ltext.binds (ps := ["_law_node_here"]) fun _ _ _ _ _ _ us hl => match us, hl with | [_], _ => rfl
  have b_lpaths := F_lpaths.binds (ps := ["_law_node_here", "_law_path"]) fun _ _ _ _ _ _ us hl => match us, hl with | [_, _], _ => rfl
  have b_called := F_called.binds (ps := ["_law_document", "_law_way", "_law_first", "_law_second", "_law_third"]) fun _ _ _ _ _ _ us hl => match us, hl with | [_, _, _, _, _], _ => rfl
  have b_said := F_said.binds (ps := ["_law_document", "_law_way", "_law_first", "_law_second", "_law_third"]) fun _ _ _ _ _ _ us hl => match us, hl with | [_, _, _, _, _], _ => rfl
  have b_limits := F_limits.binds (ps := []) fun _ _ _ _ _ _ us hl => match us, hl with | [], _ => rfl
  refine ⟨PySem.W.fnOf "law" "law" (defArgs sLaw) (defBody sLaw) (defScope sLaw) .none kV_law dc_law pm_law an_law cd_law ct_law, fun s v => .of_eq rfl, fun base _ _ => ?_⟩
  have xP : XR l.prog w K mg base "InvalidPath" "path" CP :=
    ⟨⟨⟨f_IP, _, _, _, _, _, ⟨PySem.F.excBase_ValueError, qCP, aIP, tIP, kCP⟩, iniP F_IP ⟨_, _, PySem.F.store_ValueError, oCP, hCP, sCP⟩ nCP, fun s a b => .of_eq rfl, fun s a b => .of_eq rfl⟩,
      PySem.W.mg_of X G aCP, ⟨⟨gCP, ggCP, bCP, hCP⟩, iCP, caCP, sgC, tkC, mCP⟩, nCP⟩, bCP, tyCP⟩
  have xN : XR l.prog w K mg base "InvalidNumber" "value" CN :=
    ⟨⟨⟨f_IN, _, _, _, _, _, ⟨PySem.F.excBase_ValueError, qCN, aIN, tIN, kCN⟩, iniN F_IN ⟨_, _, PySem.F.store_ValueError, oCN, hCN, sCN⟩ nCN, fun s a b => .of_eq rfl, fun s a b => .of_eq rfl⟩,
      PySem.W.mg_of X G aCN, ⟨⟨gCN, ggCN, bCN, hCN⟩, iCN, caCN, sgC, tkC, mCN⟩, nCN⟩, bCN, tyCN⟩
  have xA : XR l.prog w K mg base "InvalidPart" "value" CA :=
    ⟨⟨⟨f_IA, _, _, _, _, _, ⟨PySem.F.excBase_ValueError, qCA, aIA, tIA, kCA⟩, iniA F_IA ⟨_, _, PySem.F.store_ValueError, oCA, hCA, sCA⟩ nCA, fun s a b => .of_eq rfl, fun s a b => .of_eq rfl⟩,
      PySem.W.mg_of X G aCA, ⟨⟨gCA, ggCA, bCA, hCA⟩, iCA, caCA, sgC, tkC, mCA⟩, nCA⟩, bCA, tyCA⟩
  have xL : XR l.prog w K mg base "LimitExceeded" "limit" CL :=
    ⟨⟨⟨f_IL, _, _, _, _, _, ⟨PySem.F.excBase_OverflowError, qCL, aIL, tIL, kCL⟩, iniL F_IL ⟨_, _, PySem.F.store_OverflowError, oCL, hCL, sCL⟩ nCL, fun s a b => .of_eq rfl, fun s a b => .of_eq rfl⟩,
      PySem.W.mg_of X G aCL, ⟨⟨gCL, ggCL, bCL, hCL⟩, iCL, caCL, sgC, tkC, mCL⟩, nCL⟩, bCL, tyCL⟩
  have ER : Errs l.prog w K mg base CP CN CA CL := ⟨xP, xN, xA, xL⟩
  have U : Kin K mg CP CN CA CL CS := ⟨PySem.W.mg_none_of X G z_repr, PySem.W.mg_none_of X G z_OverflowError, PySem.W.mg_of X G aS, exm_one bCP iCP tyCP ssPP, exm_one bCP iCP tyCP ssNP, exm_one bCN iCN tyCN ssNN, exm_one bCP iCP tyCP ssAP, exm_one bCN iCN tyCN ssAN, exm_one bCA iCA tyCA ssAA, exm_one bCP iCP tyCP ssLP, exm_one bCN iCN tyCN ssLN, exm_one bCA iCA tyCA ssLA, exm_one bCL iCL tyCL ssLL, ktP, ktN, ktA, ktL⟩
  have h_int : Has l.prog w K mg base 1 "is_integer" ["value"] (spInt K) := ⟨f_int, _, ok_int F_int T, PySem.W.mg_of X G a_int, k_int, b_int⟩
  have h_between : Has l.prog w K mg base 2 "is_between" ["value", "least", "most"] spBetween := ⟨f_between, _, ok_between F_between h_int, PySem.W.mg_of X G a_between, k_between, b_between⟩
  have h_betweenO : Has l.prog w K mg base 2 "is_between" ["value", "least", "most"] (spBetweenO K) := ⟨f_between, _, ok_betweenO F_between h_int, PySem.W.mg_of X G a_between, k_between, b_between⟩
  have h_name : Has l.prog w K mg base 1 "is_name" ["value"] spName := ⟨f_name, _, ok_name F_name T, PySem.W.mg_of X G a_name, k_name, b_name⟩
  have h_nameO : Has l.prog w K mg base 1 "is_name" ["value"] (spNameO K) := ⟨f_name, _, ok_nameO F_name T, PySem.W.mg_of X G a_name, k_name, b_name⟩
  have h_names : Has l.prog w K mg base 2 "are_names" ["values"] (spNames K) := ⟨f_names, _, ok_names F_names T h_name, PySem.W.mg_of X G a_names, k_names, b_names⟩
  have h_namesO : Has l.prog w K mg base 2 "are_names" ["values"] (spNamesO K) := ⟨f_names, _, ok_namesO F_names T h_name h_nameO, PySem.W.mg_of X G a_names, k_names, b_names⟩
  have h_cut : Has l.prog w K mg base 1 "cut" ["text", "letters", "signs"] spCut := ⟨f_cut, _, ok_cut F_cut, PySem.W.mg_of X G a_cut, k_cut, b_cut⟩
  have h_head : Has l.prog w K mg base 3 "read_head" ["text"] spHead := ⟨f_head, _, ok_head F_head T h_name h_names, PySem.W.mg_of X G a_head, k_head, b_head⟩
  have h_rows : Has l.prog w K mg base 4 "read_rows" ["text"] spRows := ⟨f_rows, _, ok_rows F_rows T h_cut h_head, PySem.W.mg_of X G a_rows, k_rows, b_rows⟩
  have h_text : Has l.prog w K mg base 1 "text_of" ["rows"] spText := ⟨f_text, _, ok_text F_text, PySem.W.mg_of X G a_text, k_text, b_text⟩
  have h_paths : Has l.prog w K mg base 1 "paths_of" ["rows"] spPaths := ⟨f_paths, _, ok_paths F_paths T, PySem.W.mg_of X G a_paths, k_paths, b_paths⟩
  have h_moved : Has l.prog w K mg base 1 "moved" ["rows", "by"] spMoved := ⟨f_moved, _, ok_moved F_moved T, PySem.W.mg_of X G a_moved, k_moved, b_moved⟩
  have h_isPath : Has l.prog w K mg base 2 "is_path" ["value"] (spIsPath K) := ⟨f_isPath, _, ok_isPath F_isPath T h_int, PySem.W.mg_of X G a_isPath, k_isPath, b_isPath⟩
  have h_make : C8.Mak l.prog w K mg base 2 "Document" C (spInit C) [] := ⟨f_init, _, ["self", "rows"], [], ⟨mkC, fi_init, i_init, kC⟩, ok_init F_init T DC h_paths h_text, PySem.W.mg_of X G aC, b_init, .nil⟩
  have h_textP : PropM l.prog w K mg base C "text" (spTextP C) := ⟨p_textP, f_textP, _, ⟨fi_textP, sp_textP, tk_textP, ⟨_, re_textP⟩⟩, ok_textP F_textP DC, b_textP⟩
  have h_sizeP : PropM l.prog w K mg base C "size" (spSizeP C) := ⟨p_sizeP, f_sizeP, _, ⟨fi_sizeP, sp_sizeP, tk_sizeP, ⟨_, re_sizeP⟩⟩, ok_sizeP F_sizeP T DC, b_sizeP⟩
  have h_in : HasIn l.prog w K mg base C := ⟨f_hasP, _, ok_hasP F_hasP DC h_isPath, b_hasP, fi_hasP, i_hasP⟩
  have h_placeP : C8.Met l.prog w K mg base 4 C "number_of" (spPlaceP C) [] := ⟨f_placeP, _, ["self", "path"], [], DC.cls, ⟨fi_placeP, i_placeP, k_placeP⟩, ok_placeP F_placeP DC h_in, b_placeP, .nil⟩
  have h_placeX : MetX l.prog w K mg base 4 C "number_of" (spPlaceX K C CP) := ⟨f_placeP, _, ["self", "path"], DC.cls, ⟨fi_placeP, i_placeP, k_placeP⟩, ok_placeX F_placeP DC h_in ER, b_placeP⟩
  have h_endP : C8.Met l.prog w K mg base 1 C "_end" (spEndP C) [] := ⟨f_endP, _, ["self", "at"], [], DC.cls, ⟨fi_endP, i_endP, k_endP⟩, ok_endP F_endP T DC, b_endP, .nil⟩
  have h_kidsP : C8.Met l.prog w K mg base 2 C "_children" (spKidsP C) [] := ⟨f_kidsP, _, ["self", "at"], [], DC.cls, ⟨fi_kidsP, i_kidsP, k_kidsP⟩, ok_kidsP F_kidsP T DC h_endP, b_kidsP, .nil⟩
  have h_widthP : C8.Met l.prog w K mg base 5 C "width" (spWidthP C) [] := ⟨f_widthP, _, ["self", "path"], [], DC.cls, ⟨fi_widthP, i_widthP, k_widthP⟩, ok_widthP F_widthP T DC h_placeP h_kidsP, b_widthP, .nil⟩
  have h_kindP : C8.Met l.prog w K mg base 5 C "kind" (spKindP C) [] := ⟨f_kindP, _, ["self", "path"], [], DC.cls, ⟨fi_kindP, i_kindP, k_kindP⟩, ok_kindP F_kindP DC h_placeP, b_kindP, .nil⟩
  have h_remP : C8.Met l.prog w K mg base 5 C "removed" (spRemoved C) [] := ⟨f_remP, _, ["self", "path"], [], DC.cls, ⟨fi_remP, i_remP, k_remP⟩, ok_removed F_remP DC h_placeP h_endP h_make, b_remP, .nil⟩
  have h_kindX : MetX l.prog w K mg base 5 C "kind" (spBad K C CP) := ⟨f_kindP, _, ["self", "path"], DC.cls, ⟨fi_kindP, i_kindP, k_kindP⟩, ok_kindB F_kindP DC h_placeX, b_kindP⟩
  have h_marksX : MetX l.prog w K mg base 5 C "marks" (spBad K C CP) := ⟨f_marksP, _, ["self", "path"], DC.cls, ⟨fi_marksP, i_marksP, k_marksP⟩, ok_marksB F_marksP DC h_placeX, b_marksP⟩
  have h_widthX : MetX l.prog w K mg base 5 C "width" (spBad K C CP) := ⟨f_widthP, _, ["self", "path"], DC.cls, ⟨fi_widthP, i_widthP, k_widthP⟩, ok_widthB F_widthP T DC h_placeX h_kidsP, b_widthP⟩
  have h_partX : MetX l.prog w K mg base 5 C "part" (spBad K C CP) := ⟨f_partP, _, ["self", "path"], DC.cls, ⟨fi_partP, i_partP, k_partP⟩, ok_partB F_partP DC h_placeX h_endP h_moved h_make, b_partP⟩
  have h_insX : MetX l.prog w K mg base 5 C "inserted" (fun vs H Q E => spInsX K C CP CN CA CL vs H Q E ∨ spInserted K C vs H Q E) := ⟨f_insP, _, ["self", "path", "index", "part"], DC.cls, ⟨fi_insP, i_insP, k_insP⟩, fn_or (ok_insertedB F_insP T DC ER (PySem.W.mg_of X G aC) kitC tyD h_placeX h_kidsP h_betweenO h_sizeP) (fn_x (ok_inserted F_insP T DC (PySem.W.mg_of X G aC) kitC tyD h_placeP h_kidsP h_endP h_make h_between h_moved h_sizeP)), b_insP⟩
  have h_remX : MetX l.prog w K mg base 5 C "removed" (spRemX K C CP) := ⟨f_remP, _, ["self", "path"], DC.cls, ⟨fi_remP, i_remP, k_remP⟩, ok_removedB F_remP DC ER h_placeX h_endP h_make, b_remP⟩
  have h_renX : MetX l.prog w K mg base 5 C "renamed" (spRenX K C CP CA) := ⟨f_renP, _, ["self", "path", "kind"], DC.cls, ⟨fi_renP, i_renP, k_renP⟩, ok_renamedB F_renP DC ER h_placeX h_nameO, b_renP⟩
  have h_marX : MetX l.prog w K mg base 5 C "marked" (spMarX K C CP CA) := ⟨f_marP, _, ["self", "path", "marks"], DC.cls, ⟨fi_marP, i_marP, k_marP⟩, ok_markedB F_marP DC ER h_placeX h_namesO, b_marP⟩
  have WY : Ways l.prog w K mg base C CP CN CA CL := ⟨h_kindX, h_marksX, h_widthX, h_partX, h_insX, h_remX, h_renX, h_marX⟩
  have h_pool : Has l.prog w K mg base 1 "_law_pool" ["_law_script", "_law_k"] (spPool K) := ⟨f_pool, _, ok_pool F_pool T, PySem.W.mg_of X G a_pool, k_pool, b_pool⟩
  have h_take : Has l.prog w K mg base 1 "_law_take" ["_law_pool_here", "_law_many"] spTake := ⟨f_take, _, ok_take F_take T, PySem.W.mg_of X G a_take, k_take, b_take⟩
  have h_node : Has l.prog w K mg base 4 "_law_node" ["_law_pool_here", "_law_depth", "_law_kinds", "_law_marks"] (spNode KS MS 2) := ⟨f_node, _, ok_node F_node T h_take (PySem.W.mg_of X G a_node) k_node b_node (by decide) (by decide) (by decide) 2, PySem.W.mg_of X G a_node, k_node, b_node⟩
  have h_ltext : Has l.prog w K mg base 22 "_law_text" ["_law_node_here"] (spTextW 20) := ⟨f_ltext, _, ok_wtext F_ltext T (PySem.W.mg_of X G a_ltext) k_ltext b_ltext 20 (by decide), PySem.W.mg_of X G a_ltext, k_ltext, b_ltext⟩
  have h_lpaths : Has l.prog w K mg base 22 "_law_paths" ["_law_node_here", "_law_path"] (spPathsW 20) := ⟨f_lpaths, _, ok_wpaths F_lpaths T (PySem.W.mg_of X G a_lpaths) k_lpaths b_lpaths 20 (by decide), PySem.W.mg_of X G a_lpaths, k_lpaths, b_lpaths⟩
  have h_parse : Has l.prog w K mg base 5 "parse_document" ["text"] (spParse C) := ⟨f_parse, _, ok_parse F_parse T h_rows h_make, PySem.W.mg_of X G a_parse, k_parse, b_parse⟩
  have GC := ok_called F_called WY
  have GS := ok_said F_said T ER U GC (PySem.W.mg_of X G a_called) k_called b_called
  have GM := ok_limits F_limits T DC ER U h_parse ⟨f_parse, _, ok_parseL F_parse T ER h_rows, PySem.W.mg_of X G a_parse, k_parse, b_parse⟩ h_remP h_kindP h_sizeP GS (PySem.W.mg_of X G a_said) k_said b_said
  exact ok_law F_law T DC (PySem.W.mg_none_of X G z_repr)
    { pool := h_pool, take := h_take, node := h_node, text := h_ltext, paths := h_lpaths, parse := h_parse, ptext := h_textP, width := h_widthP, nodoc := ⟨knN, knI, knS, knLi⟩,
      said := ⟨f_said, _, GS, PySem.W.mg_of X G a_said, k_said, b_said⟩, limits := ⟨f_limits, _, GM, PySem.W.mg_of X G a_limits, k_limits, b_limits⟩ }
end K04
open PySem PySem.W PyProof.Rows
set_option maxRecDepth 100000 in
set_option maxHeartbeats 0 in
theorem PySem.Challenge.cw_deadrules_k04_edits_of_documents_refused_holds : PySem.Challenge.rw_deadrules_k04_edits_of_documents_refused.Holds := by
  w_on; o_law; k_head; (case hw => w_witness2)
  k_fill
  refine DR.walk_ofI (l := PySem.Challenge.rw_deadrules_k04_edits_of_documents_refused) (n := 63) (k := 24) (x := "_law_script") (C0 := L2.CX0) (sp := K04.spLaw) rfl (by decide) rfl ⟨rfl, by decide, by decide⟩ (fun w h Y => PySem.W.kIn_of Y) ?F
    (fun _ _ a ns hl _ hS => ⟨a, ns, rfl, hS, hl, fun _ => rfl⟩) (fun _ _ _ _ z => z)
  case F =>
    intro w mg fa h KX G hmg
    refine' K04.all_mk KX G hmg ?aC ?pgC ?hdC ?poC ?saC ?n_rows ?n_paths ?n_places ?n_text ?mkC ?kC ?moC ?caC ?sgC ?tkC ?aS ?aCP ?aIP ?tIP ?lIP ?cIP ?kIP ?kCP ?qCP ?oCP ?sCP ?hCP ?gCP ?ggCP ?bCP ?nCP ?iCP ?caCP ?mCP ?tyCP ?aCN ?aIN ?tIN ?lIN ?cIN ?kIN ?kCN ?qCN ?oCN ?sCN ?hCN ?gCN ?ggCN ?bCN ?nCN ?iCN ?caCN ?mCN ?tyCN ?aCA ?aIA ?tIA ?lIA ?cIA ?kIA ?kCA ?qCA ?oCA ?sCA ?hCA ?gCA ?ggCA ?bCA ?nCA ?iCA ?caCA ?mCA ?tyCA ?aCL ?aIL ?tIL ?lIL ?cIL ?kIL ?kCL ?qCL ?oCL ?sCL ?hCL ?gCL ?ggCL ?bCL ?nCL ?iCL ?caCL ?mCL ?tyCL ?ssPP ?ssNP ?ssNN ?ssAP ?ssAN ?ssAA ?ssLP ?ssLN ?ssLA ?ssLL ?ktP ?ktN ?ktA ?ktL ?fi_init ?l_init ?c_init ?k_init ?i_init ?fi_textP ?sp_textP ?tk_textP ?re_textP ?l_textP ?c_textP ?k_textP ?i_textP ?fi_sizeP ?sp_sizeP ?tk_sizeP ?re_sizeP ?l_sizeP ?c_sizeP ?k_sizeP ?i_sizeP ?fi_hasP ?l_hasP ?c_hasP ?k_hasP ?i_hasP ?fi_kindP ?l_kindP ?c_kindP ?k_kindP ?i_kindP ?fi_marksP ?l_marksP ?c_marksP ?k_marksP ?i_marksP ?fi_widthP ?l_widthP ?c_widthP ?k_widthP ?i_widthP ?fi_partP ?l_partP ?c_partP ?k_partP ?i_partP ?fi_insP ?l_insP ?c_insP ?k_insP ?i_insP ?fi_remP ?l_remP ?c_remP ?k_remP ?i_remP ?fi_renP ?l_renP ?c_renP ?k_renP ?i_renP ?fi_marP ?l_marP ?c_marP ?k_marP ?i_marP ?fi_placeP ?l_placeP ?c_placeP ?k_placeP ?i_placeP ?fi_endP ?l_endP ?c_endP ?k_endP ?i_endP ?fi_kidsP ?l_kidsP ?c_kidsP ?k_kidsP ?i_kidsP ?a_int ?l_int ?c_int ?k_int ?a_between ?l_between ?c_between ?k_between ?a_name ?l_name ?c_name ?k_name ?a_names ?l_names ?c_names ?k_names ?a_cut ?l_cut ?c_cut ?k_cut ?a_parse ?l_parse ?c_parse ?k_parse ?a_rows ?l_rows ?c_rows ?k_rows ?a_head ?l_head ?c_head ?k_head ?a_text ?l_text ?c_text ?k_text ?a_paths ?l_paths ?c_paths ?k_paths ?a_moved ?l_moved ?c_moved ?k_moved ?a_isPath ?l_isPath ?c_isPath ?k_isPath ?a_pool ?l_pool ?c_pool ?k_pool ?a_take ?l_take ?c_take ?k_take ?a_node ?l_node ?c_node ?k_node ?a_ltext ?l_ltext ?c_ltext ?k_ltext ?a_lpaths ?l_lpaths ?c_lpaths ?k_lpaths ?a_called ?l_called ?c_called ?k_called ?a_said ?l_said ?c_said ?k_said ?a_limits ?l_limits ?c_limits ?k_limits ?a_law ?l_law ?c_law ?k_law ?z_int ?z_bool ?z_str ?z_list ?z_tuple ?z_set ?z_len ?z_all ?z_sorted ?z_isinstance ?z_enumerate ?z_range ?z_max ?z_min ?z_repr ?z_OverflowError ?g_LETTERS ?r_LETTERS ?g_LONGEST_NAME ?r_LONGEST_NAME ?g_MOST_NODES ?r_MOST_NODES ?kitC ?knN ?knI ?knS ?knLi
    (case aC => k_is)
    (case pgC => k_is)
    (case hdC => k_is)
    (case poC => k_is)
    (case saC => k_is)
    (case n_rows => k_is)
    (case n_paths => k_is)
    (case n_places => k_is)
    (case n_text => k_is)
    (case mkC => k_is)
    (case kC => k_is)
    (case moC => k_is)
    (case caC => k_is)
    (case sgC => k_is)
    (case tkC => k_is)
    (case aS => k_is)
    (case aCP => k_is)
    (case aIP => k_is)
    (case tIP => k_is)
    (case lIP => k_is)
    (case cIP => k_is)
    (case kIP => k_is)
    (case kCP => k_is)
    (case qCP => kx_is)
    (case oCP => kx_is)
    (case sCP => k_is)
    (case hCP => k_is)
    (case gCP => k_is)
    (case ggCP => k_is)
    (case bCP => k_is)
    (case nCP => k_is)
    (case iCP => k_is)
    (case caCP => k_is)
    (case mCP => k_is)
    (case tyCP => k_is)
    (case aCN => k_is)
    (case aIN => k_is)
    (case tIN => k_is)
    (case lIN => k_is)
    (case cIN => k_is)
    (case kIN => k_is)
    (case kCN => k_is)
    (case qCN => kx_is)
    (case oCN => kx_is)
    (case sCN => k_is)
    (case hCN => k_is)
    (case gCN => k_is)
    (case ggCN => k_is)
    (case bCN => k_is)
    (case nCN => k_is)
    (case iCN => k_is)
    (case caCN => k_is)
    (case mCN => k_is)
    (case tyCN => k_is)
    (case aCA => k_is)
    (case aIA => k_is)
    (case tIA => k_is)
    (case lIA => k_is)
    (case cIA => k_is)
    (case kIA => k_is)
    (case kCA => k_is)
    (case qCA => kx_is)
    (case oCA => kx_is)
    (case sCA => k_is)
    (case hCA => k_is)
    (case gCA => k_is)
    (case ggCA => k_is)
    (case bCA => k_is)
    (case nCA => k_is)
    (case iCA => k_is)
    (case caCA => k_is)
    (case mCA => k_is)
    (case tyCA => k_is)
    (case aCL => k_is)
    (case aIL => k_is)
    (case tIL => k_is)
    (case lIL => k_is)
    (case cIL => k_is)
    (case kIL => k_is)
    (case kCL => k_is)
    (case qCL => kx_is)
    (case oCL => kx_is)
    (case sCL => k_is)
    (case hCL => k_is)
    (case gCL => k_is)
    (case ggCL => k_is)
    (case bCL => k_is)
    (case nCL => k_is)
    (case iCL => k_is)
    (case caCL => k_is)
    (case mCL => k_is)
    (case tyCL => k_is)
    (case ssPP => first | rfl | k_is | kernel_rfl)
    (case ssNP => first | rfl | k_is | kernel_rfl)
    (case ssNN => first | rfl | k_is | kernel_rfl)
    (case ssAP => first | rfl | k_is | kernel_rfl)
    (case ssAN => first | rfl | k_is | kernel_rfl)
    (case ssAA => first | rfl | k_is | kernel_rfl)
    (case ssLP => first | rfl | k_is | kernel_rfl)
    (case ssLN => first | rfl | k_is | kernel_rfl)
    (case ssLA => first | rfl | k_is | kernel_rfl)
    (case ssLL => first | rfl | k_is | kernel_rfl)
    (case ktP => first | k_is | kernel_rfl)
    (case ktN => first | k_is | kernel_rfl)
    (case ktA => first | k_is | kernel_rfl)
    (case ktL => first | k_is | kernel_rfl)
    (case fi_init => k_is)
    (case l_init => k_is)
    (case c_init => k_is)
    (case k_init => k_is)
    (case i_init => k_is)
    (case fi_textP => k_is)
    (case sp_textP => k_is)
    (case tk_textP => k_is)
    (case re_textP => k_is)
    (case l_textP => k_is)
    (case c_textP => k_is)
    (case k_textP => k_is)
    (case i_textP => k_is)
    (case fi_sizeP => k_is)
    (case sp_sizeP => k_is)
    (case tk_sizeP => k_is)
    (case re_sizeP => k_is)
    (case l_sizeP => k_is)
    (case c_sizeP => k_is)
    (case k_sizeP => k_is)
    (case i_sizeP => k_is)
    (case fi_hasP => k_is)
    (case l_hasP => k_is)
    (case c_hasP => k_is)
    (case k_hasP => k_is)
    (case i_hasP => k_is)
    (case fi_kindP => k_is)
    (case l_kindP => k_is)
    (case c_kindP => k_is)
    (case k_kindP => k_is)
    (case i_kindP => k_is)
    (case fi_marksP => k_is)
    (case l_marksP => k_is)
    (case c_marksP => k_is)
    (case k_marksP => k_is)
    (case i_marksP => k_is)
    (case fi_widthP => k_is)
    (case l_widthP => k_is)
    (case c_widthP => k_is)
    (case k_widthP => k_is)
    (case i_widthP => k_is)
    (case fi_partP => k_is)
    (case l_partP => k_is)
    (case c_partP => k_is)
    (case k_partP => k_is)
    (case i_partP => k_is)
    (case fi_insP => k_is)
    (case l_insP => k_is)
    (case c_insP => k_is)
    (case k_insP => k_is)
    (case i_insP => k_is)
    (case fi_remP => k_is)
    (case l_remP => k_is)
    (case c_remP => k_is)
    (case k_remP => k_is)
    (case i_remP => k_is)
    (case fi_renP => k_is)
    (case l_renP => k_is)
    (case c_renP => k_is)
    (case k_renP => k_is)
    (case i_renP => k_is)
    (case fi_marP => k_is)
    (case l_marP => k_is)
    (case c_marP => k_is)
    (case k_marP => k_is)
    (case i_marP => k_is)
    (case fi_placeP => k_is)
    (case l_placeP => k_is)
    (case c_placeP => k_is)
    (case k_placeP => k_is)
    (case i_placeP => k_is)
    (case fi_endP => k_is)
    (case l_endP => k_is)
    (case c_endP => k_is)
    (case k_endP => k_is)
    (case i_endP => k_is)
    (case fi_kidsP => k_is)
    (case l_kidsP => k_is)
    (case c_kidsP => k_is)
    (case k_kidsP => k_is)
    (case i_kidsP => k_is)
    (case a_int => k_is)
    (case l_int => k_is)
    (case c_int => k_is)
    (case k_int => k_is)
    (case a_between => k_is)
    (case l_between => k_is)
    (case c_between => k_is)
    (case k_between => k_is)
    (case a_name => k_is)
    (case l_name => k_is)
    (case c_name => k_is)
    (case k_name => k_is)
    (case a_names => k_is)
    (case l_names => k_is)
    (case c_names => k_is)
    (case k_names => k_is)
    (case a_cut => k_is)
    (case l_cut => k_is)
    (case c_cut => k_is)
    (case k_cut => k_is)
    (case a_parse => k_is)
    (case l_parse => k_is)
    (case c_parse => k_is)
    (case k_parse => k_is)
    (case a_rows => k_is)
    (case l_rows => k_is)
    (case c_rows => k_is)
    (case k_rows => k_is)
    (case a_head => k_is)
    (case l_head => k_is)
    (case c_head => k_is)
    (case k_head => k_is)
    (case a_text => k_is)
    (case l_text => k_is)
    (case c_text => k_is)
    (case k_text => k_is)
    (case a_paths => k_is)
    (case l_paths => k_is)
    (case c_paths => k_is)
    (case k_paths => k_is)
    (case a_moved => k_is)
    (case l_moved => k_is)
    (case c_moved => k_is)
    (case k_moved => k_is)
    (case a_isPath => k_is)
    (case l_isPath => k_is)
    (case c_isPath => k_is)
    (case k_isPath => k_is)
    (case a_pool => k_is)
    (case l_pool => k_is)
    (case c_pool => k_is)
    (case k_pool => k_is)
    (case a_take => k_is)
    (case l_take => k_is)
    (case c_take => k_is)
    (case k_take => k_is)
    (case a_node => k_is)
    (case l_node => k_is)
    (case c_node => k_is)
    (case k_node => k_is)
    (case a_ltext => k_is)
    (case l_ltext => k_is)
    (case c_ltext => k_is)
    (case k_ltext => k_is)
    (case a_lpaths => k_is)
    (case l_lpaths => k_is)
    (case c_lpaths => k_is)
    (case k_lpaths => k_is)
    (case a_called => k_is)
    (case l_called => k_is)
    (case c_called => k_is)
    (case k_called => k_is)
    (case a_said => k_is)
    (case l_said => k_is)
    (case c_said => k_is)
    (case k_said => k_is)
    (case a_limits => k_is)
    (case l_limits => k_is)
    (case c_limits => k_is)
    (case k_limits => k_is)
    (case a_law => k_is)
    (case l_law => k_is)
    (case c_law => k_is)
    (case k_law => k_is)
    (case z_int => k_is)
    (case z_bool => k_is)
    (case z_str => k_is)
    (case z_list => k_is)
    (case z_tuple => k_is)
    (case z_set => k_is)
    (case z_len => k_is)
    (case z_all => k_is)
    (case z_sorted => k_is)
    (case z_isinstance => k_is)
    (case z_enumerate => k_is)
    (case z_range => k_is)
    (case z_max => k_is)
    (case z_min => k_is)
    (case z_repr => k_is)
    (case z_OverflowError => k_is)
    (case g_LETTERS => k_is)
    (case r_LETTERS => first | exact ⟨_, rfl⟩ | exact ⟨_, by kernel_rfl⟩)
    (case g_LONGEST_NAME => k_is)
    (case r_LONGEST_NAME => first | exact ⟨_, rfl⟩ | exact ⟨_, by kernel_rfl⟩)
    (case g_MOST_NODES => k_is)
    (case r_MOST_NODES => first | exact ⟨_, rfl⟩ | exact ⟨_, by kernel_rfl⟩)
    (case kitC => first | k_is | kernel_rfl)
    (case knN => first | k_is | kernel_rfl)
    (case knI => first | k_is | kernel_rfl)
    (case knS => first | k_is | kernel_rfl)
    (case knLi => first | k_is | kernel_rfl)

